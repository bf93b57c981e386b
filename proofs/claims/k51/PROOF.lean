import PyProof.Rows.All
import Wide.All
import OpenK.AllK
import Wide.FinOn
import Lean
import PyProof.EqAt
import PyProof.EqKinds
import PyProof.TupleCall
import KE.KRevIter
import OpenK.KOwn
import PySem.Challenge.RW_decidebook_k51_neighbours_exchanged
set_option Elab.async false
set_option linter.all false
set_option maxRecDepth 100000
namespace L2
open PySem PySem.Spec PyProof.Rows
abbrev Key:=Sum Int Str
def keyIs:Key→Value→Bool
  | .inl k,v=>Value.isInt k v
  | .inr x,v=>Value.isStrOf x v
def keyH (w:World):Key→Int
  | .inl k=>hashInt k
  | .inr x=>hashStr w x
theorem keyIs_shape:∀ {k:Key} {v:Value},keyIs k v = true→(∃ i t,k = Sum.inl i∧v = Value.int i t)∨(∃ x t,k = Sum.inr x∧v = Value.str x t)
  | .inl i,v,h=>by
    obtain ⟨t,e⟩:=Value.isInt_shape (k:=i) (v:=v) h
    exact .inl ⟨i,t,rfl,e⟩
  | .inr x,v,h=>by
    obtain ⟨t,e⟩:=Value.isStrOf_shape (x:=x) (v:=v) h
    exact .inr ⟨x,t,rfl,e⟩
theorem keyIs_int (i:Int) (t:Tok):keyIs (.inl i) (.int i t) = true:=by simp [keyIs,Value.isInt]
theorem keyIs_str (x:Str) (t:Tok):keyIs (.inr x) (.str x t) = true:=by simp [keyIs,Value.isStrOf]
theorem key_ll (a b:Int):decide ((Sum.inl a:Key) = Sum.inl b) = (a == b):=by
  by_cases e:a = b
  · subst e; simp
  · have h:¬ (Sum.inl a:Key) = Sum.inl b:=fun q=>e (Sum.inl.inj q)
    rw [decide_eq_false h]
    exact (beq_eq_false_iff_ne.mpr e).symm
theorem key_rr (a b:Str):decide ((Sum.inr a:Key) = Sum.inr b) = decide (a = b):=by
  by_cases e:a = b
  · subst e; simp
  · have h:¬ (Sum.inr a:Key) = Sum.inr b:=fun q=>e (Sum.inr.inj q)
    rw [decide_eq_false h,decide_eq_false e]
theorem key_lr (a:Int) (b:Str):decide ((Sum.inl a:Key) = Sum.inr b) = false:=decide_eq_false (fun q=>nomatch q)
theorem key_rl (a:Str) (b:Int):decide ((Sum.inr a:Key) = Sum.inl b) = false:=decide_eq_false (fun q=>nomatch q)
def mixKind (prog:Program) (w:World):PySem.KeyKind prog w Key where
  is:=keyIs
  hash:=keyH w
  inj:=fun v a b ha hb=>by
    rcases keyIs_shape ha with ⟨i,t,rfl,rfl⟩ | ⟨x,t,rfl,rfl⟩
    · rcases keyIs_shape hb with ⟨j,u,rfl,e⟩ | ⟨y,u,rfl,e⟩
      · injection e with e1 _; rw [e1]
      · exact nomatch e
    · rcases keyIs_shape hb with ⟨j,u,rfl,e⟩ | ⟨y,u,rfl,e⟩
      · exact nomatch e
      · injection e with e1 _; rw [e1]
  byValue:=fun k v h=>by
    rcases keyIs_shape h with ⟨i,t,rfl,rfl⟩ | ⟨x,t,rfl,rfl⟩ <;> rfl
  pyHash:=fun hv h=>by
    rcases keyIs_shape hv with ⟨i,t,rfl,rfl⟩ | ⟨x,t,rfl,rfl⟩
    · exact wpAny_pyHash_int h
    · exact wpAny_pyHash_str h
  eqBool:=fun hu hv h=>by
    rcases keyIs_shape hu with ⟨i,t,rfl,rfl⟩ | ⟨x,t,rfl,rfl⟩
    · rcases keyIs_shape hv with ⟨j,u,rfl,rfl⟩ | ⟨y,u,rfl,rfl⟩
      · rw [key_ll] at h; exact wpAny_eqBool_int h
      · rw [key_lr] at h; exact SeqAt.EqAt.int_str i t y u _ _ _ _ h
    · rcases keyIs_shape hv with ⟨j,u,rfl,rfl⟩ | ⟨y,u,rfl,rfl⟩
      · rw [key_rl] at h; exact SeqAt.EqAt.str_int x t j u _ _ _ _ h
      · rw [key_rr] at h; exact wpAny_eqBool_str h
  «strs»:=fun k x t v h=>by
    rcases keyIs_shape h with ⟨i,u,rfl,e⟩ | ⟨y,u,rfl,e⟩
    · exact nomatch e
    · injection e with e1 _
      subst e1
      cases v <;> rfl
theorem mixKind_int (prog:Program) (w:World) (i:Int) (t:Tok):(mixKind prog w).is (.inl i) (.int i t) = true:=keyIs_int i t
theorem mixKind_str (prog:Program) (w:World) (x:Str) (t:Tok):(mixKind prog w).is (.inr x) (.str x t) = true:=keyIs_str x t
end L2
namespace L2
open PySem PySem.Spec PyProof.Rows
inductive V where
  | non | bl (b:Bool) | int (i:Int) | str (x:Str) | byt (b:Array UInt8) | flt (b:UInt64) | ref (a:Addr) | ty (n:String)
  deriving DecidableEq
def RelV:V→Value→Prop
  | .non,u=>u = Value.none
  | .bl b,u=>u = Value.bool b
  | .int i,u=>∃ t,u = Value.int i t
  | .str x,u=>∃ t,u = Value.str x t
  | .byt b,u=>∃ t,u = Value.bytes b t
  | .flt b,u=>∃ t,u = Value.float b t
  | .ref a,u=>u = Value.ref a
  | .ty n,u=>u = Value.type n
abbrev Vals:List V→List Value→Prop:=Paired RelV
theorem Vals.length {xs:List V} {us:List Value} (r:Vals xs us):xs.length = us.length:=Paired.length r
theorem Vals.get:∀ {xs:List V} {us:List Value} {i:Nat} {x:V},Vals xs us→xs[i]? = some x→∃ u,us[i]? = some u∧RelV x u
  | _,_,_,_,.nil,e=>by simp at e
  | _,_,0,_,.cons r _,e=>by simp at e; subst e; exact ⟨_,rfl,r⟩
  | _,_,i + 1,x,.cons _ t,e=>by
    obtain ⟨u,h1,h2⟩:=Vals.get (i:=i) (x:=x) t (by simpa using e)
    exact ⟨u,by simpa using h1,h2⟩
theorem Vals.append:∀ {xs ys:List V} {us ws:List Value},Vals xs us→Vals ys ws→Vals (xs ++ ys) (us ++ ws)
  | _,_,_,_,.nil,s=>s
  | _,_,_,_,.cons r t,s=>.cons r (Vals.append t s)
theorem Vals.take:∀ {xs:List V} {us:List Value} (n:Nat),Vals xs us→Vals (xs.take n) (us.take n)
  | _,_,0,_=>.nil
  | _,_,_ + 1,.nil=>.nil
  | _,_,n + 1,.cons r t=>.cons r (Vals.take n t)
theorem Vals.drop:∀ {xs:List V} {us:List Value} (n:Nat),Vals xs us→Vals (xs.drop n) (us.drop n)
  | _,_,0,r=>r
  | _,_,_ + 1,.nil=>.nil
  | _,_,n + 1,.cons _ t=>Vals.drop n t
def RelO:Option V→Option Value→Prop
  | some v,some u=>RelV v u
  | none,none=>True
  | _,_=>False
def KV {κ:Type}:List (κ × V)→List (κ × Value)→Prop:=Paired fun (p:κ × V) (q:κ × Value)=>p.1 = q.1∧RelV p.2 q.2
def kV:Key→V
  | .inl i=>.int i
  | .inr x=>.str x
inductive HO where
  | lst (xs:List V)
  | tup (xs:List V)
  | dK (kvs:List (Key × V)) | dT (kvs:List (List Key × V))
  | set (S:Int→Bool) (n:Nat)
  | ins (C dx:Addr) (fs:List (Str × V))
  | own (x:Addr)
  | xd (fs:List (Str × V))
  | met (f x:Addr)
  | rng (lo hi:Int)
  | frz (o:Obj) (u:HO)
  | tbl (ps:Array Value)
  | ext (φ:Heap→Prop)
abbrev Hp:=Addr→Option HO
def upd (H:Hp) (a:Addr) (o:HO):Hp:=fun b=>if b = a then some o else H b
theorem upd_same {H:Hp} {a:Addr} {o:HO}:upd H a o a = some o:=by unfold upd; rw [if_pos rfl]
theorem upd_ne {H:Hp} {a b:Addr} {o:HO} (h:b≠a):upd H a o b = H b:=by unfold upd; rw [if_neg h]
theorem upd_upd {H:Hp} {a:Addr} {o u:HO}:upd (upd H a o) a u = upd H a u:=by
  funext b; unfold upd; split <;> rfl
theorem ne_of {H:Hp} {a b:Addr} {o u:HO} (h:H a = some o) (h':H b = some u) (d:o≠u):a≠b:=by
  intro e; subst e; rw [h] at h'; exact d (Option.some.inj h')
theorem ne_of_none {H:Hp} {a b:Addr} {o:HO} (h:H a = some o) (h':H b = none):a≠b:=by
  intro e; subst e; rw [h] at h'; cases h'
section
variable (P:Program) (w:World)
def ObjOk (H:Hp) (h:Heap) (a:Addr):HO→Prop
  | .lst xs=>xs.length≤sizeLine∧∃ (its:List Value) (n:Nat),Vals xs its∧h.get? a = some { cls:=.type "list", data:=.seq its.toArray n }
  | .tup xs=>xs.length≤sizeLine∧∃ its:List Value,Vals xs its∧IsTup h a its.toArray
  | .dK kvs=>kvs.length≤sizeLine∧(a == sysModules) = false∧∃ vs,KV kvs vs∧h.DictOf (mixKind P w) a vs
  | .dT kvs=>kvs.length≤sizeLine∧(a == sysModules) = false∧∃ xs:List (List Key × Addr × Value),
      Paired (fun (p:List Key × V) (q:List Key × Addr × Value)=>p.1 = q.1∧H q.2.1 = some (.tup (p.1.map kV))∧RelV p.2 q.2.2) kvs xs ∧
      ∃ o es ep,h.get? a = some o∧o.ExactDict∧o.data = .dict es ep∧es.toList = xs.map (entryOfKey (tupleKind (mixKind P w)))∧(xs.map (·.1)).Nodup
  | .set S n=>h.SetOf (intKind P w) a S n
  | .ins C dx fs=>H dx = some (.own a)∧fs.length≤1000∧dx≠a∧h.get? a = some (PySem.W.instObj C dx) ∧
      ∃ mA,h.Ns1 dx mA∧(∀ f,RelO (fs.lookup f) (mA f))∧PySem.Within mA (fs.map (·.1))
  | .own _=>∃ o,h.get? a = some o
  | .xd fs=>∃ mA,h.Ns1 a mA∧∀ f,RelO (fs.lookup f) (mA f)
  | .rng lo hi=>∃ t u v,h.get? a = some { cls:=.type "range", data:=.fields #[.int lo t,.int hi u,.int 1 v] }
  | .frz o u=>h.get? a = some o∧ObjOk H h a u
  | .tbl ps=>h.get? a = some { cls:=.none,data:=.fields ps }
  | .met f x=>h.get? a = some (PySem.W.methodObj (.ref f) (.ref x))
  | .ext φ=>φ h∧(∃ o,h.get? a = some o)∧∀ h1 h2:Heap,φ h1→(∀ o,h1.get? a = some o→h2.get? a = some o)→φ h2
def HOk (H:Hp) (h:Heap):Prop:=∀ a o,H a = some o→ObjOk P w H h a o
end
section
variable {P:Program} {w:World} {H H':Hp} {h h':Heap} {a:Addr} {o:HO}
theorem ObjOk.lt (x:ObjOk P w H h a o):a < h.objs.size:=by
  cases o with
  | lst xs=>obtain ⟨_,_,_,_,e⟩:=x; exact Heap.lt_size e
  | tup xs=>obtain ⟨_,_,_,p⟩:=x; exact p.lt
  | dK kvs=>obtain ⟨_,_,_,_,o,_,_,e,_⟩:=x; exact Heap.lt_size e
  | dT kvs=>obtain ⟨_,_,_,_,o,_,_,e,_⟩:=x; exact Heap.lt_size e
  | set S n=>obtain ⟨o,_,_,_,e,_⟩:=x; exact Heap.lt_size e
  | ins C dx fs=>obtain ⟨_,_,_,e,_⟩:=x; exact Heap.lt_size e
  | own y=>obtain ⟨_,e⟩:=x; exact Heap.lt_size e
  | xd fs=>obtain ⟨_,⟨_,_,_,e,_⟩,_⟩:=x; exact Heap.lt_size e
  | rng lo hi=>obtain ⟨_,_,_,e⟩:=x; exact Heap.lt_size e
  | frz ob u=>obtain ⟨e,_⟩:=x; exact Heap.lt_size e
  | tbl ps=>exact Heap.lt_size (show h.get? a = some _ from x)
  | met f y=>exact Heap.lt_size (show h.get? a = some _ from x)
  | ext φ=>obtain ⟨_,⟨_,e⟩,_⟩:=x; exact Heap.lt_size e
theorem Paired.mapP {α β:Type} {F G:α→β→Prop}:∀ {l₁:List α} {l₂:List β},Paired F l₁ l₂→(∀ a b,F a b→G a b)→Paired G l₁ l₂
  | _,_,.nil,_=>.nil
  | _,_,.cons r t,f=>.cons (f _ _ r) (Paired.mapP t f)
theorem ObjOk.stay (x:ObjOk P w H h a o) (k:∀ b u,(b = a∨H b = some (.own a))→h.get? b = some u→h'.get? b = some u)
    (ho:∀ b,H b = some (.own a)→H' b = some (.own a)) (ht:∀ b xs,H b = some (.tup xs)→H' b = some (.tup xs)):ObjOk P w H' h' a o:=by
  induction o with
  | lst xs=>obtain ⟨z,its,n,r,e⟩:=x; exact ⟨z,its,n,r,k _ _ (.inl rfl) e⟩
  | tup xs=>obtain ⟨z,its,r,ob,e,c⟩:=x; exact ⟨z,its,r,ob,k _ _ (.inl rfl) e,c⟩
  | dK kvs=>obtain ⟨z,y,vs,r,ob,es,ep,e,c⟩:=x; exact ⟨z,y,vs,r,ob,es,ep,k _ _ (.inl rfl) e,c⟩
  | dT kvs =>
    obtain ⟨z,y,xs,r,ob,es,ep,e,c⟩:=x
    exact ⟨z,y,xs,Paired.mapP r fun p q z=>⟨z.1,ht _ _ z.2.1,z.2.2⟩,ob,es,ep,k _ _ (.inl rfl) e,c⟩
  | set S n=>obtain ⟨ob,es,ep,t,e,c⟩:=x; exact ⟨ob,es,ep,t,k _ _ (.inl rfl) e,c⟩
  | ins C dx fs =>
    obtain ⟨d,z,ne,e,mA,⟨od,es,ep,e2,c⟩,r⟩:=x
    exact ⟨ho _ d,z,ne,k _ _ (.inl rfl) e,mA,⟨od,es,ep,k _ _ (.inr d) e2,c⟩,r⟩
  | own y=>obtain ⟨ob,e⟩:=x; exact ⟨ob,k _ _ (.inl rfl) e⟩
  | xd fs=>obtain ⟨mA,⟨od,es,ep,e,c⟩,r⟩:=x; exact ⟨mA,⟨od,es,ep,k _ _ (.inl rfl) e,c⟩,r⟩
  | rng lo hi=>obtain ⟨t,u,v,e⟩:=x; exact ⟨t,u,v,k _ _ (.inl rfl) e⟩
  | frz ob u ih=>obtain ⟨e,q⟩:=x; exact ⟨k _ _ (.inl rfl) e,ih q⟩
  | tbl ps =>
    have e:h.get? a = some { cls:=.none,data:=.fields ps }:=x
    show h'.get? a = some { cls:=.none,data:=.fields ps }
    exact k a _ (.inl rfl) e
  | met f y =>
    have e:h.get? a = some (PySem.W.methodObj (.ref f) (.ref y)):=x
    show h'.get? a = some (PySem.W.methodObj (.ref f) (.ref y))
    exact k a _ (.inl rfl) e
  | ext φ=>obtain ⟨p,⟨o,e⟩,st⟩:=x; exact ⟨st _ _ p fun o q=>k _ _ (.inl rfl) q,⟨o,k _ _ (.inl rfl) e⟩,st⟩
theorem HOk.lt (x:HOk P w H h) (e:H a = some o):a < h.objs.size:=(x a o e).lt
theorem HOk.fresh (x:HOk P w H h) (e:h.objs.size≤a):H a = none:=by
  cases q:H a with
  | none=>rfl
  | some u=>exact absurd (Nat.lt_of_lt_of_le (x.lt q) e) (Nat.lt_irrefl _)
theorem HOk.kept (x:HOk P w H h) (k:∀ b u,h.get? b = some u→h'.get? b = some u):HOk P w H h':=fun a o e =>
  (x a o e).stay (fun b u _ q=>k b u q) (fun _ q=>q) fun _ _ q=>q
theorem HOk.laid (x:HOk P w H h) (k:∀ b u,h.get? b = some u→h'.get? b = some u) (hp:h.objs.size≤a) (new:ObjOk P w (upd H a o) h' a o):HOk P w (upd H a o) h':=fun b u e=>by
  have hn:=x.fresh hp
  by_cases hb:b = a
  · subst hb; rw [upd_same] at e; cases e; exact new
  · rw [upd_ne hb] at e
    exact (x b u e).stay (fun c v _ q=>k c v q) (fun c q=>by rw [upd_ne (ne_of_none q hn)]; exact q) fun c xs q=>by rw [upd_ne (ne_of_none q hn)]; exact q
end
def Rd (H:Hp) (a:Addr) (u:HO):Prop:=H a = some u∨∃ o,H a = some (.frz o u)
theorem Rd.ok {P:Program} {w:World} {H:Hp} {h:Heap} {a:Addr} {u:HO} (r:Rd H a u) (x:HOk P w H h):ObjOk P w H h a u:=by
  rcases r with r | ⟨o,r⟩
  · exact x a u r
  · obtain ⟨_,q⟩:=x a _ r
    exact q
def Mut:Option HO→Prop
  | some (.lst _)=>True
  | some (.dK _)=>True
  | some (.dT _)=>True
  | some (.set _ _)=>True
  | some (.ins _ _ _)=>True
  | some (.ext _)=>True
  | _=>False
section
variable {P:Program} {w:World} {H:Hp} {h h':Heap} {x e:Addr} {o':HO}
theorem HOk.write (ok:HOk P w H h) (mu:Mut (H x)) (he:e = x∨H e = some (.own x)) (k:∀ b u,b≠e→h.get? b = some u→h'.get? b = some u) (heo:∃ u,h'.get? e = some u)
    (new:ObjOk P w (upd H x o') h' x o'):HOk P w (upd H x o') h':=fun b u q=>by
  have nown:∀ c y,H c = some (.own y)→c≠x:=fun c y r z=>by subst z; rw [r] at mu; exact mu
  have ntup:∀ c xs,H c = some (.tup xs)→c≠x:=fun c xs r z=>by subst z; rw [r] at mu; exact mu
  by_cases hb:b = x
  · subst hb; rw [upd_same] at q; cases q; exact new
  · rw [upd_ne hb] at q
    by_cases hbe:b = e
    · have q':H b = some (.own x):=by
        rcases he with z | z
        · exact absurd (hbe.trans z) hb
        · rw [hbe]; exact z
      rw [q] at q'; cases q'
      obtain ⟨v,hv⟩:=heo
      exact ⟨v,by rw [hbe]; exact hv⟩
    · refine (ok b u q).stay (fun c v hc r=>k c v ?_ r) (fun c r=>by rw [upd_ne (nown c b r)]; exact r) fun c xs r=>by rw [upd_ne (ntup c xs r)]; exact r
      rcases hc with rfl | hc
      · exact hbe
      · rintro rfl
        rcases he with z | z
        · exact nown c b hc z
        · rw [hc] at z; cases z; exact hb rfl
end
structure Un (fs ex:List Addr) (H H':Hp) (h h':Heap):Prop where
  keep:∀ b o,h.get? b = some o→H b = none→b ∉ fs→b ∉ ex→h'.get? b = some o
  slot:∀ b o,h.get? b = some o→H b = none→b∈fs→b ∉ ex→∃ sl,h'.get? b = some { o with slots:=sl }
  free:∀ b o,h.get? b = some o→H b = none→b ∉ ex→H' b = none
  there:∀ b o,h.get? b = some o→b ∉ ex→∃ o',h'.get? b = some o'
  tups:∀ b xs,H b = some (.tup xs)→H' b = some (.tup xs)
  frzs:∀ b o u,H b = some (.frz o u)→H' b = some (.frz o u)
  tbls:∀ b ps,H b = some (.tbl ps)→∃ more,H' b = some (.tbl (ps ++ more))
section
variable {fs fs' ex ex':List Addr} {H H1 H2:Hp} {h h1 h2 h':Heap} {a x e:Addr} {o:HO}
theorem Un.any (u:Un fs ex H H1 h h1) {b:Addr} {ob:Obj} (q:h.get? b = some ob) (n:H b = none) (hx:b ∉ ex):∃ sl,h1.get? b = some { ob with slots:=sl }:=by
  by_cases hb:b∈fs
  · exact u.slot b ob q n hb hx
  · exact ⟨ob.slots,u.keep b ob q n hb hx⟩
theorem Un.kept (k:∀ b u,h.get? b = some u→h'.get? b = some u):Un fs ex H H h h' :=
  ⟨fun b ob q _ _ _=>k b ob q,fun b ob q _ _ _=>⟨ob.slots,k b ob q⟩,fun _ _ _ n _=>n,fun b ob q _=>⟨ob,k b ob q⟩,fun _ _ q=>q,fun _ _ _ q=>q,fun _ ps q=>⟨#[],by rw [q]; simp⟩⟩
theorem Un.refl:Un fs ex H H h h:=Un.kept fun _ _ q=>q
theorem Un.laid (k:∀ b u,h.get? b = some u→h'.get? b = some u) (hp:h.objs.size≤a) (hn:H a = none):Un fs ex H (upd H a o) h h' where
  keep:=fun b u q _ _ _=>k b u q
  slot:=fun b u q _ _ _=>⟨u.slots,k b u q⟩
  free:=fun b u q n _=>by rw [upd_ne (Nat.ne_of_lt (Nat.lt_of_lt_of_le (Heap.lt_size q) hp))]; exact n
  there:=fun b u q _=>⟨u,k b u q⟩
  tups:=fun b xs q=>by rw [upd_ne (ne_of_none q hn)]; exact q
  frzs:=fun b u xs q=>by rw [upd_ne (ne_of_none q hn)]; exact q
  tbls:=fun b ps q=>⟨#[],by rw [upd_ne (ne_of_none q hn),q]; simp⟩
theorem Un.write (mu:Mut (H x)) (he:e = x∨H e = some (.own x)) (k:∀ b u,b≠e→h.get? b = some u→h'.get? b = some u) (heo:∃ u,h'.get? e = some u):Un fs ex H (upd H x o) h h':=by
  have hx:∀ b,H b = none→b≠x:=fun b n z=>by subst z; rw [n] at mu; exact mu
  have hb:∀ b,H b = none→b≠e:=fun b n z=>by
    subst z
    rcases he with r | r
    · exact hx b n r
    · rw [n] at r; cases r
  have hm:∀ b u,H b = some u→¬ Mut (some u)→b≠x:=fun b u q nm z=>by subst z; rw [q] at mu; exact nm mu
  refine ⟨fun b u q n _ _=>k b u (hb b n) q,fun b u q n _ _=>⟨u.slots,k b u (hb b n) q⟩,fun b u q n _=>by rw [upd_ne (hx b n)]; exact n,fun b u q _=>?_,
    fun b xs q=>by rw [upd_ne (hm b _ q fun z=>z)]; exact q,fun b u xs q=>by rw [upd_ne (hm b _ q fun z=>z)]; exact q,fun b ps q=>⟨#[],by rw [upd_ne (hm b _ q fun z=>z),q]; simp⟩⟩
  by_cases hbe:b = e
  · subst hbe; exact heo
  · exact ⟨u,k b u hbe q⟩
end
def trk (h:Heap) (H:Hp):List Addr:=(List.range h.objs.size).filter fun a=>(H a).isSome
def hidT (h:Heap) (H:Hp):Heap:=PySem.W.hideAll h (trk h H)
theorem hidT_size (h:Heap) (H:Hp):(hidT h H).objs.size = h.objs.size:=PySem.W.hideAll_size _ _
theorem hidT_get {h:Heap} {H:Hp} {b:Addr} {o:Obj} (e:h.get? b = some o) (n:H b = none):(hidT h H).get? b = some o :=
  PySem.W.hideAll_get _ e fun hm=>by
    have q:(H b).isSome = true:=(List.mem_filter.mp hm).2
    rw [n] at q; simp at q
theorem of_hidT {h:Heap} {H:Hp} {b:Addr} {o:Obj} (e:(hidT h H).get? b = some o):h.get? b = some o∧H b = none:=by
  have e':h.get? b = some o:=PySem.W.of_hideAll (trk h H) e
  refine ⟨e',?_⟩
  cases q:H b with
  | none=>rfl
  | some x =>
    have hm:b∈trk h H:=List.mem_filter.mpr ⟨List.mem_range.mpr (Heap.lt_size e'),by simp [q]⟩
    have z:(hidT h H).get? b = none:=PySem.W.hideAll_none (trk h H) hm
    rw [z] at e; cases e
end L2
namespace L2
open PySem PySem.Spec PyProof.Rows
structure Mod (K:PySem.W.Frag) (mg:Str→Option Value) (base:Heap):Prop where
  kin:K.In base
  glob:base.Ns mainGlobals mg
  blt:∃ mb,base.Ns builtinsNs mb∧∀ x:Str,x ≠ "__name__" → mb x = bootBuiltins x
  nolimit:base.NoLimit
structure Cx where
  prog:Program
  w:World
  K:PySem.W.Frag
  mg:Str→Option Value
  base:Heap
  A:Around
  N:List Str
  s₀:Shared
  H₀:Hp
  env:Env
  outer:List Env
  stack:List Env
  ex:List Addr
  fn:Str→Bool
  calm:Bool
  pn:List (Addr × Obj)
  xe:Value→Shared→Prop
def frs (l:List Env):List Addr:=l.filterMap (·.frame)
abbrev Cx.fs (X:Cx):List Addr:=frs X.outer
def Vis (sc:Scope) (x:Str):Prop:=sc.names.lookup x = some .local∨sc.names.lookup x = some .cell∨sc.names.lookup x = some .free
def Loc (sc:Scope) (x:Str):Prop:=sc.names.lookup x = some .local∨sc.names.lookup x = some .cell
def Look (env:Env) (h:Heap) (m:Str→Option Value) (x:Str) (u:Value):Prop :=
  (env.kindOf x = some .local∧m x = some u)∨((env.kindOf x = some .cell∨env.kindOf x = some .free)∧∃ c,env.cells.lookup x = some c∧h.IsCell c (some u))
structure Cx.Ok (X:Cx):Prop where
  mod:Mod X.K X.mg X.base
  kind:X.env.scope.kind = .function
  glob:X.env.globals = mainGlobals
  blt:X.env.builtins = builtinsNs
  above:X.s₀.heap.objs.size≤X.env.locals
  inj:∀ x y c,X.env.cells.lookup x = some c→X.env.cells.lookup y = some c→x = y
  has:∀ x,(X.env.kindOf x = some .cell∨X.env.kindOf x = some .free)→∃ c,X.env.cells.lookup x = some c
  cab:∀ x c,X.fn x = true→X.env.cells.lookup x = some c→X.s₀.heap.objs.size≤c
  hd:X.calm = true→X.A.handled = none
  frames:X.A.frames = some X.stack
  stk:X.stack = X.outer∨(X.stack = X.env :: X.outer∧X.env.frame = some X.env.locals)
  exf:∀ b∈X.ex,b≠X.env.locals∧∀ x c,X.env.cells.lookup x = some c→c≠b
  bs:∀ b o,X.base.get? b = some o→X.s₀.heap.get? b = some o∧X.H₀ b = none
  bsz:X.base.objs.size≤X.s₀.heap.objs.size
  noex:∀ b o,X.base.get? b = some o→b ∉ X.ex
  exfs:∀ b∈X.ex,b ∉ X.fs
  funs:X.s₀.heap.FunFrames X.base X.outer
  frf:∀ b∈X.fs,X.H₀ b = none
structure Inv (X:Cx) (pins:List (Addr × Obj)) (σ:List (Option V)) (H:Hp) (s:Shared):Prop where
  ok:X.Ok
  os:s.os = X.s₀.os
  bare:AllBare s.gens
  base:Un X.fs X.ex X.H₀ H X.s₀.heap s.heap
  loc:∃ m,s.heap.Ns X.env.locals m∧∀ (i:Nat) (x:Str) (v:V),X.N[i]? = some x→σ[i]? = some (some v)→Vis X.env.scope x→∃ u,RelV v u∧Look X.env s.heap m x u
  cell:∀ x c,X.env.cells.lookup x = some c→∃ v,s.heap.IsCell c v
  free:H X.env.locals = none
  freeC:∀ x c,X.env.cells.lookup x = some c→H c = none
  pin:∀ p∈X.pn ++ pins,s.heap.get? p.1 = some p.2∧H p.1 = none∧p.1≠X.env.locals∧p.1 ∉ X.fs∧∀ v,p.2.data≠.cell v
  hok:HOk X.prog X.w H s.heap
  len:σ.length = X.N.length
section
variable {X:Cx} {pins:List (Addr × Obj)} {σ:List (Option V)} {H H':Hp} {s:Shared} {h':Heap}
theorem Cx.Ok.nofr (ok:X.Ok) {b:Addr} {o:Obj} (e:X.base.get? b = some o):b ∉ X.fs:=fun hb=>by
  have:=(ok.funs.mem hb).1
  rw [e] at this; cases this
theorem Inv.bs (I:Inv X pins σ H s):∀ b o,X.base.get? b = some o→s.heap.get? b = some o∧H b = none:=fun b o e =>
  ⟨I.base.keep b o (I.ok.bs b o e).1 (I.ok.bs b o e).2 (I.ok.nofr e) (I.ok.noex b o e),I.base.free b o (I.ok.bs b o e).1 (I.ok.bs b o e).2 (I.ok.noex b o e)⟩
theorem Inv.bk (I:Inv X pins σ H s):∀ b o,X.base.get? b = some o→s.heap.get? b = some o:=fun b o e=>(I.bs b o e).1
theorem Inv.mod (I:Inv X pins σ H s):Mod X.K X.mg X.base:=I.ok.mod
theorem Inv.kIn (I:Inv X pins σ H s):X.K.In s.heap:=I.ok.mod.kin.keeps I.bk
theorem Inv.lt (I:Inv X pins σ H s):X.env.locals < s.heap.objs.size:=let ⟨_,hn,_⟩:=I.loc; hn.lt
theorem Inv.sz (I:Inv X pins σ H s):X.s₀.heap.objs.size≤s.heap.objs.size:=Nat.le_trans I.ok.above (Nat.le_of_lt I.lt)
theorem Inv.nofs (I:Inv X pins σ H s) {a:Addr} (h:s.heap.objs.size≤a):a ∉ X.fs:=fun hb=>by
  obtain ⟨_,o,ho,_⟩:=I.ok.funs.mem hb
  exact absurd (Nat.lt_of_lt_of_le (Heap.lt_size ho) (Nat.le_trans I.sz h)) (Nat.lt_irrefl _)
theorem Inv.cne (I:Inv X pins σ H s):∀ x c,X.env.cells.lookup x = some c→c≠X.env.locals:=fun x c e z=>by
  obtain ⟨v,o,ho,hd⟩:=I.cell x c e
  obtain ⟨m,⟨o',es,ep,ho',hd',_⟩,_⟩:=I.loc
  rw [z,ho'] at ho; cases ho; rw [hd'] at hd; cases hd
theorem Inv.funs (I:Inv X pins σ H s):s.heap.FunFrames X.base X.outer:=by
  have all:∀ (l:List Env),(∀ b∈frs l,b∈X.fs)→X.s₀.heap.FunFrames X.base l→s.heap.FunFrames X.base l:=by
    intro l
    induction l with
    | nil=>intro _ _; trivial
    | cons env r ih =>
      intro hs hl
      obtain ⟨hk,⟨L,o,hf,hn,ho,hd⟩,hr⟩:=hl
      have hL:L∈X.fs:=hs L (by unfold frs; rw [List.filterMap_cons,hf]; exact List.mem_cons_self)
      obtain ⟨sl,e⟩:=I.base.slot L o ho (I.ok.frf L hL) hL fun z=>I.ok.exfs L z hL
      exact ⟨hk,⟨L,_,hf,hn,e,hd⟩,ih (fun b hb=>hs b (by unfold frs; rw [List.filterMap_cons,hf]; exact List.mem_cons_of_mem _ hb)) hr⟩
  exact all X.outer (fun _ hb=>hb) I.ok.funs
theorem Inv.stack (I:Inv X pins σ H s):s.heap.FunFrames X.base X.stack:=by
  rcases I.ok.stk with e | ⟨e,hf⟩
  · rw [e]; exact I.funs
  · rw [e]
    obtain ⟨m,hn,_⟩:=I.loc
    refine .cons (by rw [I.ok.kind]; decide) hf hn ?_ I.funs
    exact Heap.get?_none_of_le (Nat.le_trans I.ok.bsz I.ok.above)
theorem Inv.stkSub (I:Inv X pins σ H s):∀ b∈frs X.stack,b∈X.env.locals :: X.fs:=fun b hb=>by
  rcases I.ok.stk with e | ⟨e,hf⟩
  · rw [e] at hb; exact List.mem_cons_of_mem _ hb
  · rw [e] at hb
    unfold frs at hb
    rw [List.filterMap_cons,hf] at hb
    exact hb
theorem Inv.stkFree (I:Inv X pins σ H s):∀ b∈frs X.stack,H b = none:=fun b hb=>by
  rcases List.mem_cons.mp (I.stkSub b hb) with e | hb
  · rw [e]; exact I.free
  · obtain ⟨_,o,ho,_⟩:=I.ok.funs.mem hb
    exact I.base.free b o ho (I.ok.frf b hb) fun z=>I.ok.exfs b z hb
theorem Inv.step {g':Array GenState} {t':Nat} {d':Drawn} {ch:List Addr} (I:Inv X pins σ H s)
    (hch:∀ b∈ch,(b∈X.ex∨X.s₀.heap.objs.size≤b)∧b≠X.env.locals∧(∀ x c,X.env.cells.lookup x = some c→c≠b)∧∀ p∈X.pn ++ pins,p.1≠b)
    (keep:∀ b o,b≠X.env.locals→b ∉ X.fs→b ∉ ch→s.heap.get? b = some o→H b = none→h'.get? b = some o)
    (slot:∀ b o,b≠X.env.locals→b∈X.fs→b ∉ ch→s.heap.get? b = some o→H b = none→∃ sl,h'.get? b = some { o with slots:=sl }) (free:∀ b o,b ∉ ch→s.heap.get? b = some o→H b = none→H' b = none)
    (there:∀ b o,b ∉ ch→s.heap.get? b = some o→∃ o',h'.get? b = some o')
    (tups:∀ b xs,H b = some (.tup xs)→H' b = some (.tup xs)) (frzs:∀ b o u,H b = some (.frz o u)→H' b = some (.frz o u)) (tbls:∀ b ps,H b = some (.tbl ps)→∃ more,H' b = some (.tbl (ps ++ more)))
    (ns:∀ m,s.heap.Ns X.env.locals m→h'.Ns X.env.locals m) (hok:HOk X.prog X.w H' h') (hg:AllBare g') :
    Inv X pins σ H' { s with heap:=h',gens:=g',drawn:=d',toks:=t' }:=by
  have neL:∀ b o,X.s₀.heap.get? b = some o→b≠X.env.locals:=fun b o e=>Nat.ne_of_lt (Nat.lt_of_lt_of_le (Heap.lt_size e) I.ok.above)
  have neC:∀ b o,X.s₀.heap.get? b = some o→b ∉ X.ex→b ∉ ch:=fun b o e hx hb=>by
    rcases (hch b hb).1 with z | z
    · exact hx z
    · exact absurd (Nat.lt_of_lt_of_le (Heap.lt_size e) z) (Nat.lt_irrefl _)
  have cellK:∀ x c,X.env.cells.lookup x = some c→∀ v,s.heap.IsCell c v→h'.IsCell c v:=fun x c e v ⟨o,ho,hd⟩=>by
    have nch:c ∉ ch:=fun z=>(hch c z).2.2.1 x c e rfl
    by_cases hc:c∈X.fs
    · obtain ⟨sl,q⟩:=slot c o (I.cne x c e) hc nch ho (I.freeC x c e)
      exact ⟨_,q,hd⟩
    · exact ⟨o,keep c o (I.cne x c e) hc nch ho (I.freeC x c e),hd⟩
  refine ⟨I.ok,I.os,hg,⟨fun b o e n hb hx=>?_,fun b o e n hb hx=>?_,fun b o e n hx=>?_,fun b o e hx=>?_,fun b xs e=>tups b xs (I.base.tups b xs e),fun b o xs e=>frzs b o xs (I.base.frzs b o xs e),fun b ps e=>?_⟩,?_,fun x c e=>?_,?_,fun x c e=>?_,fun p hp=>?_,hok,I.len⟩
  · exact keep b o (neL b o e) hb (neC b o e hx) (I.base.keep b o e n hb hx) (I.base.free b o e n hx)
  · obtain ⟨sl,e1⟩:=I.base.slot b o e n hb hx
    obtain ⟨sl',e2⟩:=slot b _ (neL b o e) hb (neC b o e hx) e1 (I.base.free b o e n hx)
    exact ⟨sl',e2⟩
  · obtain ⟨o',e1⟩:=I.base.there b o e hx
    exact free b o' (neC b o e hx) e1 (I.base.free b o e n hx)
  · obtain ⟨o',e1⟩:=I.base.there b o e hx
    exact there b o' (neC b o e hx) e1
  · obtain ⟨m1,e1⟩:=I.base.tbls b ps e
    obtain ⟨m2,e2⟩:=tbls b _ e1
    exact ⟨m1 ++ m2,by rw [e2,Array.append_assoc]⟩
  · obtain ⟨m,hn,hl⟩:=I.loc
    refine ⟨m,ns m hn,fun i x v e1 e2 e3=>?_⟩
    obtain ⟨u,r,l⟩:=hl i x v e1 e2 e3
    refine ⟨u,r,?_⟩
    rcases l with l | ⟨k,c,e,z⟩
    · exact .inl l
    · exact .inr ⟨k,c,e,cellK x c e _ z⟩
  · obtain ⟨v,z⟩:=I.cell x c e
    exact ⟨v,cellK x c e v z⟩
  · obtain ⟨m,⟨o,_,_,ho,_⟩,_⟩:=I.loc
    exact free _ o (fun z=>(hch _ z).2.1 rfl) ho I.free
  · obtain ⟨v,o,ho,hd⟩:=I.cell x c e
    exact free c o (fun z=>(hch c z).2.2.1 x c e rfl) ho (I.freeC x c e)
  · obtain ⟨e,n,ne,nf,d⟩:=I.pin p hp
    have nch:p.1 ∉ ch:=fun z=>(hch p.1 z).2.2.2 p hp rfl
    exact ⟨keep p.1 p.2 ne nf nch e n,free p.1 p.2 nch e n,ne,nf,d⟩
theorem Inv.un {t':Nat} (I:Inv X pins σ H s) (u:Un X.fs [] H H' s.heap h') (hok:HOk X.prog X.w H' h'):Inv X pins σ H' { s with heap:=h',toks:=t' }:=by
  obtain ⟨m,⟨o,es,ep,ho,r⟩,_⟩:=id I.loc
  obtain ⟨sl,hL⟩:=u.any ho I.free (by simp)
  exact I.step (g':=s.gens) (d':=s.drawn) (ch:=[]) (fun _ z=>nomatch z) (fun b o _ hb _ e n=>u.keep b o e n hb (by simp)) (fun b o _ hb _ e n=>u.slot b o e n hb (by simp)) (fun b o _ e n=>u.free b o e n (by simp)) (fun b o _ e=>u.there b o e (by simp)) u.tups u.frzs u.tbls (fun m' hm=>by
    obtain ⟨o',es',ep',ho',r'⟩:=hm
    rw [ho] at ho'; cases ho'
    exact ⟨_,es',ep',hL,r'⟩) hok I.bare
theorem Inv.call {g':Array GenState} {t':Nat} {d':Drawn} {ch:List Addr} (I:Inv X pins σ H s) (u:Un (frs X.stack) ch H H' s.heap h') (hok:HOk X.prog X.w H' h') (hg:AllBare g')
    (hch:∀ b∈ch,(b∈X.ex∨X.s₀.heap.objs.size≤b)∧b≠X.env.locals∧(∀ x c,X.env.cells.lookup x = some c→c≠b)∧∀ p∈X.pn ++ pins,p.1≠b) :
    Inv X pins σ H' { s with heap:=h',gens:=g',drawn:=d',toks:=t' }:=by
  obtain ⟨m,⟨o,es,ep,ho,r⟩,_⟩:=id I.loc
  obtain ⟨sl,hL⟩:=u.any ho I.free fun z=>(hch _ z).2.1 rfl
  exact I.step (ch:=ch) hch (fun b o hL hb hc e n=>u.keep b o e n (fun z=>(List.mem_cons.mp (I.stkSub b z)).elim hL hb) hc) (fun b o _ _ hc e n=>u.any e n hc) (fun b o hc e n=>u.free b o e n hc) (fun b o hc e=>u.there b o e hc) u.tups u.frzs u.tbls (fun m' hm=>by
    obtain ⟨o',es',ep',ho',r'⟩:=hm
    rw [ho] at ho'; cases ho'
    exact ⟨_,es',ep',hL,r'⟩) hok hg
theorem Inv.turned {t':Nat} {it:Addr} (I:Inv X pins σ H s) (k:∀ b o,b≠it→s.heap.get? b = some o→h'.get? b = some o) (hn:H it = none) (hL:it≠X.env.locals)
    (h1:it∈X.ex∨X.s₀.heap.objs.size≤it) (h2:∀ x c,X.env.cells.lookup x = some c→c≠it) (h3:∀ p∈X.pn ++ pins,p.1≠it):Inv X pins σ H { s with heap:=h',toks:=t' }:=by
  have nit:∀ b u,H b = some u→b≠it:=fun b u e z=>by rw [z,hn] at e; cases e
  refine I.step (g':=s.gens) (d':=s.drawn) (ch:=[it]) (fun b hb=>?_) (fun b o _ _ hc e _=>k b o (fun z=>hc (by simp [z])) e) (fun b o _ _ hc e _=>⟨o.slots,k b o (fun z=>hc (by simp [z])) e⟩) (fun _ _ _ _ n=>n)
    (fun b o hc e=>⟨o,k b o (fun z=>hc (by simp [z])) e⟩) (fun _ _ e=>e) (fun _ _ _ e=>e) (fun b ps e=>⟨#[],by rw [e]; simp⟩) (fun m hm=>?_) (fun b u e=>?_) I.bare
  · have e:b = it:=by simpa using hb
    subst e
    exact ⟨h1,hL,h2,h3⟩
  · obtain ⟨o,es,ep,ho,r⟩:=hm
    exact ⟨o,es,ep,k _ o (Ne.symm hL) ho,r⟩
  · refine (I.hok b u e).stay (fun c v hc q=>k c v ?_ q) (fun _ q=>q) fun _ _ q=>q
    rcases hc with z | z
    · rw [z]; exact nit b u e
    · exact nit c _ z
theorem Inv.tok (I:Inv X pins σ H s) (t:Nat):Inv X pins σ H { s with toks:=t }:=I.un (h':=s.heap) (t':=t) Un.refl I.hok
theorem Inv.kept {t':Nat} (I:Inv X pins σ H s) (k:∀ b u,s.heap.get? b = some u→h'.get? b = some u):Inv X pins σ H { s with heap:=h',toks:=t' }:=I.un (Un.kept k) (I.hok.kept k)
theorem Inv.laid {a:Addr} {o:HO} {t':Nat} (I:Inv X pins σ H s) (k:∀ b u,s.heap.get? b = some u→h'.get? b = some u) (hp:s.heap.objs.size≤a) (new:ObjOk X.prog X.w (upd H a o) h' a o) :
    Inv X pins σ (upd H a o) { s with heap:=h',toks:=t' }:=I.un (Un.laid k hp (I.hok.fresh hp)) (I.hok.laid k hp new)
theorem Inv.write {x e:Addr} {o:HO} {t':Nat} (I:Inv X pins σ H s) (mu:Mut (H x)) (he:e = x∨H e = some (.own x)) (k:∀ b u,b≠e→s.heap.get? b = some u→h'.get? b = some u) (heo:∃ u,h'.get? e = some u)
    (new:ObjOk X.prog X.w (upd H x o) h' x o):Inv X pins σ (upd H x o) { s with heap:=h',toks:=t' }:=I.un (Un.write mu he k heo) (I.hok.write mu he k heo new)
theorem Inv.pins_of {pins':List (Addr × Obj)} (I:Inv X pins σ H s) (h:∀ p∈pins',s.heap.get? p.1 = some p.2∧H p.1 = none∧p.1≠X.env.locals∧p.1 ∉ X.fs∧∀ v,p.2.data≠.cell v):Inv X pins' σ H s :=
  ⟨I.ok,I.os,I.bare,I.base,I.loc,I.cell,I.free,I.freeC,fun p hp=>(List.mem_append.mp hp).elim (fun z=>I.pin p (List.mem_append_left _ z)) (h p),I.hok,I.len⟩
theorem nodup_ix {N:List Str} (hN:N.Nodup) {i j:Nat} {x:Str} (a:N[i]? = some x) (b:N[j]? = some x):i = j:=by
  obtain ⟨h1,e1⟩:=List.getElem?_eq_some_iff.mp a
  obtain ⟨h2,e2⟩:=List.getElem?_eq_some_iff.mp b
  exact (List.getElem_inj hN).mp (e1.trans e2.symm)
theorem store_ok2 {M:Model} {A:Around} {E:Value→Shared→Prop} {i:Nat} {x:Str} {v:V} {u:Value} {Q:Unit→Shared→Prop} (I:Inv X pins σ H s) (hN:X.N.Nodup) (hi:X.N[i]? = some x) (hx:Loc X.env.scope x) (r:RelV v u)
    (h:∀ s',Inv X pins (σ.set i (some v)) H s'→(∃ a,Heap.SameBut a s.heap s'.heap∧(a = X.env.locals∨X.env.cells.lookup x = some a))→Q () s') (hf:X.fn x = true∨X.env.scope.names.lookup x = some .local:=by first | exact .inl rfl | exact .inr rfl | assumption):wpAny M A (storeName X.env x u) Q E s:=by
  obtain ⟨m,hn,hl⟩:=id I.loc
  have hcls:(X.env.scope.kind == .class || (X.env.scope.kind == .module && X.env.locals != X.env.globals)) = false:=by rw [I.ok.kind]; rfl
  have hiσ:i < σ.length:=by rw [I.len]; exact (List.getElem?_eq_some_iff.mp hi).1
  have cne:=I.cne
  have tracked:∀ {a:Addr} {h':Heap},(∃ o,s.heap.get? a = some o∧H a = none)→Heap.SameBut a s.heap h'→HOk X.prog X.w H h':=fun {a h'} ha hs b ob e=>by
    obtain ⟨_,_,hfree⟩:=ha
    refine (I.hok b ob e).stay (fun c w' hc q=>(hs.2 c ?_).trans q) (fun _ q=>q) fun _ _ q=>q
    rintro rfl
    rcases hc with rfl | hc
    · rw [hfree] at e; cases e
    · rw [hfree] at hc; cases hc
  rcases hx with hk | hk
  · refine wpAny_storeName_local hk hn (fun h' hn' hs=>?_) hcls
    obtain ⟨oL,_,_,hoL,_⟩:=id hn
    refine h _ ⟨I.ok,I.os,I.bare,⟨fun b o e n hb hx=>?_,fun b o e n hb hx=>?_,I.base.free,fun b o e hx=>?_,I.base.tups,I.base.frzs,I.base.tbls⟩,⟨_,hn',fun j y v' e1 e2 e3=>?_⟩,fun y c e=>?_,I.free,I.freeC,fun p hp=>?_,tracked ⟨oL,hoL,I.free⟩ hs,by simpa using I.len⟩ ⟨_,hs,.inl rfl⟩
    · exact (hs.2 b (Nat.ne_of_lt (Nat.lt_of_lt_of_le (Heap.lt_size e) I.ok.above))).trans (I.base.keep b o e n hb hx)
    · obtain ⟨sl,e1⟩:=I.base.slot b o e n hb hx
      exact ⟨sl,(hs.2 b (Nat.ne_of_lt (Nat.lt_of_lt_of_le (Heap.lt_size e) I.ok.above))).trans e1⟩
    · obtain ⟨o',e1⟩:=I.base.there b o e hx
      exact ⟨o',(hs.2 b (Nat.ne_of_lt (Nat.lt_of_lt_of_le (Heap.lt_size e) I.ok.above))).trans e1⟩
    · by_cases hj:j = i
      · subst hj
        rw [hi] at e1; cases e1
        rw [List.getElem?_set_self hiσ] at e2
        cases e2
        exact ⟨u,r,.inl ⟨hk,by simp⟩⟩
      · rw [List.getElem?_set_ne (Ne.symm hj)] at e2
        obtain ⟨u',r',q⟩:=hl j y v' e1 e2 e3
        refine ⟨u',r',?_⟩
        rcases q with ⟨k,e⟩ | ⟨k,c,e,z⟩
        · refine .inl ⟨k,?_⟩
          have:y≠x:=fun e=>hj (nodup_ix hN e1 (e ▸ hi))
          simp [this,e]
        · exact .inr ⟨k,c,e,z.sameBut hs (cne y c e)⟩
    · obtain ⟨w',z⟩:=I.cell y c e
      exact ⟨w',z.sameBut hs (cne y c e)⟩
    · obtain ⟨e,n,ne,nf,d⟩:=I.pin p hp
      exact ⟨(hs.2 p.1 ne).trans e,n,ne,nf,d⟩
  · have hfn:X.fn x = true:=by
      rcases hf with z | z
      · exact z
      · rw [z] at hk; cases hk
    obtain ⟨c,hc⟩:=I.ok.has x (.inl hk)
    obtain ⟨w',z⟩:=I.cell x c hc
    refine wpAny_storeName_cell I.ok.kind hk hc z (fun h' hc' hs=>?_)
    obtain ⟨oc,hoc,hocd⟩:=id z
    refine h { s with heap:=h' } ⟨I.ok,I.os,I.bare,⟨fun b o e n hb hx=>?_,fun b o e n hb hx=>?_,I.base.free,fun b o e hx=>?_,I.base.tups,I.base.frzs,I.base.tbls⟩,⟨m,hn.sameBut hs (Ne.symm (cne x c hc)),fun j y v' e1 e2 e3=>?_⟩,fun y c' e=>?_,I.free,I.freeC,fun p hp=>?_,tracked ⟨oc,hoc,I.freeC x c hc⟩ hs,by simpa using I.len⟩ ⟨c,hs,.inr hc⟩
    · exact (hs.2 b (Nat.ne_of_lt (Nat.lt_of_lt_of_le (Heap.lt_size e) (I.ok.cab x c hfn hc)))).trans (I.base.keep b o e n hb hx)
    · obtain ⟨sl,e1⟩:=I.base.slot b o e n hb hx
      exact ⟨sl,(hs.2 b (Nat.ne_of_lt (Nat.lt_of_lt_of_le (Heap.lt_size e) (I.ok.cab x c hfn hc)))).trans e1⟩
    · obtain ⟨o',e1⟩:=I.base.there b o e hx
      exact ⟨o',(hs.2 b (Nat.ne_of_lt (Nat.lt_of_lt_of_le (Heap.lt_size e) (I.ok.cab x c hfn hc)))).trans e1⟩
    · by_cases hj:j = i
      · subst hj
        rw [hi] at e1; cases e1
        rw [List.getElem?_set_self hiσ] at e2
        cases e2
        exact ⟨u,r,.inr ⟨.inl hk,c,hc,hc'⟩⟩
      · rw [List.getElem?_set_ne (Ne.symm hj)] at e2
        obtain ⟨u',r',q⟩:=hl j y v' e1 e2 e3
        refine ⟨u',r',?_⟩
        rcases q with q | ⟨k,c',e,z'⟩
        · exact .inl q
        · refine .inr ⟨k,c',e,z'.sameBut hs ?_⟩
          rintro rfl
          exact hj (nodup_ix hN e1 (I.ok.inj _ _ _ e hc ▸ hi))
    · by_cases hcc:c' = c
      · subst hcc; exact ⟨_,hc'⟩
      · obtain ⟨w2,z2⟩:=I.cell y c' e
        exact ⟨w2,z2.sameBut hs hcc⟩
    · obtain ⟨e,n,ne,nf,d⟩:=I.pin p hp
      refine ⟨(hs.2 p.1 ?_).trans e,n,ne,nf,d⟩
      intro q
      rw [q,hoc] at e
      have q':oc = p.2:=Option.some.inj e
      exact d w' (by rw [← q']; exact hocd)
theorem store_ok {M:Model} {A:Around} {E:Value→Shared→Prop} {i:Nat} {x:Str} {v:V} {u:Value} {Q:Unit→Shared→Prop} (I:Inv X pins σ H s) (hN:X.N.Nodup) (hi:X.N[i]? = some x) (hx:Loc X.env.scope x) (r:RelV v u)
    (h:∀ s',Inv X pins (σ.set i (some v)) H s'→Q () s') (hf:X.fn x = true∨X.env.scope.names.lookup x = some .local:=by first | exact .inl rfl | exact .inr rfl | assumption):wpAny M A (storeName X.env x u) Q E s :=
  store_ok2 I hN hi hx r (fun s' I' _=>h s' I') hf
theorem Inv.call' {s':Shared} {ch:List Addr} (I:Inv X pins σ H s) (ho:s'.os = s.os) (u:Un (frs X.stack) ch H H' s.heap s'.heap) (hok:HOk X.prog X.w H' s'.heap) (hg:AllBare s'.gens)
    (hch:∀ b∈ch,(b∈X.ex∨X.s₀.heap.objs.size≤b)∧b≠X.env.locals∧(∀ x c,X.env.cells.lookup x = some c→c≠b)∧∀ p∈X.pn ++ pins,p.1≠b):Inv X pins σ H' s':=by
  obtain ⟨h',g',d',t',o'⟩:=s'
  have e:o' = s.os:=ho
  subst e
  exact I.call (g':=g') (t':=t') (d':=d') u hok hg hch
end
abbrev XK:=Value→Option Addr→Hp→Prop
abbrev St:=List (Option V)
abbrev VK:=V→Hp→Prop
abbrev TE:=St→Hp→VK→Prop
abbrev TT:=St→Hp→(Bool→Hp→Prop)→Prop
abbrev TA:=St→Hp→(List V→Hp→Prop)→Prop
structure Ends where
  nx:St→Hp→Prop
  rt:VK
  bk:St→Hp→Prop:=fun _ _=>False
  ct:St→Hp→Prop:=fun _ _=>False
abbrev TS:=Ends→St→Hp→Prop
def EP (X:Cx) (pins:List (Addr × Obj)) (σ:St) (Q:VK) (u:Value) (s':Shared):Prop:=∃ v H',Inv X pins σ H' s'∧RelV v u∧Q v H'
def TP (X:Cx) (pins:List (Addr × Obj)) (σ:St) (Q:Bool→Hp→Prop) (b:Bool) (s':Shared):Prop:=∃ H',Inv X pins σ H' s'∧Q b H'
def AP (X:Cx) (pins:List (Addr × Obj)) (σ:St) (Q:List V→Hp→Prop) (us:List Value) (s':Shared):Prop:=∃ vs H',Inv X pins σ H' s'∧Vals vs us∧Q vs H'
def SP (X:Cx) (pins:List (Addr × Obj)) (D:Ends) (f:Flow) (s':Shared):Prop :=
  match f with
  | .next=>∃ σ' H',Inv X pins σ' H' s'∧D.nx σ' H'
  | .brk=>∃ σ' H',Inv X pins σ' H' s'∧D.bk σ' H'
  | .cont=>∃ σ' H',Inv X pins σ' H' s'∧D.ct σ' H'
  | .ret u=>∃ v σ' H',Inv X pins σ' H' s'∧RelV v u∧D.rt v H'
def PE (X:Cx) (e:Expr) (t:TE):Prop :=
  ∀ (pins:List (Addr × Obj)) (s:Shared) (σ:St) (H:Hp) (Q:VK),Inv X pins σ H s→t σ H Q→wpAny (model X.prog X.w) X.A (eval e X.env) (EP X pins σ Q) X.xe s
def PT (X:Cx) (e:Expr) (t:TT):Prop :=
  ∀ (pins:List (Addr × Obj)) (s:Shared) (σ:St) (H:Hp) (Q:Bool→Hp→Prop),Inv X pins σ H s→t σ H Q→wpAny (model X.prog X.w) X.A (isTrue e X.env (eval e X.env)) (TP X pins σ Q) X.xe s
def PW (X:Cx) (e:Expr) (t:TT):Prop :=
  ∀ (whole:Sem Value) (pins:List (Addr × Obj)) (s:Shared) (σ:St) (H:Hp) (Q:Bool→Hp→Prop),Inv X pins σ H s→t σ H Q→wpAny (model X.prog X.w) X.A (isTrue e X.env whole) (TP X pins σ Q) X.xe s
theorem PW.pt {X:Cx} {e:Expr} {t:TT} (h:PW X e t):PT X e t:=h _
def PA (X:Cx) (es:List Expr) (t:TA):Prop :=
  ∀ (pos:Pos) (pins:List (Addr × Obj)) (s:Shared) (σ:St) (H:Hp) (Q:List V→Hp→Prop),Inv X pins σ H s→t σ H Q→wpAny (model X.prog X.w) X.A (spliced (backTo pos (starEach es X.env))) (AP X pins σ Q) X.xe s
def PS (X:Cx) (st:Stmt) (t:TS):Prop :=
  ∀ (pins:List (Addr × Obj)) (s:Shared) (σ:St) (H:Hp) (D:Ends),Inv X pins σ H s→t D σ H→wpAny (model X.prog X.w) X.A (exec st X.env) (SP X pins D) X.xe s
def PSs (X:Cx) (st:List Stmt) (t:TS):Prop :=
  ∀ (pins:List (Addr × Obj)) (s:Shared) (σ:St) (H:Hp) (D:Ends),Inv X pins σ H s→t D σ H→wpAny (model X.prog X.w) X.A (execs st X.env) (SP X pins D) X.xe s
theorem thn {α:Type} {t:Sem α} {Q Q':α→Shared→Prop} {M:Model} {A:Around} {E:Value→Shared→Prop} {s:Shared} (h:wpAny M A t Q E s) (hQ:∀ a s,Q a s→Q' a s):wpAny M A t Q' E s:=wpAny_mono h hQ fun _ _ x=>x
end L2
namespace L2
open PySem PySem.Spec PyProof.Rows
section
variable {X:Cx}
theorem bin {a b:Expr} {ta tb:TE} (ha:PE X a ta) (hb:PE X b tb) {pins:List (Addr × Obj)} {s:Shared} {σ:St} {H:Hp} {R:V→V→Hp→Prop} (I:Inv X pins σ H s) (h:ta σ H fun x H1=>tb σ H1 fun y H2=>R x y H2)
    {α:Type} {Q:α→Shared→Prop} {f:Value→Value→Sem α}
    (hf:∀ v u s2 x y H2,Inv X pins σ H2 s2→RelV x v→RelV y u→R x y H2→wpAny (model X.prog X.w) X.A (f v u) Q X.xe s2) :
    wpAny (model X.prog X.w) X.A (eval a X.env) (fun v s₁=>wpAny (model X.prog X.w) X.A (eval b X.env) (fun u s₂=>wpAny (model X.prog X.w) X.A (f v u) Q X.xe s₂) X.xe s₁) X.xe s:=by
  refine thn (ha pins s σ H _ I h) fun v s1 ⟨x,H1,I1,r1,q1⟩=>?_
  refine thn (hb pins s1 σ H1 _ I1 q1) fun u s2 ⟨y,H2,I2,r2,q2⟩=>?_
  exact hf v u s2 x y H2 I2 r1 r2 q2
def tVar (i:Nat):TE:=fun σ H Q=>∃ v,σ[i]? = some (some v)∧Q v H
def tC (v:V):TE:=fun _ H Q=>Q v H
theorem pe_var {i:Nat} {x:Str} {pos:Pos} (hN:X.N[i]? = some x) (hv:Vis X.env.scope x) (hd:(x == ("__debug__" : Str)) = false:=by decide) (hcd:(x == ("__classdict__" : Str)) = false:=by decide):PE X (.Name x pos) (tVar i):=by
  intro pins s σ H Q I h
  obtain ⟨v,e,h⟩:=h
  obtain ⟨m,hn,hl⟩:=I.loc
  obtain ⟨u,r,l⟩:=hl i x v hN e hv
  have fin:EP X pins σ Q u s:=⟨v,H,I,r,h⟩
  rcases l with ⟨hk,hm⟩ | ⟨hk,c,hc,hcell⟩
  · exact wpAny_Name (wpAny_loadName_local I.ok.kind hk hn hm fin) hd
  · rcases hk with hk | hk
    · exact wpAny_Name (wpAny_loadName_cell I.ok.kind hk hc hcell fin) hd
    · exact wpAny_Name (wpAny_loadName_free I.ok.kind hk hc hcell fin hcd) hd
theorem pe_int {i j pos}:PE X (.Constant (.int i) j pos) (tC (.int i)):=fun _ _ _ H _ I h=>wpAny_Constant_int ⟨.int i,H,I.tok _,⟨_,rfl⟩,h⟩
theorem pe_bl {b j pos}:PE X (.Constant (.bool b) j pos) (tC (.bl b)):=fun _ _ _ H _ I h=>Constant_bool ⟨.bl b,H,I,rfl,h⟩
theorem pe_non {j pos}:PE X (.Constant .none j pos) (tC .non):=fun _ _ _ H _ I h=>Constant_none ⟨.non,H,I,rfl,h⟩
theorem pe_str {x j pos}:PE X (.Constant (.str x) j pos) (tC (.str x)):=fun _ _ _ H _ I h=>Calls.Constant_str ⟨.str x,H,I.tok _,⟨_,rfl⟩,h⟩
def Gl (X:Cx) (x:Str):Prop:=X.env.kindOf x = some .globalImplicit
theorem ld_glob {E:Value→Shared→Prop} {pins:List (Addr × Obj)} {s:Shared} {σ:St} {H:Hp} {x:Str} {u:Value} {pos:Pos} {Q:Value→Shared→Prop} (I:Inv X pins σ H s) (hg:Gl X x) (hm:X.mg x = some u) (h:Q u s)
    (hd:(x == ("__debug__" : Str)) = false:=by decide):wpAny (model X.prog X.w) X.A (eval (.Name x pos) X.env) Q E s :=
  Calls.Name_function_global I.ok.kind hg (Calls.loadGlobal_global (by rw [I.ok.glob]; exact I.mod.glob.keeps I.bk) hm h) hd
theorem ld_blt {E:Value→Shared→Prop} {pins:List (Addr × Obj)} {s:Shared} {σ:St} {H:Hp} {x:Str} {u:Value} {pos:Pos} {Q:Value→Shared→Prop} (I:Inv X pins σ H s) (hg:Gl X x) (hm:X.mg x = none) (hv:bootBuiltins x = some u) (h:Q u s)
    (hn:x ≠ "__name__" := by decide) (hd:(x == ("__debug__" : Str)) = false:=by decide):wpAny (model X.prog X.w) X.A (eval (.Name x pos) X.env) Q E s:=by
  obtain ⟨mb,h1,h2⟩:=I.mod.blt
  exact Calls.Name_function_global I.ok.kind hg (Calls.loadGlobal_builtin (by rw [I.ok.glob]; exact I.mod.glob.keeps I.bk) hm (by rw [I.ok.blt]; exact h1.keeps I.bk) ((h2 x hn).trans hv) h) hd
theorem pe_glob {x:Str} {v:V} {u:Value} {pos:Pos} (hg:Gl X x) (hm:X.mg x = some u) (r:RelV v u) (hd:(x == ("__debug__" : Str)) = false:=by decide):PE X (.Name x pos) (tC v) :=
  fun _ _ _ H _ I h=>ld_glob I hg hm ⟨v,H,I,r,h⟩ hd
theorem pe_bltn {x:Str} {v:V} {u:Value} {pos:Pos} (hg:Gl X x) (hm:X.mg x = none) (hv:bootBuiltins x = some u) (r:RelV v u) (hn:x ≠ "__name__" := by decide) (hd:(x == ("__debug__" : Str)) = false:=by decide):PE X (.Name x pos) (tC v) :=
  fun _ _ _ H _ I h=>ld_blt I hg hm hv ⟨v,H,I,r,h⟩ hn hd
variable {a b:Expr} {ta tb:TE} {pos:Pos}
def PC (X:Cx) (op:CmpOp) (a b:Expr) (t:TE):Prop :=
  ∀ (pins:List (Addr × Obj)) (s:Shared) (σ:St) (H:Hp) (Q:VK),Inv X pins σ H s→t σ H Q →
    wpAny (model X.prog X.w) X.A (eval a X.env) (fun v s₁=>wpAny (model X.prog X.w) X.A (eval b X.env) (fun u s₂=>wpAny (model X.prog X.w) X.A (compareOp op v u) (EP X pins σ Q) X.xe s₂) X.xe s₁) X.xe s
def tB (t:TE):TT:=fun σ H Q=>t σ H fun x H1=>∃ c,x = .bl c∧Q c H1
theorem pt_cmp {op:CmpOp} {t:TE} (h:PC X op a b t) (h1:behindInMarks op b = false:=by first | exact nobehind _ (by decide) (by decide) | rfl):PT X (.Compare a [op] [b] pos) (tB t):=by
  intro pins s σ H Q I hw
  refine wpAny_isTrue_Compare1 (thn (h pins s σ H _ I hw) fun v s1 h1=>thn h1 fun u s2 h2=>thn h2 fun c s3 ⟨x,H1,I1,r1,q1⟩=>?_) h1
  obtain ⟨d,rfl,q⟩:=q1
  cases r1
  exact wpAny_truthy_bool ⟨H1,I1,q⟩
variable {tA tB':TT} {rest:List Expr}
def tAnd (t u:TT):TT:=fun σ H Q=>t σ H fun c H1=>if c = true then u σ H1 Q else Q false H1
def tOr (t u:TT):TT:=fun σ H Q=>t σ H fun c H1=>if c = true then Q true H1 else u σ H1 Q
def tNot (t:TT):TT:=fun σ H Q=>t σ H fun c H1=>Q (!c) H1
theorem pw_and1 (ha:PT X a tA):PW X (.BoolOp .And [a] pos) tA:=by
  intro wh pins s σ H Q I h
  refine isTrue_and (thn (ha pins s σ H Q I h) fun c s1 e=>?_)
  cases c with
  | true=>exact isTrue_and_nil e
  | false=>exact e
theorem pw_or1 (ha:PT X a tA):PW X (.BoolOp .Or [a] pos) tA:=by
  intro wh pins s σ H Q I h
  refine isTrue_or (thn (ha pins s σ H Q I h) fun c s1 e=>?_)
  cases c with
  | false=>exact isTrue_or_nil e
  | true=>exact e
theorem pw_and (ha:PT X a tA) (hb:PW X (.BoolOp .And (b :: rest) pos) tB'):PW X (.BoolOp .And (a :: b :: rest) pos) (tAnd tA tB'):=by
  intro wh pins s σ H Q I h
  refine isTrue_and (thn (ha pins s σ H _ I h) fun c s1 ⟨H1,I1,q1⟩=>?_)
  cases c with
  | true=>exact hb wh pins s1 σ H1 Q I1 q1
  | false=>exact ⟨H1,I1,q1⟩
theorem pw_or (ha:PT X a tA) (hb:PW X (.BoolOp .Or (b :: rest) pos) tB'):PW X (.BoolOp .Or (a :: b :: rest) pos) (tOr tA tB'):=by
  intro wh pins s σ H Q I h
  refine isTrue_or (thn (ha pins s σ H _ I h) fun c s1 ⟨H1,I1,q1⟩=>?_)
  cases c with
  | true=>exact ⟨H1,I1,q1⟩
  | false=>exact hb wh pins s1 σ H1 Q I1 q1
theorem pt_not (ha:PT X a tA):PT X (.UnaryOp .Not a pos) (tNot tA):=by
  intro pins s σ H Q I h
  exact isTrue_not (ha pins s σ H (fun c H1=>Q (!c) H1) I h)
def tAndV (ta tb:TE):TE:=fun σ H Q=>ta σ H fun x H1=>∃ c,x = .bl c∧if c = true then tb σ H1 Q else Q (.bl false) H1
def tNotV (ta:TE):TE:=fun σ H Q=>ta σ H fun x H1=>∃ c,x = .bl c∧Q (.bl (!c)) H1
theorem pe_one {op} {t:TE} (h:PE X a t):PE X (.BoolOp op [a] pos) t:=fun pins s σ H Q I hw=>BoolOp_one (h pins s σ H Q I hw)
theorem pe_and (ha:PE X a ta) (hb:PE X (.BoolOp .And (b :: rest) pos) tb):PE X (.BoolOp .And (a :: b :: rest) pos) (tAndV ta tb):=by
  intro pins s σ H Q I h
  refine BoolOp_and (thn (ha pins s σ H _ I h) fun v s1 ⟨x,H1,I1,r1,q1⟩=>?_)
  obtain ⟨c,rfl,q1⟩:=q1
  cases r1
  refine wpAny_truthy_bool ?_
  cases c with
  | true=>exact hb pins s1 σ H1 Q I1 q1
  | false=>exact ⟨.bl false,H1,I1,rfl,q1⟩
theorem pe_not (ha:PE X a ta):PE X (.UnaryOp .Not a pos) (tNotV ta):=by
  intro pins s σ H Q I h
  refine UnaryOp_ (thn (ha pins s σ H _ I h) fun v s1 ⟨x,H1,I1,r1,q1⟩=>?_)
  obtain ⟨c,rfl,q1⟩:=q1
  cases r1
  exact not_of (wpAny_truthy_bool ⟨.bl (!c),H1,I1,rfl,q1⟩)
def tIf (t:TT) (ta tb:TE):TE:=fun σ H Q=>t σ H fun c H1=>if c = true then ta σ H1 Q else tb σ H1 Q
theorem pe_ifExp {c:Expr} (hc:PT X c tA) (ha:PE X a ta) (hb:PE X b tb):PE X (.IfExp c a b pos) (tIf tA ta tb):=by
  intro pins s σ H Q I h
  refine wpAny_IfExp (thn (hc pins s σ H _ I h) fun d s1 ⟨H1,I1,q1⟩=>?_)
  cases d with
  | true=>exact ha pins s1 σ H1 Q I1 q1
  | false=>exact hb pins s1 σ H1 Q I1 q1
end
end L2
namespace L2
open PySem PySem.Spec PyProof.Rows
def SqL (K:PySem.W.Frag) (H:Hp) (a:Addr) (xs:List V):Prop :=
  Rd H a (.lst xs) ∨
    ∃ (o:Obj) (its:Array Value) (n:Nat),K.lookup a = some o∧o.cls = .type "list" ∧ o.dict = none∧o.data = .seq its n∧its.size≤sizeLine∧Vals xs its.toList
def SqT (K:PySem.W.Frag) (H:Hp) (a:Addr) (xs:List V):Prop :=
  Rd H a (.tup xs) ∨
    ∃ (o:Obj) (its:Array Value) (n:Nat),K.lookup a = some o∧o.cls = .type "tuple" ∧ o.data = .seq its n∧its.size≤sizeLine∧Vals xs its.toList
def absV:Value→Option V
  | .none=>some .non
  | .bool b=>some (.bl b)
  | .int i _=>some (.int i)
  | .str x _=>some (.str x)
  | .bytes b _=>some (.byt b)
  | .float b _=>some (.flt b)
  | .ref a=>some (.ref a)
  | .type n=>some (.ty n)
  | _=>none
theorem RelV.abs {x:V} {u:Value} (r:RelV x u):absV u = some x:=by
  cases x with
  | non=>cases r; rfl
  | bl _=>cases r; rfl
  | int _=>obtain ⟨t,rfl⟩:=r; rfl
  | str _=>obtain ⟨t,rfl⟩:=r; rfl
  | byt _=>obtain ⟨t,rfl⟩:=r; rfl
  | flt _=>obtain ⟨t,rfl⟩:=r; rfl
  | ref _=>cases r; rfl
  | ty _=>cases r; rfl
theorem RelV.inj {x y:V} {u:Value} (r:RelV x u) (q:RelV y u):x = y:=Option.some.inj (r.abs.symm.trans q.abs)
theorem Vals.inj:∀ {xs ys:List V} {us:List Value},Vals xs us→Vals ys us→xs = ys
  | _,_,_,.nil,.nil=>rfl
  | _,_,_,.cons r t,.cons r' t'=>by rw [r.inj r',Vals.inj t t']
section
variable {X:Cx} {pins:List (Addr × Obj)} {σ:St} {H:Hp} {s:Shared} {a:Addr} {xs ys:List V}
theorem SqL.of {K:PySem.W.Frag} (h:H a = some (.lst xs)):SqL K H a xs:=.inl (.inl h)
theorem SqT.of {K:PySem.W.Frag} (h:H a = some (.tup xs)):SqT K H a xs:=.inl (.inl h)
theorem Inv.list (I:Inv X pins σ H s) (h:SqL X.K H a xs):∃ its:List Value,Vals xs its∧PlainL s.heap a its.toArray∧xs.length≤sizeLine:=by
  rcases h with h | ⟨o,its,n,hk,hc,hd,hs,hz,r⟩
  · obtain ⟨z,its,n,r,e⟩:=h.ok I.hok
    exact ⟨its,r,⟨_,n,e,rfl,rfl,rfl⟩,z⟩
  · refine ⟨its.toList,r,⟨o,n,I.kIn a o hk,hc,hd,by simpa using hs⟩,?_⟩
    have e:=r.length
    simp only [Array.length_toList] at e
    omega
theorem Inv.tuple (I:Inv X pins σ H s) (h:SqT X.K H a xs):∃ its:List Value,Vals xs its∧IsTup s.heap a its.toArray∧xs.length≤sizeLine:=by
  rcases h with h | ⟨o,its,n,hk,hc,hs,hz,r⟩
  · obtain ⟨z,its,r,p⟩:=h.ok I.hok
    exact ⟨its,r,p,z⟩
  · refine ⟨its.toList,r,⟨o,I.kIn a o hk,hc,n,by simpa using hs⟩,?_⟩
    have e:=r.length
    simp only [Array.length_toList] at e
    omega
theorem Inv.list_inj (I:Inv X pins σ H s) (h:SqL X.K H a xs) (h':SqL X.K H a ys):xs = ys:=by
  obtain ⟨its,r,⟨o,n,e,_,_,d⟩,_⟩:=I.list h
  obtain ⟨its',r',⟨o',n',e',_,_,d'⟩,_⟩:=I.list h'
  rw [e] at e'; cases e'
  rw [d] at d'
  injection d' with d1 _
  have:its = its':=by simpa using congrArg Array.toList d1
  subst this
  exact r.inj r'
theorem Inv.tuple_inj (I:Inv X pins σ H s) (h:SqT X.K H a xs) (h':SqT X.K H a ys):xs = ys:=by
  obtain ⟨its,r,⟨o,e,_,n,d⟩,_⟩:=I.tuple h
  obtain ⟨its',r',⟨o',e',_,n',d'⟩,_⟩:=I.tuple h'
  rw [e] at e'; cases e'
  rw [d] at d'
  injection d' with d1 _
  have:its = its':=by simpa using congrArg Array.toList d1
  subst this
  exact r.inj r'
end
abbrev Cx.wish (X:Cx) (E:Value→Shared→Prop):Cx:={ X with xe:=E }
abbrev Cx.nox (X:Cx):Cx:=X.wish fun _ _=>False
theorem Cx.Ok.wish {X:Cx} (ok:X.Ok) (E:Value→Shared→Prop):(X.wish E).Ok :=
  ⟨ok.mod,ok.kind,ok.glob,ok.blt,ok.above,ok.inj,ok.has,ok.cab,ok.hd,ok.frames,ok.stk,ok.exf,ok.bs,ok.bsz,ok.noex,ok.exfs,ok.funs,ok.frf⟩
theorem Cx.Ok.unwish {X:Cx} {E:Value→Shared→Prop} (ok:(X.wish E).Ok):X.Ok :=
  ⟨ok.mod,ok.kind,ok.glob,ok.blt,ok.above,ok.inj,ok.has,ok.cab,ok.hd,ok.frames,ok.stk,ok.exf,ok.bs,ok.bsz,ok.noex,ok.exfs,ok.funs,ok.frf⟩
section
variable {X:Cx} {pins:List (Addr × Obj)} {σ:St} {H:Hp} {s:Shared} {E:Value→Shared→Prop}
theorem Inv.wish (I:Inv X pins σ H s) (E:Value→Shared→Prop):Inv (X.wish E) pins σ H s:=⟨I.ok.wish E,I.os,I.bare,I.base,I.loc,I.cell,I.free,I.freeC,I.pin,I.hok,I.len⟩
theorem Inv.unwish (I:Inv (X.wish E) pins σ H s):Inv X pins σ H s:=⟨I.ok.unwish,I.os,I.bare,I.base,I.loc,I.cell,I.free,I.freeC,I.pin,I.hok,I.len⟩
theorem SP.unwish {D:Ends} {f:Flow} {s':Shared} (h:SP (X.wish E) pins D f s'):SP X pins D f s':=by
  cases f with
  | next=>obtain ⟨σ',H',I,q⟩:=h; exact ⟨σ',H',I.unwish,q⟩
  | brk=>obtain ⟨σ',H',I,q⟩:=h; exact ⟨σ',H',I.unwish,q⟩
  | cont=>obtain ⟨σ',H',I,q⟩:=h; exact ⟨σ',H',I.unwish,q⟩
  | ret u=>obtain ⟨v,σ',H',I,r,q⟩:=h; exact ⟨v,σ',H',I.unwish,r,q⟩
theorem PSs.nox {st:List Stmt} {t:TS} (h:PSs X.nox st t):PSs X st t:=fun pins s σ H D I hw =>
  wpAny_mono (h pins s σ H D (I.wish _) hw) (fun _ _ q=>q.unwish) fun _ _ z=>False.elim z
end
section
variable {X:Cx} {st:Stmt} {rest:List Stmt} {t u:TS} {e:Expr} {te:TE} {pos:Pos}
def tNext:TS:=fun D σ H=>D.nx σ H
def tSeq (t u:TS):TS:=fun D σ H=>t { D with nx:=u D } σ H
theorem pss_nil:PSs X [] tNext:=fun _ _ σ H _ I h=>wpAny_execs_nil ⟨σ,H,I,h⟩
theorem pss_cons (h1:PS X st t) (h2:PSs X rest u):PSs X (st :: rest) (tSeq t u):=by
  intro pins s σ H D I h
  refine wpAny_execs_cons (thn (h1 pins s σ H { D with nx:=u D } I h) fun f s1 q=>?_)
  cases f with
  | next =>
    obtain ⟨σ',H',I',q⟩:=q
    exact h2 pins s1 σ' H' D I' q
  | ret v=>exact q
  | brk=>exact q
  | cont=>exact q
theorem pss_one (h1:PS X st t):PSs X [st] t:=by
  intro pins s σ H D I h
  refine wpAny_execs_cons (thn (h1 pins s σ H D I h) fun f s1 q=>?_)
  cases f with
  | next=>exact wpAny_execs_nil q
  | ret v=>exact q
  | brk=>exact q
  | cont=>exact q
theorem Inv.quiet {pins:List (Addr × Obj)} {σ:St} {H:Hp} {s:Shared} (I:Inv X pins σ H s):interactive X.env = false:=by simp [interactive,I.ok.kind]
def tDrop (te:TE):TS:=fun D σ H=>te σ H fun _ H1=>D.nx σ H1
theorem ps_expr (he:PE X e te) (hs:swapsWith e none pos.line X.env = pure false:=by rfl):PS X (.Expr e pos) (tDrop te):=by
  intro pins s σ H D I h
  exact wpAny_Expr_any (thn (he pins s σ H _ I h) fun v s1 ⟨x,H1,I1,r1,q1⟩=>⟨σ,H1,I1,q1⟩) I.quiet hs
def tRet (te:TE):TS:=fun D σ H=>te σ H D.rt
theorem ps_ret (he:PE X e te):PS X (.Return (some e) pos) (tRet te):=by
  intro pins s σ H D I h
  exact wpAny_Return_some (thn (he pins s σ H _ I h) fun v s1 ⟨x,H1,I1,r1,q1⟩=>⟨x,σ,H1,I1,r1,q1⟩)
def tIfS (c:TT) (t u:TS):TS:=fun D σ H=>c σ H fun b H1=>if b = true then t D σ H1 else u D σ H1
theorem ps_if {c:Expr} {a b:List Stmt} {tc:TT} (hc:PT X c tc) (ha:PSs X a t) (hb:PSs X b u):PS X (.If c a b pos) (tIfS tc t u):=by
  intro pins s σ H D I h
  refine wpAny_If (thn (hc pins s σ H _ I h) fun d s1 ⟨H1,I1,q1⟩=>?_)
  cases d with
  | true=>exact ha pins s1 σ H1 D I1 q1
  | false=>exact hb pins s1 σ H1 D I1 q1
def tNever:TS:=fun _ _ _=>False
theorem ps_never:PS X st tNever:=fun _ _ _ _ _ _ h=>h.elim
theorem pss_never {sts:List Stmt}:PSs X sts tNever:=fun _ _ _ _ _ _ h=>h.elim
end
abbrev TG:=V→St→Hp→(St→Hp→Prop)→Prop
abbrev TGs:=List V→St→Hp→(St→Hp→Prop)→Prop
def PG (X:Cx) (target:Expr) (t:TG):Prop :=
  ∀ (pins:List (Addr × Obj)) (s:Shared) (σ:St) (H:Hp) (v:V) (u:Value) (Q:St→Hp→Prop),Inv X pins σ H s→RelV v u→t v σ H Q →
    wpAny (model X.prog X.w) X.A (assign target X.env u) (fun _ s'=>∃ σ' H',Inv X pins σ' H' s'∧Q σ' H') X.xe s
def PGs (X:Cx) (ts:List Expr) (t:TGs):Prop :=
  ∀ (pins:List (Addr × Obj)) (s:Shared) (σ:St) (H:Hp) (vs:List V) (us:List Value) (Q:St→Hp→Prop),Inv X pins σ H s→Vals vs us→t vs σ H Q →
    wpAny (model X.prog X.w) X.A (assignInOrder ((assignEach ts X.env).map (·.2)) us) (fun _ s'=>∃ σ' H',Inv X pins σ' H' s'∧Q σ' H') X.xe s
abbrev TIp:=V→V→Hp→VK→Prop
def PIp (X:Cx) (op:Operator) (t:TIp):Prop :=
  ∀ (pins:List (Addr × Obj)) (s:Shared) (σ:St) (H:Hp) (x y:V) (v u:Value) (Q:VK),Inv X pins σ H s→RelV x v→RelV y u→t x y H Q →
    wpAny (model X.prog X.w) X.A (inplaceOp op v u) (EP X pins σ Q) X.xe s
section
variable {X:Cx} {pos:Pos}
def gName (i:Nat):TG:=fun v σ H Q=>Q (σ.set i (some v)) H
theorem pg_name {i:Nat} {x:Str} (hN:X.N.Nodup) (hi:X.N[i]? = some x) (hx:Loc X.env.scope x) (hf:X.fn x = true∨X.env.scope.names.lookup x = some .local:=by first | exact .inl rfl | exact .inr rfl | assumption):PG X (.Name x pos) (gName i):=by
  intro pins s σ H v u Q I r h
  exact wpAny_assign_Name (store_ok I hN hi hx r (fun s' I'=>⟨_,H,I',h⟩) hf)
def gNil:TGs:=fun vs σ H Q=>vs = []∧Q σ H
def gCons (t:TG) (u:TGs):TGs:=fun vs σ H Q=>∃ v r,vs = v :: r∧t v σ H fun σ' H'=>u r σ' H' Q
theorem pgs_nil:PGs X [] gNil:=by
  intro pins s σ H vs us Q I r h
  obtain ⟨e,h⟩:=h
  subst e
  cases r
  exact assignInOrder_nil ⟨σ,H,I,h⟩
theorem pgs_cons {e:Expr} {es:List Expr} {t:TG} {u:TGs} (h1:PG X e t) (h2:PGs X es u)
    (hs:(assignEach (e :: es) X.env).map (·.2) = assign e X.env :: (assignEach es X.env).map (·.2):=by rfl):PGs X (e :: es) (gCons t u):=by
  intro pins s σ H vs us Q I r h
  obtain ⟨v,vr,e1,h⟩:=h
  subst e1
  cases r with
  | cons r rr =>
    rw [hs]
    refine assignInOrder_cons (thn (h1 pins s σ H _ _ _ I r h) fun _ s1 ⟨σ1,H1,I1,q1⟩=>?_)
    exact h2 pins s1 σ1 H1 _ _ Q I1 rr q1
def gTup (K:PySem.W.Frag) (n:Nat) (t:TGs):TG:=fun v σ H Q=>∃ a xs,v = .ref a∧SqT K H a xs∧xs.length = n∧t xs σ H Q
theorem pg_tup {es:List Expr} {k:Nat} {t:TGs} {n:Nat} (hc:X.calm = true) (h:PGs X es t)
    (hn:(assignEach es X.env).length = n:=by rfl) (hst:(assignEach es X.env).findIdx? (·.1) = none:=by rfl):PG X (.Tuple es k pos) (gTup X.K n t):=by
  intro pins s σ H v u Q I r hw
  obtain ⟨a,xs,e1,hq,hl,hw⟩:=hw
  subst e1
  cases r
  obtain ⟨its,rv,ht,hz⟩:=I.tuple hq
  refine assign_Tuple_tuple (I.ok.hd hc) ht (by simp [hn,← hl,rv.length]) hst fun h' hx=>?_
  have I1:Inv X pins σ H { s with heap:=h' }:=I.kept (t':=s.toks) fun b o e=>hx b o (Nat.ne_of_lt (Heap.lt_size e)) e
  exact h pins _ σ H xs _ Q I1 (by simpa using rv) hw
def tAsg (te:TE) (g:TG):TS:=fun D σ H=>te σ H fun x H1=>g x σ H1 D.nx
theorem ps_asg {tg e:Expr} {te:TE} {g:TG} (he:PE X e te) (hg:PG X tg g) (hs:swapsWithSole [tg] e pos.line X.env = pure false:=by rfl) (hw:swappedStores [tg] e X.env = pure none:=by rfl)
    (h1:(assignEach [tg] X.env).map (·.2) = [assign tg X.env]:=by rfl):PS X (.Assign [tg] e pos) (tAsg te g):=by
  intro pins s σ H D I h
  refine wpAny_Assign_stores (thn (he pins s σ H _ I h) fun v s1 ⟨x,H1,I1,r1,q1⟩=>?_) hs hw
  rw [h1]
  exact thn (hg pins s1 σ H1 x v _ I1 r1 q1) fun _ s2 q=>q
theorem ps_set {i:Nat} {x:Str} {e:Expr} {te:TE} {pos':Pos} (hN:X.N.Nodup) (hi:X.N[i]? = some x) (hx:Loc X.env.scope x) (he:PE X e te) (hs:swapsWith e (some (.Name x pos')) pos.line X.env = pure false:=by rfl) (hf:X.fn x = true∨X.env.scope.names.lookup x = some .local:=by first | exact .inl rfl | exact .inr rfl | assumption) :
    PS X (.Assign [.Name x pos'] e pos) (tAsg te (gName i)):=by
  intro pins s σ H D I h
  refine wpAny_Assign_Name (thn (he pins s σ H _ I h) fun v s1 ⟨y,H1,I1,r1,q1⟩=>?_) hs
  exact store_ok I1 hN hi hx r1 (fun s2 I2=>⟨_,H1,I2,q1⟩) hf
def tAug (i:Nat) (te:TE) (ti:TIp):TS:=fun D σ H=>∃ x,σ[i]? = some (some x)∧te σ H fun y H1=>ti x y H1 fun z H2=>D.nx (σ.set i (some z)) H2
theorem ps_aug {i:Nat} {x:Str} {e:Expr} {te:TE} {op:Operator} {ti:TIp} {pos':Pos} (hN:X.N.Nodup) (hi:X.N[i]? = some x) (hx:Loc X.env.scope x) (he:PE X e te) (ho:PIp X op ti) (hf:X.fn x = true∨X.env.scope.names.lookup x = some .local:=by first | exact .inl rfl | exact .inr rfl | assumption) :
    PS X (.AugAssign (.Name x pos') op e pos) (tAug i te ti):=by
  intro pins s σ H D I h
  obtain ⟨v,e1,h⟩:=h
  obtain ⟨m,hn,hl⟩:=I.loc
  have vis:Vis X.env.scope x:=by rcases hx with k | k; exact .inl k; exact .inr (.inl k)
  obtain ⟨u,r,l⟩:=hl i x v hi e1 vis
  refine wpAny_AugAssign_Name ?_
  have go:wpAny (model X.prog X.w) X.A (eval e X.env) (fun w s₂=>wpAny (model X.prog X.w) X.A (inplaceOp op u w) (fun r s₃=>wpAny (model X.prog X.w) X.A (storeName X.env x r) (fun _=>SP X pins D .next) X.xe s₃) X.xe s₂) X.xe s:=by
    refine thn (he pins s σ H _ I h) fun w s1 ⟨y,H1,I1,r1,q1⟩=>?_
    refine thn (ho pins s1 σ H1 v y u w _ I1 r r1 q1) fun z s2 ⟨zv,H2,I2,r2,q2⟩=>?_
    exact store_ok I2 hN hi hx r2 (fun s3 I3=>⟨_,H2,I3,q2⟩) hf
  rcases l with ⟨hk,hm⟩ | ⟨hk,c,hc,hcell⟩
  · exact wpAny_loadName_local I.ok.kind hk hn hm go
  · rcases hk with hk | hk
    · exact wpAny_loadName_cell I.ok.kind hk hc hcell go
    · rcases hx with k | k
      · have:X.env.scope.names.lookup x = some .free:=hk
        rw [k] at this; cases this
      · have:X.env.scope.names.lookup x = some .free:=hk
        rw [k] at this; cases this
end
section
variable {X:Cx} {pos:Pos}
def tWhile (c:TT) (tb:TS):TS:=fun D σ H=>∃ W:Nat→St→Hp→Prop,(∃ m,W m σ H)∧∀ m σ H,W m σ H →
  c σ H fun b H1=>if b = true then ∃ N:St→Hp→Prop,(∀ σ' H',N σ' H'→∃ m',m' < m∧W m' σ' H')∧tb { D with nx:=N,ct:=N,bk:=D.nx } σ H1 else D.nx σ H1
theorem ps_while {c:Expr} {body:List Stmt} {tc:TT} {tb:TS} (hp:PassesOwn (model X.prog X.w) X.A X.env X.xe) (hc:PT X c tc) (hb:PSs X body tb):PS X (.While c body [] pos) (tWhile tc tb):=by
  intro pins s σ H D I h
  obtain ⟨W,⟨m0,w0⟩,turn⟩:=h
  refine wpAny_While (codeAny_whileLoop (fun n s'=>∃ σ' H',Inv X pins σ' H' s'∧W n σ' H') ?_ m0 ⟨σ,H,I,w0⟩)
  rintro n s1 ⟨σ1,H1,I1,w1⟩
  refine wpAny_passesOwn hp (thn (hc pins s1 σ1 H1 _ I1 (turn n σ1 H1 w1)) fun b s2 ⟨H2,I2,q2⟩=>?_)
  cases b with
  | true =>
    obtain ⟨N,hN,q2⟩:=q2
    rw [if_pos rfl]
    refine wpAny_passesOwn hp (thn (hb pins s2 σ1 H2 _ I2 q2) fun f s3 q3=>?_)
    cases f with
    | next =>
      obtain ⟨σ3,H3,I3,n3⟩:=q3
      obtain ⟨m',hm,w3⟩:=hN σ3 H3 n3
      exact ⟨m',hm,σ3,H3,I3,w3⟩
    | cont =>
      obtain ⟨σ3,H3,I3,n3⟩:=q3
      obtain ⟨m',hm,w3⟩:=hN σ3 H3 n3
      exact ⟨m',hm,σ3,H3,I3,w3⟩
    | brk=>exact q3
    | ret v=>exact q3
  | false =>
    rw [if_neg Bool.false_ne_true]
    exact wpAny_execs_nil ⟨σ1,H2,I2,q2⟩
end
structure It where
  go:Nat→Hp→Prop
  yld:Nat→Hp→V→Hp→Prop
  stop:Nat→Hp→Prop
def FpOk (X:Cx) (pins:List (Addr × Obj)) (H:Hp) (b:Addr):Prop :=
  H b = none∧b≠X.env.locals∧b ∉ X.fs∧(b∈X.ex∨X.s₀.heap.objs.size≤b)∧(∀ x c,X.env.cells.lookup x = some c→c≠b)∧∀ p∈X.pn ++ pins,p.1≠b
theorem Inv.fpOk {X:Cx} {pins:List (Addr × Obj)} {σ:St} {H H':Hp} {s:Shared} {b:Addr} (I:Inv X pins σ H s) (hb:s.heap.objs.size≤b) (hn:H' b = none):FpOk X pins H' b:=by
  refine ⟨hn,Nat.ne_of_gt (Nat.lt_of_lt_of_le I.lt hb),I.nofs hb,.inr (Nat.le_trans I.sz hb),fun x c e z=>?_,fun p hp z=>?_⟩
  · obtain ⟨v,q⟩:=I.cell x c e
    exact absurd (Nat.lt_of_lt_of_le q.lt (by rw [z]; exact hb)) (Nat.lt_irrefl _)
  · exact absurd (Nat.lt_of_lt_of_le (Heap.lt_size (I.pin p hp).1) (by rw [z]; exact hb)) (Nat.lt_irrefl _)
abbrev Calm (X:Cx):Prop:=X.calm = true
structure Turn (P:Program) (w:World) (K:PySem.W.Frag) (tg:Expr) (J:It) (fp:List Addr) (it:Addr) (tn:Nat→Heap→Prop) (rd:Cx→Prop:=Calm):Prop where
  mem:it∈fp
  obj:∀ i h,tn i h→∀ b∈fp,∃ o,h.get? b = some o∧∀ v,o.data≠.cell v
  keep:∀ i h h',tn i h→(∀ b∈fp,∀ o,h.get? b = some o→h'.get? b = some o)→tn i h'
  item:∀ (X:Cx),X.prog = P→X.w = w→X.K = K→rd X→∀ (i:Nat) (pins:List (Addr × Obj)) (s:Shared) (σ:St) (H:Hp) (E:Value→Shared→Prop),Inv X pins σ H s→(∀ b∈fp,FpOk X pins H b)→tn i s.heap→J.go i H →
    wpAny (model P w) X.A (pyNext (.ref it)) (fun r s1=>∃ u,r = some u ∧
      wpAny (model P w) X.A (letOwnedTupleGo tg (.ref it) u) (fun _ s2=>∃ x H',Inv X pins σ H' s2∧RelV x u∧J.yld i H x H'∧tn (i + 1) s2.heap∧∀ b∈fp,H' b = none) E s1) E s
  done:∀ (X:Cx),X.prog = P→X.w = w→X.K = K→rd X→∀ (i:Nat) (pins:List (Addr × Obj)) (s:Shared) (σ:St) (H:Hp) (E:Value→Shared→Prop),Inv X pins σ H s→(∀ b∈fp,FpOk X pins H b)→tn i s.heap→J.stop i H →
    wpAny (model P w) X.A (pyNext (.ref it)) (fun r s1=>r = none∧Inv X pins σ H s1) E s
  self:∀ (A:Around) (i:Nat) (s:Shared) (Q:Value→Shared→Prop) (E:Value→Shared→Prop),tn i s.heap→Q (.ref it) s→wpAny (model P w) A (pyIter (.ref it)) Q E s
abbrev TI:=St→Hp→(It→Hp→Prop)→Prop
def PIEr (rd:Cx→Prop) (X:Cx) (pins:List (Addr × Obj)) (σ:St) (tg:Expr) (R:It→Hp→Prop) (itv:Value) (s2:Shared):Prop :=
  ∃ (it:Addr) (fp:List Addr) (tn:Nat→Heap→Prop) (J:It) (H':Hp),itv = .ref it∧Inv X pins σ H' s2∧Turn X.prog X.w X.K tg J fp it tn rd∧tn 0 s2.heap∧(∀ b∈fp,FpOk X pins H' b)∧R J H'
abbrev PIE:=PIEr Calm
def PIr (rd:Cx→Prop) (X:Cx) (tg iter:Expr) (wi:TI):Prop :=
  ∀ (pins:List (Addr × Obj)) (s:Shared) (σ:St) (H:Hp) (R:It→Hp→Prop),Inv X pins σ H s→wi σ H R →
    wpAny (model X.prog X.w) X.A (eval iter X.env) (fun v s1=>wpAny (model X.prog X.w) X.A (pyIter v) (PIEr rd X pins σ tg R) X.xe s1) X.xe s
abbrev PI:=PIr Calm
theorem go_of {M:Model} {A:Around} {E:Value→Shared→Prop} {s:Shared} {tg:Expr} {it:Addr} {u:Value} {o:Obj} {n:String} {vs:Array Value} {Q:Unit→Shared→Prop} (ho:s.heap.get? it = some o) (hc:o.cls = .type n) (hd:o.data = .fields vs)
    (hn:["enumerate", "zip", "dict_itemiterator", "dict_reverseitemiterator", "odict_iterator", "itertools.zip_longest", "itertools.pairwise"].contains n = false) (hQ:Q () s):wpAny M A (letOwnedTupleGo tg (.ref it) u) Q E s:=by
  unfold letOwnedTupleGo
  cases tg <;> first
    | exact wpAny_pure hQ
    | (cases u <;> first
        | exact wpAny_pure hQ
        | (refine wpAny_bind (wpAny_load ho ?_)
           rw [hc,hd]
           show wpAny M A (if (["enumerate", "zip", "dict_itemiterator", "dict_reverseitemiterator", "odict_iterator", "itertools.zip_longest", "itertools.pairwise"].contains n && vs[0]? == some (rawInt _)) = true then _ else _) Q E s
           rw [if_neg (by intro h; rw [hn,Bool.false_and] at h; cases h)]
           exact wpAny_pure hQ))
def Itl (K:PySem.W.Frag) (a:Addr):It :=
  ⟨fun i H=>∃ xs x,SqL K H a xs∧xs[i]? = some x,fun i H x H'=>H' = H∧∀ xs,SqL K H a xs→xs[i]? = some x,fun i H=>∃ xs,SqL K H a xs∧xs.length≤i⟩
def Itt (K:PySem.W.Frag) (a:Addr):It :=
  ⟨fun i H=>∃ xs x,SqT K H a xs∧xs[i]? = some x,fun i H x H'=>H' = H∧∀ xs,SqT K H a xs→xs[i]? = some x,fun i H=>∃ xs,SqT K H a xs∧xs.length≤i⟩
def Itr (lo:Int) (n:Nat):It:=⟨fun i _=>i < n,fun i H x H'=>H' = H∧x = .int (lo + i),fun i _=>n≤i⟩
theorem turn_list {P:Program} {w:World} {K:PySem.W.Frag} {tg:Expr} (a it:Addr):Turn P w K tg (Itl K a) [it] it (fun i h=>h.IsListIter it a i) where
  mem:=by simp
  obj:=fun i h st b hb=>by
    have e:b = it:=by simpa using hb
    subst e
    obtain ⟨o,e,c,d⟩:=st
    exact ⟨o,e,fun v z=>by rw [d] at z; cases z⟩
  keep:=fun i h h' st k=>st.at fun o e=>k it (by simp) o e
  item:=by
    intro X hP hw hK hc i pins s σ H E I hf st hg
    subst hP hw hK
    obtain ⟨xs,x,hq,hx⟩:=hg
    obtain ⟨its,rv,p,hz⟩:=I.list hq
    obtain ⟨u,hu,ru⟩:=rv.get hx
    obtain ⟨f0,f1,f2,f3,f4,f5⟩:=hf it (by simp)
    refine wpAny_pyNext_list_item st p.isList (x:=u) (by simpa using hu) fun h' st' sb=>?_
    have I1:Inv X pins σ H { s with heap:=h' }:=I.turned (t':=s.toks) (fun b o hb e=>(sb.2 b hb).trans e) f0 f1 f3 f4 f5
    obtain ⟨o,e,c,d⟩:=id st'
    exact ⟨u,rfl,go_of (s:={ s with heap:=h' }) e c d (by decide) ⟨x,H,I1,ru,⟨rfl,fun ys hy=>by rw [I.list_inj hy hq]; exact hx⟩,st',fun b hb=>(hf b hb).1⟩⟩
  done:=by
    intro X hP hw hK hc i pins s σ H E I hf st hg
    subst hP hw hK
    obtain ⟨xs,hq,hx⟩:=hg
    obtain ⟨its,rv,p,hz⟩:=I.list hq
    obtain ⟨f0,f1,f2,f3,f4,f5⟩:=hf it (by simp)
    have hl:=rv.length
    exact wpAny_pyNext_list_end (I.ok.hd hc) st p.isList (by simp; omega) fun h' eb=>⟨rfl,I.turned (t':=s.toks) (fun b o hb e=>eb b o hb e) f0 f1 f3 f4 f5⟩
  self:=fun _ _ _ _ _ st h=>wpAny_pyIter_listiter st h
theorem turn_tuple {P:Program} {w:World} {K:PySem.W.Frag} {tg:Expr} (a it:Addr):Turn P w K tg (Itt K a) [it] it (fun i h=>h.IsTupleIter it a i) where
  mem:=by simp
  obj:=fun i h st b hb=>by
    have e:b = it:=by simpa using hb
    subst e
    obtain ⟨o,e,c,d⟩:=st
    exact ⟨o,e,fun v z=>by rw [d] at z; cases z⟩
  keep:=fun i h h' st k=>st.at fun o e=>k it (by simp) o e
  item:=by
    intro X hP hw hK hc i pins s σ H E I hf st hg
    subst hP hw hK
    obtain ⟨xs,x,hq,hx⟩:=hg
    obtain ⟨its,rv,p,hz⟩:=I.tuple hq
    obtain ⟨u,hu,ru⟩:=rv.get hx
    obtain ⟨f0,f1,f2,f3,f4,f5⟩:=hf it (by simp)
    refine wpAny_pyNext_tuple_item st (show s.heap.IsTuple a its.toArray from p) (x:=u) (by simpa using hu) fun h' st' sb=>?_
    have I1:Inv X pins σ H { s with heap:=h' }:=I.turned (t':=s.toks) (fun b o hb e=>(sb.2 b hb).trans e) f0 f1 f3 f4 f5
    obtain ⟨o,e,c,d⟩:=id st'
    exact ⟨u,rfl,go_of (s:={ s with heap:=h' }) e c d (by decide) ⟨x,H,I1,ru,⟨rfl,fun ys hy=>by rw [I.tuple_inj hy hq]; exact hx⟩,st',fun b hb=>(hf b hb).1⟩⟩
  done:=by
    intro X hP hw hK hc i pins s σ H E I hf st hg
    subst hP hw hK
    obtain ⟨xs,hq,hx⟩:=hg
    obtain ⟨its,rv,p,hz⟩:=I.tuple hq
    obtain ⟨f0,f1,f2,f3,f4,f5⟩:=hf it (by simp)
    have hl:=rv.length
    exact wpAny_pyNext_tuple_end (I.ok.hd hc) st (show s.heap.IsTuple a its.toArray from p) (by simp; omega) fun h' eb=>⟨rfl,I.turned (t':=s.toks) (fun b o hb e=>eb b o hb e) f0 f1 f3 f4 f5⟩
  self:=fun _ _ _ _ _ st h=>wpAny_pyIter_tupleiter st h
theorem turn_range {P:Program} {w:World} {K:PySem.W.Frag} {tg:Expr} (it:Addr) (lo:Int) (n:Nat):Turn P w K tg (Itr lo n) [it] it (fun i h=>IsRangeIter h it (lo + (i:Nat) * 1) ((n:Int) - (i:Nat)) 1) where
  mem:=by simp
  obj:=fun i h st b hb=>by
    have e:b = it:=by simpa using hb
    subst e
    exact ⟨_,st,fun v z=>by
      have z':Data.fields _ = Data.cell v:=z
      cases z'⟩
  keep:=fun i h h' st k=>k it (by simp) _ st
  item:=by
    intro X hP hw hK hc i pins s σ H E I hf st hg
    subst hP hw hK
    obtain ⟨f0,f1,f2,f3,f4,f5⟩:=hf it (by simp)
    have W:=Walks.range (prog:=X.prog) (w:=X.w) (I.ok.hd hc) it lo 1 n
    refine W.item i s _ _ hg st fun v h' tk hv st' kk=>?_
    obtain ⟨t,rfl⟩:=hv
    have I1:Inv X pins σ H { s with heap:=h',toks:=tk }:=I.turned (fun b o hb e=>kk b o (by simpa using hb) e) f0 f1 f3 f4 f5
    refine ⟨_,rfl,go_of (s:={ s with heap:=h',toks:=tk }) (n := "range_iterator") st' rfl rfl (by decide) ⟨.int (lo + i),H,I1,⟨t,?_⟩,⟨rfl,rfl⟩,st',fun b hb=>(hf b hb).1⟩⟩
    rw [Int.mul_one]
  done:=by
    intro X hP hw hK hc i pins s σ H E I hf st hg
    subst hP hw hK
    obtain ⟨f0,f1,f2,f3,f4,f5⟩:=hf it (by simp)
    exact wpAny_pyNext_range_end (I.ok.hd hc) st (by have:n≤i:=hg; omega) fun h' eb=>⟨rfl,I.turned (t':=s.toks) (fun b o hb e=>eb b o hb e) f0 f1 f3 f4 f5⟩
  self:=fun _ _ _ _ _ st h=>wpAny_pyIter_rangeiter st h
end L2
namespace L2
open PySem PySem.Spec PyProof.Rows
section
variable {X:Cx} {tg:Expr}
def iList (K:PySem.W.Frag) (tl:TE):TI:=fun σ H R=>tl σ H fun x H1=>∃ a,x = .ref a∧(∃ xs,SqL K H1 a xs)∧R (Itl K a) H1
def iTup (K:PySem.W.Frag) (tl:TE):TI:=fun σ H R=>tl σ H fun x H1=>∃ a,x = .ref a∧(∃ xs,SqT K H1 a xs)∧R (Itt K a) H1
theorem pi_list {l:Expr} {tl:TE} (hl:PE X l tl):PI X tg l (iList X.K tl):=by
  intro pins s σ H R I h
  refine thn (hl pins s σ H _ I h) fun v s1 ⟨x,H1,I1,r1,q1⟩=>?_
  obtain ⟨a,e,⟨xs,hq⟩,q⟩:=q1
  subst e
  cases r1
  obtain ⟨its,rv,p,hz⟩:=I1.list hq
  refine wpAny_pyIter_list p.isList ?_
  refine ⟨s1.heap.objs.size,[s1.heap.objs.size],_,_,H1,rfl,I1.kept (t':=s1.toks) fun b o e=>Heap.get?_push_of_some _ e,turn_list a _,⟨_,Heap.get?_push_size _ rfl,rfl,rfl⟩,fun b hb=>?_,q⟩
  have e:b = s1.heap.objs.size:=by simpa using hb
  subst e
  exact I1.fpOk (Nat.le_refl _) (I1.hok.fresh (Nat.le_refl _))
theorem pi_tup {l:Expr} {tl:TE} (hl:PE X l tl):PI X tg l (iTup X.K tl):=by
  intro pins s σ H R I h
  refine thn (hl pins s σ H _ I h) fun v s1 ⟨x,H1,I1,r1,q1⟩=>?_
  obtain ⟨a,e,⟨xs,hq⟩,q⟩:=q1
  subst e
  cases r1
  obtain ⟨its,rv,p,hz⟩:=I1.tuple hq
  refine wpAny_pyIter_tuple (show s1.heap.IsTuple a its.toArray from p) ?_
  refine ⟨s1.heap.objs.size,[s1.heap.objs.size],_,_,H1,rfl,I1.kept (t':=s1.toks) fun b o e=>Heap.get?_push_of_some _ e,turn_tuple a _,⟨_,Heap.get?_push_size _ rfl,rfl,rfl⟩,fun b hb=>?_,q⟩
  have e:b = s1.heap.objs.size:=by simpa using hb
  subst e
  exact I1.fpOk (Nat.le_refl _) (I1.hok.fresh (Nat.le_refl _))
theorem range_it {pins:List (Addr × Obj)} {σ:St} {H:Hp} {s:Shared} {R:It→Hp→Prop} {E:Value→Shared→Prop} {lo hi:Int} {t u v:Tok} {tk:Nat} (I:Inv X pins σ H s) (h1:-(2 ^ 62)≤lo) (h2:lo < 2 ^ 62) (h3:-(2 ^ 62)≤hi) (h4:hi < 2 ^ 62)
    (q:R (Itr lo (hi - lo).toNat) H):wpAny (model X.prog X.w) X.A (pyIter (.ref s.heap.objs.size)) (PIE X pins σ tg R) E { s with heap:=s.heap.push { cls:=.type "range", data:=.fields #[.int lo t,.int hi u,.int 1 v] },toks:=tk }:=by
  refine wpAny_pyIter_range (IsRange.new ..) (small_one h1 h2 h3 h4) ?_
  have I1:Inv X pins σ H { s with heap:=s.heap.push { cls:=.type "range", data:=.fields #[.int lo t,.int hi u,.int 1 v] },toks:=tk }:=I.kept fun b o e=>Heap.get?_push_of_some _ e
  refine ⟨(s.heap.push { cls:=.type "range", data:=.fields #[.int lo t,.int hi u,.int 1 v] }).objs.size,[(s.heap.push { cls:=.type "range", data:=.fields #[.int lo t,.int hi u,.int 1 v] }).objs.size],_,_,H,rfl,
    I1.kept (t':=tk) fun b o e=>Heap.get?_push_of_some _ e,turn_range _ lo (hi - lo).toNat,?_,fun b hb=>?_,q⟩
  · have e1:lo + ((0:Nat):Int) * 1 = lo:=by simp
    have e2:(((hi - lo).toNat:Nat):Int) - ((0:Nat):Int) = Builtin.Range.rangeSize lo hi 1:=by rw [rangeSize_one]; split <;> omega
    show IsRangeIter _ _ (lo + ((0:Nat):Int) * 1) ((((hi - lo).toNat:Nat):Int) - ((0:Nat):Int)) 1
    rw [e1,e2]
    exact Heap.get?_push_size _ rfl
  · have e:b = (s.heap.push { cls:=.type "range", data:=.fields #[.int lo t,.int hi u,.int 1 v] }).objs.size:=by simpa using hb
    subst e
    exact I1.fpOk (Nat.le_refl _) (I1.hok.fresh (Nat.le_refl _))
def iRng1 (ta:TA):TI:=fun σ H R=>ta σ H fun vs H1=>∃ j:Int,vs = [.int j]∧-(2 ^ 62)≤j∧j < 2 ^ 62∧R (Itr 0 j.toNat) H1
def iRng2 (ta:TA):TI:=fun σ H R=>ta σ H fun vs H1=>∃ i j:Int,vs = [.int i,.int j]∧(-(2 ^ 62)≤i∧i < 2 ^ 62∧-(2 ^ 62)≤j∧j < 2 ^ 62)∧R (Itr i (j - i).toNat) H1
theorem pi_range1 {a:Expr} {ta:TA} {p pos:Pos} (hg:Gl X "range") (hm:X.mg "range" = none) (ha:PA X [a] ta) (hs:starEach [a] X.env = [(false,eval a X.env)]:=by rfl):PI X tg (.Call (.Name "range" p) [a] [] pos) (iRng1 ta):=by
  intro pins s σ H R I h
  refine Call_ (ld_blt I hg hm boot_range (PyProof.Rows.callWith_type1 (thn (ha pos pins s σ H _ I h) fun us s1 ⟨vs,H1,I1,r1,q1⟩=>?_) hs rfl))
  obtain ⟨j,e,q1,q2,q⟩:=q1
  subst e
  cases r1 with
  | cons r rr =>
    cases rr
    obtain ⟨t,rfl⟩:=r
    exact call_range_1 (range_it I1 (by omega) (by omega) q1 q2 (by simpa using q))
theorem pi_range2 {a b:Expr} {ta:TA} {p pos:Pos} (hg:Gl X "range") (hm:X.mg "range" = none) (ha:PA X [a,b] ta) (hs:starEach [a,b] X.env = [(false,eval a X.env),(false,eval b X.env)]:=by rfl) (hs2:starEach [b] X.env = [(false,eval b X.env)]:=by rfl) :
    PI X tg (.Call (.Name "range" p) [a,b] [] pos) (iRng2 ta):=by
  intro pins s σ H R I h
  refine Call_ (ld_blt I hg hm boot_range (PyProof.Rows.callWith_type1 (thn (ha pos pins s σ H _ I h) fun us s1 ⟨vs,H1,I1,r1,q1⟩=>?_) (by rw [hs,hs2]) (by rw [hs2]; rfl)))
  obtain ⟨i,j,e,⟨q1,q2,q3,q4⟩,q⟩:=q1
  subst e
  cases r1 with
  | cons r rr =>
    cases rr with
    | cons r' rr =>
      cases rr
      obtain ⟨t,rfl⟩:=r
      obtain ⟨t',rfl⟩:=r'
      exact call_range_2 (range_it I1 q1 q2 q3 q4 q)
def tFor (wi:TI) (g:TG) (tb:TS):TS:=fun D σ H=>wi σ H fun J H1=>∃ W:Nat→Nat→St→Hp→Prop,(∃ m,W 0 m σ H1)∧∀ i m σ H,W i m σ H →
  (J.stop i H∧D.nx σ H)∨(J.go i H∧∃ N:St→Hp→Prop,(∀ σ' H',N σ' H'→∃ m',m' < m∧W (i + 1) m' σ' H')∧∀ x H',J.yld i H x H'→g x σ H' fun σ2 H2=>tb { D with nx:=N,ct:=N,bk:=D.nx } σ2 H2)
def pinsAt (fp:List Addr) (h:Heap):List (Addr × Obj):=fp.filterMap fun b=>(h.get? b).map fun o=>(b,o)
theorem mem_pinsAt {fp:List Addr} {h:Heap} {b:Addr} {o:Obj} (hb:b∈fp) (e:h.get? b = some o):(b,o)∈pinsAt fp h:=List.mem_filterMap.mpr ⟨b,hb,by rw [e]; rfl⟩
theorem of_pinsAt {fp:List Addr} {h:Heap} {p:Addr × Obj} (hp:p∈pinsAt fp h):p.1∈fp∧h.get? p.1 = some p.2:=by
  obtain ⟨b,hb,e⟩:=List.mem_filterMap.mp hp
  cases q:h.get? b with
  | none=>rw [q] at e; cases e
  | some o =>
    rw [q] at e
    have e':(b,o) = p:=Option.some.inj e
    subst e'
    exact ⟨hb,q⟩
theorem Inv.pinned {pins:List (Addr × Obj)} {σ:St} {H:Hp} {s:Shared} {fp:List Addr} (I:Inv X pins σ H s) (hf:∀ b∈fp,FpOk X pins H b) (ho:∀ b∈fp,∃ o,s.heap.get? b = some o∧∀ v,o.data≠.cell v):Inv X (pins ++ pinsAt fp s.heap) σ H s :=
  I.pins_of fun p hp=>(List.mem_append.mp hp).elim (fun z=>I.pin p (List.mem_append_right _ z)) fun z=>by
    obtain ⟨hb,e⟩:=of_pinsAt z
    obtain ⟨f0,f1,f2,_⟩:=hf p.1 hb
    obtain ⟨o,e',d⟩:=ho p.1 hb
    rw [e] at e'; cases e'
    exact ⟨e,f0,f1,f2,d⟩
theorem Inv.unpinned {pins pl:List (Addr × Obj)} {σ:St} {H:Hp} {s:Shared} (I:Inv X (pins ++ pl) σ H s):Inv X pins σ H s:=I.pins_of fun p hp=>I.pin p (List.mem_append_right _ (List.mem_append_left _ hp))
theorem ps_for {iter:Expr} {body:List Stmt} {wi:TI} {g:TG} {tb:TS} {pos:Pos} (hp:PassesOwn (model X.prog X.w) X.A X.env X.xe) (hc:X.calm = true) (hi:PI X tg iter wi) (hg:PG X tg g) (hb:PSs X body tb)
    (hs:∀ x,foldedSetIterable iter X.env x = pure x:=by intro _; rfl):PS X (.For tg iter body [] pos) (tFor wi g tb):=by
  intro pins s σ H D I h
  refine wpAny_For (thn (hi pins s σ H _ I h) fun v s1 h1=>thn h1 fun itv s2 h2=>?_) hs
  obtain ⟨it,fp,tn,J,H2,e,I2,T,st2,f2,W,⟨m0,w0⟩,turn⟩:=h2
  subst e
  have stat:∀ {H':Hp},(∀ b∈fp,H' b = none)→∀ b∈fp,FpOk X pins H' b:=fun hn b hb=>⟨hn b hb,(f2 b hb).2⟩
  refine codeAny_forLoop_any (fun n s'=>∃ i σ' H',Inv X pins σ' H' s'∧tn i s'.heap∧(∀ b∈fp,H' b = none)∧W i n σ' H') ?_ m0 ⟨0,σ,H2,I2,st2,fun b hb=>(f2 b hb).1,w0⟩
  rintro n s3 ⟨i,σ3,H3,I3,st3,fr3,w3⟩
  rcases turn i n σ3 H3 w3 with ⟨stop,qn⟩ | ⟨go,N,hN,step⟩
  · refine wpAny_passesOwn hp (thn (T.done X rfl rfl rfl hc i pins s3 σ3 H3 X.xe I3 (stat fr3) st3 stop) fun r s4 ⟨hr,I4⟩=>?_)
    subst hr
    exact wpAny_execs_nil ⟨σ3,H3,I4,qn⟩
  · refine wpAny_passesOwn hp (thn (T.item X rfl rfl rfl hc i pins s3 σ3 H3 X.xe I3 (stat fr3) st3 go) fun r s4 ⟨u,hr,h4⟩=>?_)
    subst hr
    refine wpAny_passesOwn hp (thn h4 fun _ s5 ⟨x,H5,I5,r5,y5,st5,fr5⟩=>?_)
    have I5':=I5.pinned (stat fr5) (T.obj _ _ st5)
    refine wpAny_passesOwn hp (thn (hg _ s5 σ3 H5 x u _ I5' r5 (step x H5 y5)) fun _ s6 ⟨σ6,H6,I6,q6⟩=>?_)
    refine wpAny_passesOwn hp (thn (hb _ s6 σ6 H6 _ I6 q6) fun f s7 q7=>?_)
    have again:∀ {σ7:St} {H7:Hp},Inv X (pins ++ pinsAt fp s5.heap) σ7 H7 s7→N σ7 H7→∃ m,m < n∧∃ i σ' H',Inv X pins σ' H' s7∧tn i s7.heap∧(∀ b∈fp,H' b = none)∧W i m σ' H':=fun {σ7 H7} I7 n7=>by
      obtain ⟨m',hm,w7⟩:=hN σ7 H7 n7
      refine ⟨m',hm,i + 1,σ7,H7,I7.unpinned,T.keep _ _ _ st5 fun b hb o e=>(I7.pin (b,o) (List.mem_append_right _ (List.mem_append_right _ (mem_pinsAt hb e)))).1,fun b hb=>?_,w7⟩
      obtain ⟨o,e,d⟩:=T.obj _ _ st5 b hb
      exact (I7.pin (b,o) (List.mem_append_right _ (List.mem_append_right _ (mem_pinsAt hb e)))).2.1
    cases f with
    | next=>obtain ⟨σ7,H7,I7,n7⟩:=q7; exact again I7 n7
    | cont=>obtain ⟨σ7,H7,I7,n7⟩:=q7; exact again I7 n7
    | brk=>obtain ⟨σ7,H7,I7,q7⟩:=q7; exact ⟨σ7,H7,I7.unpinned,q7⟩
    | ret v=>obtain ⟨x7,σ7,H7,I7,r7,q7⟩:=q7; exact ⟨x7,σ7,H7,I7.unpinned,r7,q7⟩
end
theorem for_list {K:PySem.W.Frag} {a:Addr} {xs:List V} {g:TG} {tb:TS} {D:Ends} {σ:St} {H:Hp} (Pv:Nat→St→Hp→Prop) (h0:Pv 0 σ H) (hl:∀ i σ H,i≤xs.length→Pv i σ H→SqL K H a xs)
    (hs:∀ i x σ H,xs[i]? = some x→Pv i σ H→g x σ H fun σ2 H2=>tb { D with nx:=Pv (i + 1),ct:=Pv (i + 1),bk:=D.nx } σ2 H2) (hd:∀ σ H,Pv xs.length σ H→D.nx σ H) :
    ∃ W:Nat→Nat→St→Hp→Prop,(∃ m,W 0 m σ H)∧∀ i m σ H,W i m σ H →
      ((Itl K a).stop i H∧D.nx σ H)∨((Itl K a).go i H∧∃ N:St→Hp→Prop,(∀ σ' H',N σ' H'→∃ m',m' < m∧W (i + 1) m' σ' H')∧∀ x H',(Itl K a).yld i H x H'→g x σ H' fun σ2 H2=>tb { D with nx:=N,ct:=N,bk:=D.nx } σ2 H2):=by
  refine ⟨fun i m σ H=>m = xs.length - i∧i≤xs.length∧Pv i σ H,⟨xs.length,by simp,Nat.zero_le _,h0⟩,?_⟩
  rintro i m σ H ⟨rfl,hi,p⟩
  have q:=hl i σ H hi p
  by_cases hlt:i < xs.length
  · refine .inr ⟨⟨xs,xs[i],q,by simp [hlt]⟩,Pv (i + 1),fun σ' H' p'=>⟨xs.length - (i + 1),by omega,rfl,hlt,p'⟩,fun x H' y=>?_⟩
    obtain ⟨e,y⟩:=y
    subst e
    exact hs i x σ _ (y xs q) p
  · have e:i = xs.length:=by omega
    subst e
    exact .inl ⟨⟨xs,q,Nat.le_refl _⟩,hd σ H p⟩
theorem for_range {lo:Int} {n:Nat} {g:TG} {tb:TS} {D:Ends} {σ:St} {H:Hp} (Pv:Nat→St→Hp→Prop) (h0:Pv 0 σ H)
    (hs:∀ i σ H,i < n→Pv i σ H→g (.int (lo + i)) σ H fun σ2 H2=>tb { D with nx:=Pv (i + 1),ct:=Pv (i + 1),bk:=D.nx } σ2 H2) (hd:∀ σ H,Pv n σ H→D.nx σ H) :
    ∃ W:Nat→Nat→St→Hp→Prop,(∃ m,W 0 m σ H)∧∀ i m σ H,W i m σ H →
      ((Itr lo n).stop i H∧D.nx σ H)∨((Itr lo n).go i H∧∃ N:St→Hp→Prop,(∀ σ' H',N σ' H'→∃ m',m' < m∧W (i + 1) m' σ' H')∧∀ x H',(Itr lo n).yld i H x H'→g x σ H' fun σ2 H2=>tb { D with nx:=N,ct:=N,bk:=D.nx } σ2 H2):=by
  refine ⟨fun i m σ H=>m = n - i∧i≤n∧Pv i σ H,⟨n,by simp,Nat.zero_le _,h0⟩,?_⟩
  rintro i m σ H ⟨rfl,hi,p⟩
  by_cases hlt:i < n
  · refine .inr ⟨hlt,Pv (i + 1),fun σ' H' p'=>⟨n - (i + 1),by omega,rfl,hlt,p'⟩,fun x H' y=>?_⟩
    obtain ⟨e,y⟩:=y
    subst e y
    exact hs i σ _ hlt p
  · have e:i = n:=by omega
    subst e
    exact .inl ⟨Nat.le_refl _,hd σ H p⟩
end L2
namespace L2
open PySem PySem.Spec PyProof.Rows
abbrev R2:=V→V→Hp→VK→Prop
def OpR (X:Cx) (f:Value→Value→Sem Value) (r:R2):Prop :=
  ∀ (pins:List (Addr × Obj)) (s:Shared) (σ:St) (H:Hp) (x y:V) (v u:Value) (Q:VK),Inv X pins σ H s→RelV x v→RelV y u→r x y H Q →
    wpAny (model X.prog X.w) X.A (f v u) (EP X pins σ Q) X.xe s
def UnR (X:Cx) (f:Value→Sem Value) (r:V→Hp→VK→Prop):Prop :=
  ∀ (pins:List (Addr × Obj)) (s:Shared) (σ:St) (H:Hp) (x:V) (v:Value) (Q:VK),Inv X pins σ H s→RelV x v→r x H Q →
    wpAny (model X.prog X.w) X.A (f v) (EP X pins σ Q) X.xe s
def CallR (X:Cx) (f:Value) (r:List V→Hp→VK→Prop):Prop :=
  ∀ (pins:List (Addr × Obj)) (s:Shared) (σ:St) (H:Hp) (xs:List V) (us:List Value) (Q:VK),Inv X pins σ H s→Vals xs us→r xs H Q →
    wpAny (model X.prog X.w) X.A (call f us) (EP X pins σ Q) X.xe s
def TruR (X:Cx) (r:V→Hp→(Bool→Hp→Prop)→Prop):Prop :=
  ∀ (pins:List (Addr × Obj)) (s:Shared) (σ:St) (H:Hp) (x:V) (v:Value) (Q:Bool→Hp→Prop),Inv X pins σ H s→RelV x v→r x H Q →
    wpAny (model X.prog X.w) X.A (truthy v) (TP X pins σ Q) X.xe s
def tOp (r:R2) (ta tb:TE):TE:=fun σ H Q=>ta σ H fun x H1=>tb σ H1 fun y H2=>r x y H2 Q
def tUn (r:V→Hp→VK→Prop) (ta:TE):TE:=fun σ H Q=>ta σ H fun x H1=>r x H1 Q
def rI (C:Int→Int→Prop) (g:Int→Int→V):R2:=fun x y H Q=>∃ i j,x = .int i∧y = .int j∧C i j∧Q (g i j) H
def rI0 (g:Int→Int→V):R2:=fun x y H Q=>∃ i j,x = .int i∧y = .int j∧Q (g i j) H
def rU (g:Int→V):V→Hp→VK→Prop:=fun x H Q=>∃ i,x = .int i∧Q (g i) H
section
variable {X:Cx} {a b c:Expr} {ta tb tc:TE} {pos:Pos}
theorem binT (ha:PE X a ta) (hb:PE X b tb) {pins:List (Addr × Obj)} {s:Shared} {σ:St} {H:Hp} {R:V→V→Hp→Prop} (I:Inv X pins σ H s)
    (h:ta σ H fun x H1=>tb σ H1 fun y H2=>R x y H2) {Q:Value→Shared→Prop} {f:Value→Value→Sem Value}
    (hf:∀ v u s2 x y H2,Inv X pins σ H2 s2→RelV x v→RelV y u→R x y H2→wpAny (model X.prog X.w) X.A (f v u) Q X.xe s2) :
    wpAny (model X.prog X.w) X.A (eval a X.env) (fun v s₁=>wpAny (model X.prog X.w) X.A (eval b X.env) (fun u s₂=>wpAny (model X.prog X.w) X.A (f v u) Q X.xe s₂) X.xe s₁) X.xe s:=by
  refine thn (ha pins s σ H _ I h) fun v s1 ⟨x,H1,I1,r1,q1⟩=>?_
  refine thn (hb pins s1 σ H1 _ I1 q1) fun u s2 ⟨y,H2,I2,r2,q2⟩=>?_
  exact hf v u s2 x y H2 I2 r1 r2 q2
theorem pe_op {op:Operator} {r:R2} (ho:OpR X (binaryOp op) r) (ha:PE X a ta) (hb:PE X b tb):PE X (.BinOp a op b pos) (tOp r ta tb):=by
  intro pins s σ H Q I h
  exact wpAny_BinOp (binT ha hb I h fun v u s2 x y H2 I2 rx ry q=>ho pins s2 σ H2 x y v u Q I2 rx ry q)
theorem pe_un {op:UnaryOp} {r:V→Hp→VK→Prop} (ho:UnR X (unaryOp op) r) (ha:PE X a ta):PE X (.UnaryOp op a pos) (tUn r ta):=by
  intro pins s σ H Q I h
  exact UnaryOp_ (thn (ha pins s σ H _ I h) fun v s1 ⟨x,H1,I1,r1,q1⟩=>ho pins s1 σ H1 x v Q I1 r1 q1)
theorem opI {f:Value→Value→Sem Value} {C:Int→Int→Prop} {g:Int→Int→Int}
    (rule:∀ (i j:Int) (t u:Tok) (s:Shared) (Q:Value→Shared→Prop) (E:Value→Shared→Prop),C i j→Q (.int (g i j) s.toks) { s with toks:=s.toks + 1 }→wpAny (model X.prog X.w) X.A (f (.int i t) (.int j u)) Q E s) :
    OpR X f (rI C fun i j=>.int (g i j)):=by
  intro pins s σ H x y v u Q I rx ry h
  obtain ⟨i,j,rfl,rfl,hc,q⟩:=h
  obtain ⟨t,rfl⟩:=rx
  obtain ⟨t',rfl⟩:=ry
  exact rule i j t t' s _ _ hc ⟨.int (g i j),H,I.tok _,⟨_,rfl⟩,q⟩
theorem opI0 {f:Value→Value→Sem Value} {g:Int→Int→Int}
    (rule:∀ (i j:Int) (t u:Tok) (s:Shared) (Q:Value→Shared→Prop) (E:Value→Shared→Prop),Q (.int (g i j) s.toks) { s with toks:=s.toks + 1 }→wpAny (model X.prog X.w) X.A (f (.int i t) (.int j u)) Q E s) :
    OpR X f (rI0 fun i j=>.int (g i j)):=by
  intro pins s σ H x y v u Q I rx ry h
  obtain ⟨i,j,rfl,rfl,q⟩:=h
  obtain ⟨t,rfl⟩:=rx
  obtain ⟨t',rfl⟩:=ry
  exact rule i j t t' s _ _ ⟨.int (g i j),H,I.tok _,⟨_,rfl⟩,q⟩
theorem opB0 {f:Value→Value→Sem Value} {g:Int→Int→Bool}
    (rule:∀ (i j:Int) (t u:Tok) (s:Shared) (Q:Value→Shared→Prop) (E:Value→Shared→Prop),Q (.bool (g i j)) s→wpAny (model X.prog X.w) X.A (f (.int i t) (.int j u)) Q E s) :
    OpR X f (rI0 fun i j=>.bl (g i j)):=by
  intro pins s σ H x y v u Q I rx ry h
  obtain ⟨i,j,rfl,rfl,q⟩:=h
  obtain ⟨t,rfl⟩:=rx
  obtain ⟨t',rfl⟩:=ry
  exact rule i j t t' s _ _ ⟨.bl (g i j),H,I,rfl,q⟩
def CDiv (i j:Int):Prop:=0 < j∧j < 1073741824
def CPow (i j:Int):Prop:=0≤j∧j≤1000000∧i.natAbs < 2 ^ 64
def CMul (i j:Int):Prop:=(-(2 ^ 64) < i∧i < 2 ^ 64)∨(-(2 ^ 64) < j∧j < 2 ^ 64)
theorem CMul.ok {i j:Int} (h:CMul i j):IntMulOk i j:=by
  rcases h with ⟨h1,h2⟩ | ⟨h1,h2⟩
  · exact .of_left (intBits_le_64 h1 h2)
  · exact .of_right (intBits_le_64 h1 h2)
theorem two_pow_nn (k:Nat):(0:Int)≤2 ^ k:=by
  rw [two_pow_cast]
  exact Int.natCast_nonneg _
theorem op_add:OpR X (binaryOp .Add) (rI0 fun i j=>.int (i + j)):=opI0 fun _ _ _ _ _ _ _ q=>add_int q
theorem op_sub:OpR X (binaryOp .Sub) (rI0 fun i j=>.int (i - j)):=opI0 fun _ _ _ _ _ _ _ q=>sub_int q
theorem op_mul:OpR X (binaryOp .Mult) (rI CMul fun i j=>.int (i * j)):=opI fun _ _ _ _ _ _ _ hc q=>mul_int q hc.ok
theorem op_fdiv:OpR X (binaryOp .FloorDiv) (rI CDiv fun i j=>.int (i / j)):=opI fun i j _ _ _ _ _ hc q=>by
  have h1:(0:Int) < j:=hc.1
  have h2:j < 1073741824:=hc.2
  exact floordiv_int (by omega) (by rw [Int.fdiv_eq_ediv_of_nonneg i (by omega)]; exact q) (.inl (PyProof.noPylong_small (by omega)))
theorem op_mod:OpR X (binaryOp .Mod) (rI (fun _ j=>0 < j) fun i j=>.int (i % j)):=opI fun i j _ _ _ _ _ hc q=>by
  have h1:(0:Int) < j:=hc
  exact mod_int' (by omega) (by rw [Int.fmod_eq_emod_of_nonneg i (by omega)]; exact q)
theorem op_pow:OpR X (binaryOp .Pow) (rI CPow fun i j=>.int (i ^ j.toNat)):=opI fun _ _ _ _ _ _ _ hc q=>pow_int_small hc.1 hc.2.1 hc.2.2 q
theorem op_shr:OpR X (binaryOp .RShift) (rI (fun _ j=>0≤j) fun i j=>.int (i / 2 ^ j.toNat)):=opI fun i j _ _ _ _ _ hc q =>
  rshift_int hc (by rw [Int.fdiv_eq_ediv_of_nonneg i (two_pow_nn _)]; exact q)
theorem op_and:OpR X (binaryOp .BitAnd) (rI0 fun i j=>.int (Builtin.bitAnd i j)):=opI0 fun _ _ _ _ _ _ _ q=>and_int q
theorem op_or:OpR X (binaryOp .BitOr) (rI0 fun i j=>.int (Builtin.bitOr i j)):=opI0 fun _ _ _ _ _ _ _ q=>or_int q
theorem op_xor:OpR X (binaryOp .BitXor) (rI0 fun i j=>.int (Builtin.bitXor i j)):=opI0 fun _ _ _ _ _ _ _ q=>xor_int q
theorem iop_add:OpR X (inplaceOp .Add) (rI0 fun i j=>.int (i + j)):=opI0 fun _ _ _ _ _ _ _ q=>iadd_int q
theorem unI {f:Value→Sem Value} {g:Int→Int}
    (rule:∀ (i:Int) (t:Tok) (s:Shared) (Q:Value→Shared→Prop) (E:Value→Shared→Prop),Q (.int (g i) s.toks) { s with toks:=s.toks + 1 }→wpAny (model X.prog X.w) X.A (f (.int i t)) Q E s) :
    UnR X f (rU fun i=>.int (g i)):=by
  intro pins s σ H x v Q I rx h
  obtain ⟨i,rfl,q⟩:=h
  obtain ⟨t,rfl⟩:=rx
  exact rule i t s _ _ ⟨.int (g i),H,I.tok _,⟨_,rfl⟩,q⟩
theorem un_neg:UnR X (unaryOp .USub) (rU fun i=>.int (-i)):=unI fun _ _ _ _ _ q=>neg_int q
end
def scal:V→V→Bool
  | .non,.non=>true | .non,.int _=>true | .int _,.non=>true | .non,.bl _=>true | .bl _,.non=>true | .non,.str _=>true | .str _,.non=>true
  | .int _,.int _=>true | .bl _,.bl _=>true | .str _,.str _=>true | .byt _,.byt _=>true
  | .int _,.str _=>true | .str _,.int _=>true | .bl _,.str _=>true | .str _,.bl _=>true
  | _,_=>false
def rEq:R2:=fun x y H Q=>scal x y = true∧Q (.bl (decide (x = y))) H
def rNe:R2:=fun x y H Q=>scal x y = true∧Q (.bl (!decide (x = y))) H
theorem dec_int {i j:Int}:decide (V.int i = V.int j) = (i == j):=by
  rw [Bool.eq_iff_iff]
  simp
theorem dec_bl {i j:Bool}:decide (V.bl i = V.bl j) = (i == j):=by
  rw [Bool.eq_iff_iff]
  simp
theorem dec_str {i j:Str}:decide (V.str i = V.str j) = (i == j):=by
  rw [Bool.eq_iff_iff]
  simp
theorem dec_byt {i j:Array UInt8}:decide (V.byt i = V.byt j) = (i.toList == j.toList):=by
  rw [Bool.eq_iff_iff]
  cases i
  cases j
  simp
section
variable {X:Cx} {a b c:Expr} {ta tb tc:TE} {pos:Pos}
theorem fin_bl {pins:List (Addr × Obj)} {σ:St} {H:Hp} {s:Shared} {Q:VK} {k k':Bool} (I:Inv X pins σ H s) (q:Q (.bl k) H) (e:k = k'):EP X pins σ Q (.bool k') s:=by
  subst e
  exact ⟨.bl k,H,I,rfl,q⟩
theorem op_eq:OpR X (compareOp .Eq) rEq:=by
  intro pins s σ H x y v u Q I rx ry h
  obtain ⟨hs,q⟩:=h
  cases x with
  | non =>
    cases rx
    cases y with
    | non=>cases ry; exact PySem.EqNone.eq_none_none (fin_bl I q (by simp))
    | bl j=>cases ry; exact PySem.EqNone.eq_none_bool (fin_bl I q (by simp))
    | int j=>obtain ⟨t',rfl⟩:=ry; exact PySem.EqNone.eq_none_int (fin_bl I q (by simp))
    | str j=>obtain ⟨t',rfl⟩:=ry; exact PySem.EqNone.eq_none_str (fin_bl I q (by simp))
    | _=>exact absurd (show false = true from hs) Bool.false_ne_true
  | bl i =>
    cases rx
    cases y with
    | non=>cases ry; exact PySem.EqNone.eq_bool_none (fin_bl I q (by simp))
    | bl j=>cases ry; exact eq_bool (fin_bl I q dec_bl)
    | str j=>obtain ⟨t',rfl⟩:=ry; exact PySem.EqMixed.eq_bool_str (fin_bl I q (by simp))
    | _=>exact absurd (show false = true from hs) Bool.false_ne_true
  | int i =>
    obtain ⟨t,rfl⟩:=rx
    cases y with
    | non=>cases ry; exact PySem.EqNone.eq_int_none (fin_bl I q (by simp))
    | int j=>obtain ⟨t',rfl⟩:=ry; exact eq_int (fin_bl I q dec_int)
    | str j=>obtain ⟨t',rfl⟩:=ry; exact PySem.EqMixed.eq_int_str (fin_bl I q (by simp))
    | _=>exact absurd (show false = true from hs) Bool.false_ne_true
  | str i =>
    obtain ⟨t,rfl⟩:=rx
    cases y with
    | non=>cases ry; exact PySem.EqNone.eq_str_none (fin_bl I q (by simp))
    | bl j=>cases ry; exact PySem.EqMixed.eq_str_bool (fin_bl I q (by simp))
    | int j=>obtain ⟨t',rfl⟩:=ry; exact PySem.EqMixed.eq_str_int (fin_bl I q (by simp))
    | str j=>obtain ⟨t',rfl⟩:=ry; exact eq_str (fin_bl I q dec_str)
    | _=>exact absurd (show false = true from hs) Bool.false_ne_true
  | byt i =>
    obtain ⟨t,rfl⟩:=rx
    cases y with
    | byt j=>obtain ⟨t',rfl⟩:=ry; exact PySem.W.eq_bytes (fin_bl I q dec_byt)
    | _=>exact absurd (show false = true from hs) Bool.false_ne_true
  | _=>cases y <;> exact absurd (show false = true from hs) Bool.false_ne_true
theorem op_ne:OpR X (compareOp .NotEq) rNe:=by
  intro pins s σ H x y v u Q I rx ry h
  obtain ⟨hs,q⟩:=h
  cases x with
  | non =>
    cases rx
    cases y with
    | non=>cases ry; exact PySem.EqNone.ne_none_none (fin_bl I q (by simp))
    | bl j=>cases ry; exact PySem.EqNone.ne_none_bool (fin_bl I q (by simp))
    | int j=>obtain ⟨t',rfl⟩:=ry; exact PySem.EqNone.ne_none_int (fin_bl I q (by simp))
    | str j=>obtain ⟨t',rfl⟩:=ry; exact PySem.EqNone.ne_none_str (fin_bl I q (by simp))
    | _=>exact absurd (show false = true from hs) Bool.false_ne_true
  | bl i =>
    cases rx
    cases y with
    | non=>cases ry; exact PySem.EqNone.ne_bool_none (fin_bl I q (by simp))
    | bl j=>cases ry; exact ne_bool (fin_bl I q (congrArg not dec_bl))
    | str j=>obtain ⟨t',rfl⟩:=ry; exact PySem.EqMixed.ne_bool_str (fin_bl I q (by simp))
    | _=>exact absurd (show false = true from hs) Bool.false_ne_true
  | int i =>
    obtain ⟨t,rfl⟩:=rx
    cases y with
    | non=>cases ry; exact PySem.EqNone.ne_int_none (fin_bl I q (by simp))
    | int j=>obtain ⟨t',rfl⟩:=ry; exact ne_int (fin_bl I q (congrArg not dec_int))
    | str j=>obtain ⟨t',rfl⟩:=ry; exact PySem.EqMixed.ne_int_str (fin_bl I q (by simp))
    | _=>exact absurd (show false = true from hs) Bool.false_ne_true
  | str i =>
    obtain ⟨t,rfl⟩:=rx
    cases y with
    | non=>cases ry; exact PySem.EqNone.ne_str_none (fin_bl I q (by simp))
    | bl j=>cases ry; exact PySem.EqMixed.ne_str_bool (fin_bl I q (by simp))
    | int j=>obtain ⟨t',rfl⟩:=ry; exact PySem.EqMixed.ne_str_int (fin_bl I q (by simp))
    | str j=>obtain ⟨t',rfl⟩:=ry; exact ne_str (fin_bl I q (congrArg not dec_str))
    | _=>exact absurd (show false = true from hs) Bool.false_ne_true
  | byt i =>
    obtain ⟨t,rfl⟩:=rx
    cases y with
    | byt j=>obtain ⟨t',rfl⟩:=ry; exact PySem.W.ne_bytes (fin_bl I q (congrArg not dec_byt))
    | _=>exact absurd (show false = true from hs) Bool.false_ne_true
  | _=>cases y <;> exact absurd (show false = true from hs) Bool.false_ne_true
theorem op_lt:OpR X (compareOp .Lt) (rI0 fun i j=>.bl (decide (i < j))):=opB0 fun _ _ _ _ _ _ _ q=>lt_int q
theorem op_le:OpR X (compareOp .LtE) (rI0 fun i j=>.bl (decide (i≤j))):=opB0 fun _ _ _ _ _ _ _ q=>le_int q
theorem op_gt:OpR X (compareOp .Gt) (rI0 fun i j=>.bl (decide (j < i))):=opB0 fun _ _ _ _ _ _ _ q=>gt_int q
theorem op_ge:OpR X (compareOp .GtE) (rI0 fun i j=>.bl (decide (j≤i))):=opB0 fun _ _ _ _ _ _ _ q=>ge_int q
theorem op_isN:OpR X (compareOp .Is) (fun x y H Q=>y = .non∧Q (.bl (decide (x = .non))) H):=by
  intro pins s σ H x y v u Q I rx ry h
  obtain ⟨rfl,q⟩:=h
  cases ry
  refine is_none_gen (fin_bl I q ?_)
  cases x <;> first
    | (cases rx; rfl)
    | (obtain ⟨t,rfl⟩:=rx; rfl)
theorem nomark (b:Expr) {op:CmpOp} (h:op≠.In:=by decide) (h2:op≠.NotIn:=by decide):behindInMarks op b = false:=by
  have e1:(op == CmpOp.In) = false:=by cases op <;> first | rfl | exact absurd rfl h
  have e2:(op == CmpOp.NotIn) = false:=by cases op <;> first | rfl | exact absurd rfl h2
  cases b <;> simp [behindInMarks,e1,e2]
theorem pe_cmpR {op:CmpOp} {r:R2} (ho:OpR X (compareOp op) r) (ha:PE X a ta) (hb:PE X b tb) (hm:behindInMarks op b = false):PE X (.Compare a [op] [b] pos) (tOp r ta tb):=by
  intro pins s σ H Q I h
  exact wpAny_Compare1 (binT ha hb I h fun v u s2 x y H2 I2 rx ry q=>ho pins s2 σ H2 x y v u Q I2 rx ry q) hm
def tTest (t:TE):TT:=fun σ H Q=>t σ H fun x H'=>∃ k,x = .bl k∧Q k H'
theorem pt_cmpR {op:CmpOp} {r:R2} (ho:OpR X (compareOp op) r) (ha:PE X a ta) (hb:PE X b tb) (hm:behindInMarks op b = false):PT X (.Compare a [op] [b] pos) (tTest (tOp r ta tb)):=by
  intro pins s σ H Q I h
  refine wpAny_isTrue_Compare1 (thn (ha pins s σ H _ I h) fun v s1 ⟨x,H1,I1,r1,q1⟩=>thn (hb pins s1 σ H1 _ I1 q1) fun u s2 ⟨y,H2,I2,r2,q2⟩ =>
    thn (ho pins s2 σ H2 x y v u _ I2 r1 r2 q2) fun c s3 ⟨z,H3,I3,r3,k,e,q3⟩=>?_) hm
  subst e
  cases r3
  exact wpAny_truthy_bool ⟨H3,I3,q3⟩
def tChain (r r':R2) (ta tb tc:TE):TE:=fun σ H Q=>ta σ H fun x H1=>tb σ H1 fun y H2=>r x y H2 fun z H3=>∃ k,z = .bl k ∧
  (if k = true then tc σ H3 fun w' H4=>r' y w' H4 Q else Q (.bl false) H3)
theorem pe_chain {op op':CmpOp} {r r':R2} (ho:OpR X (compareOp op) r) (ho':OpR X (compareOp op') r') (ha:PE X a ta) (hb:PE X b tb) (hc:PE X c tc)
    (hm:lastMarks [op,op'] [b,c] = false:=by with_unfolding_all rfl):PE X (.Compare a [op,op'] [b,c] pos) (tChain r r' ta tb tc):=by
  intro pins s σ H Q I h
  refine Compare_chain (thn (ha pins s σ H _ I h) fun v s1 ⟨x,H1,I1,r1,q1⟩=>chain_link (thn (hb pins s1 σ H1 _ I1 q1) fun u s2 ⟨y,H2,I2,r2,q2⟩ =>
    thn (ho pins s2 σ H2 x y v u _ I2 r1 r2 q2) fun d s3 ⟨z,H3,I3,r3,k,e,q3⟩=>?_)) hm
  subst e
  cases r3
  refine wpAny_truthy_bool ?_
  cases k with
  | false=>exact ite_ff ⟨.bl false,H3,I3,rfl,q3⟩
  | true=>exact ite_tt (chain_last (thn (hc pins s3 σ H3 _ I3 q3) fun w' s4 ⟨z',H4,I4,r4,q4⟩=>ho' pins s4 σ H4 y z' u w' Q I4 r2 r4 q4))
def TruV (K:PySem.W.Frag) (x:V) (H:Hp) (k:Bool):Prop :=
  match x with
  | .non=>k = false
  | .bl b=>k = b
  | .int i=>k = (i != 0)
  | .str y=>y.length≤sizeLine∧k = ((y.length:Int) != 0)
  | .byt y=>y.size≤sizeLine∧k = ((y.size:Int) != 0)
  | .ref p=>(∃ xs,SqL K H p xs∧k = !xs.isEmpty)∨(∃ xs,SqT K H p xs∧k = !xs.isEmpty)∨∃ kvs,H p = some (.dK kvs)∧k = !kvs.isEmpty
  | _=>False
theorem isEmpty_kv {κ:Type} {kvs:List (κ × V)} {vs:List (κ × Value)} (r:KV kvs vs):(!vs.isEmpty) = !kvs.isEmpty:=by
  cases r <;> rfl
theorem isEmpty_of {xs:List V} {its:List Value} (r:Vals xs its):(!its.toArray.isEmpty) = !xs.isEmpty:=by
  cases r <;> simp
theorem line63:(sizeLine:Nat) < 2 ^ 63:=by rw [sizeLine_eq]; decide
theorem tru_ok:TruR X (fun x H Q=>∃ k,TruV X.K x H k∧Q k H):=by
  intro pins s σ H x v Q I rx h
  obtain ⟨k,e,q⟩:=h
  have hl:=line63
  have hs:sizeLine = 16777216:=sizeLine_eq
  cases x with
  | non =>
    cases rx
    have e':k = false:=e
    subst e'
    exact truthy_none ⟨H,I,q⟩
  | bl b =>
    cases rx
    have e':k = b:=e
    subst e'
    exact wpAny_truthy_bool ⟨H,I,q⟩
  | int i =>
    obtain ⟨t,rfl⟩:=rx
    have e':k = (i != 0):=e
    subst e'
    exact PySem.P.truthy_int ⟨H,I,q⟩
  | str y =>
    obtain ⟨t,rfl⟩:=rx
    obtain ⟨hy,e'⟩:y.length≤sizeLine∧k = ((y.length:Int) != 0):=e
    subst e'
    exact PySem.P.truthy_str (by omega) ⟨H,I.tok _,q⟩
  | byt y =>
    obtain ⟨t,rfl⟩:=rx
    obtain ⟨hy,e'⟩:y.size≤sizeLine∧k = ((y.size:Int) != 0):=e
    subst e'
    exact PySem.W.truthy_bytes (by omega) ⟨H,I.tok _,q⟩
  | ref p =>
    cases rx
    have e':(∃ xs,SqL X.K H p xs∧k = !xs.isEmpty)∨(∃ xs,SqT X.K H p xs∧k = !xs.isEmpty)∨∃ kvs,H p = some (.dK kvs)∧k = !kvs.isEmpty:=e
    rcases e' with ⟨xs,hx,e'⟩ | ⟨xs,hx,e'⟩ | ⟨kvs,hx,e'⟩
    · subst e'
      obtain ⟨its,r,pl,hz⟩:=I.list hx
      have hlen:=r.length
      exact wpAny_truthy_list pl.isList (by simp only [List.size_toArray]; omega) ⟨H,I.tok _,by rw [isEmpty_of r]; exact q⟩
    · subst e'
      obtain ⟨its,r,pl,hz⟩:=I.tuple hx
      have hlen:=r.length
      exact truthy_tuple pl (by simp only [List.size_toArray]; omega) ⟨H,I.tok _,by rw [isEmpty_of r]; exact q⟩
    · subst e'
      obtain ⟨hz,hS,vs,r,m⟩:kvs.length≤sizeLine∧(p == sysModules) = false∧∃ vs,KV kvs vs∧s.heap.DictOf (mixKind X.prog X.w) p vs:=I.hok p _ hx
      have hlen:kvs.length = vs.length:=Paired.length r
      exact wpAny_truthy_dict hS m (by omega) ⟨H,I.tok _,by rw [isEmpty_kv r]; exact q⟩
  | _=>exact (show False from e).elim
theorem pt_truth (ha:PE X a ta) (he:∀ whole,isTrue a X.env whole = (do let v ← whole; standAt a.pos; holding [v] (truthy v))) :
    PT X a (fun σ H Q=>ta σ H fun x H'=>∃ k,TruV X.K x H' k∧Q k H'):=by
  intro pins s σ H Q I h
  exact isTrue_plain (thn (ha pins s σ H _ I h) fun v s1 ⟨x,H1,I1,r1,q1⟩=>tru_ok pins s1 σ H1 x v Q I1 r1 q1) (he _)
theorem vals1 {x:V} {us:List Value} (r:Vals [x] us):∃ u,us = [u]∧RelV x u:=by
  cases r with
  | cons r1 r2=>cases r2; exact ⟨_,rfl,r1⟩
theorem vals2 {x y:V} {us:List Value} (r:Vals [x,y] us):∃ u w',us = [u,w']∧RelV x u∧RelV y w':=by
  cases r with
  | cons r1 r2 =>
    cases r2 with
    | cons r3 r4=>cases r4; exact ⟨_,_,rfl,r1,r3⟩
theorem call_int1:CallR X (.type "int") (fun xs H Q=>(∃ i,xs = [.int i]∧Q (.int i) H)∨∃ k,xs = [.bl k]∧Q (.int (if k then 1 else 0)) H):=by
  intro pins s σ H xs us Q I r h
  rcases h with ⟨i,rfl,q⟩ | ⟨k,rfl,q⟩
  · obtain ⟨u,rfl,t,rfl⟩:=vals1 r
    exact call_int_int ⟨.int i,H,I,⟨_,rfl⟩,q⟩
  · obtain ⟨u,rfl,r1⟩:=vals1 r
    cases r1
    exact call_int_bool ⟨.int (if k then 1 else 0),H,I.tok _,⟨_,rfl⟩,q⟩
end
end L2
namespace L2
open PySem PySem.Spec PyProof.Rows
structure ObjM (h:Heap) (x dx C:Addr) (mA:Str→Option Value):Prop where
  obj:h.get? x = some (PySem.W.instObj C dx)
  ns:h.Ns1 dx mA
  ne:dx≠x
theorem lookIn_ns {h:Heap} {dx:Addr} {mA:Str→Option Value} (n:h.Ns1 dx mA):∃ od,h.get? dx = some od∧∀ name,PySem.W.lookIn name od = some (mA name):=by
  obtain ⟨o,es,ep,ho,hd,hk,_,hm⟩:=n
  refine ⟨o,ho,fun name=>?_⟩
  have e:=hm name
  unfold nsFind findBy at e
  rw [← Array.find?_toList] at e
  unfold PySem.W.lookIn
  rw [hd]
  dsimp only
  split
  · rename_i y q
    rw [q] at e
    exact congrArg some e
  · rename_i q
    rw [q] at e
    have a:es.toList.any (·.refKey) = false:=by
      rw [List.any_eq_false]
      intro y hy
      obtain ⟨z,t,hkey⟩:=hk y (Array.mem_toList_iff.mp hy)
      simp [DictEntry.refKey,hkey]
    have a':¬ es.toList.any (·.refKey) = true:=by rw [a]; exact Bool.false_ne_true
    rw [if_neg a']
    exact congrArg some e
theorem ObjM.look {h:Heap} {x dx C:Addr} {mA:Str→Option Value} (I:ObjM h x dx C mA):∃ od,PySem.W.InstAt h x (PySem.W.instObj C dx) C (some od)∧∀ name,PySem.W.lookIn name od = some (mA name) :=
  let ⟨od,ho,hl⟩:=lookIn_ns I.ns
  ⟨od,⟨I.obj,rfl,rfl,ho⟩,hl⟩
section
variable {prog:Program} {w:World} {A:Around} {E:Value→Shared→Prop} {s:Shared} {K:PySem.W.Frag} {x dx C f:Addr} {mA:Str→Option Value} {name:Str} {v:Value}
theorem get_map {expr:Bool} {Q:Value→Shared→Prop} (X:K.In s.heap) (I:ObjM s.heap x dx C mA) (hg:PySem.W.plainGet K C name = true) (hh:PySem.W.hasDictIn K C = true)
    (ha:PySem.W.findIn K (.ref C) name = some none) (hv:mA name = some v) (hv':PySem.W.handedIn v = true) (h:Q v { s with toks:=s.toks + 1 }) :
    wpAny (model prog w) A (getAttr (.ref x) name expr) Q E s:=by
  obtain ⟨od,J,hl⟩:=I.look
  exact PySem.W.get_value X J (PySem.W.plainGet_of hg).1 (PySem.W.findObj_own hh ha rfl (by rw [hl,hv])) hv' h
theorem get_meth {pl:Sem Bool} {Q:Value × List Value→Shared→Prop} (X:K.In s.heap) (I:ObjM s.heap x dx C mA) (hg:PySem.W.plainGet K C name = true)
    (hf:PySem.W.findIn K (.ref C) name = some (some (.ref f))) (ht:PySem.W.isFn K (.ref f) = true) (hv:mA name = none) (h:Q (.ref f,[.ref x]) s) :
    wpAny (model prog w) A (getMethod (.ref x) name pl) Q E s:=by
  obtain ⟨od,J,hl⟩:=I.look
  exact PySem.W.method_fn X J (PySem.W.plainGet_of hg).1 (PySem.W.plainGet_of hg).2 hf (beq_iff_eq.mp ht) (by show (PySem.W.lookIn name od).map (·.isSome) = some false; rw [hl,hv]; rfl) h
theorem set_map {ns:List Str} {Q:Unit→Shared→Prop} (X:K.In s.heap) (I:ObjM s.heap x dx C mA)
    (hs:PySem.W.findIn K (.ref C) "__setattr__" = some (some (.builtin "object.__setattr__"))) (hp:PySem.W.plainOver K C = true) (ht:PySem.W.takerIn K C name = some none) (hh:PySem.W.hasDictIn K C = true)
    (hw:PySem.Within mA ns) (hsz:ns.length≤sizeLine)
    (h:∀ h',ObjM h' x dx C (fun y=>if y = name then some v else mA y)→Heap.SameBut dx s.heap h'→Q () { s with heap:=h',toks:=s.toks + 2 }) :
    wpAny (model prog w) A (setAttr (.ref x) name v) Q E s:=by
  obtain ⟨od,J,hl⟩:=I.look
  refine PySem.W.set_plain X J hs (PySem.W.osa_open (s:={ s with toks:=s.toks + 1 }) (r:=none) X J hp ht fun b=>?_)
  obtain ⟨cd,hc,hd'⟩:=PySem.W.any_some hh
  have hx:s.heap.get? x = some ⟨.ref C,some dx,.plain,#[]⟩:=I.obj
  refine wpAny_bind (wpAny_pure (wpAny_bind (wpAny_bind (wpAny_loadPart hx (wpAny_bind (PySem.W.Looks.here (s:={ s with toks:=s.toks + 1 }) (PySem.W.looks_clsIn X hc) ?_))))))
  rw [hd']
  refine wpAny_pure (a:=some dx) (wpAny_bind (wpAny_pure (wpAny_bind ?_)))
  refine wpAny_nsSet1 (s:={ s with toks:=s.toks + 1 }) I.ns fun h' hn2 hs2=>?_
  obtain ⟨oD,esD,epD,hoD,hdD,hcD⟩:=hn2.count (PySem.Within.cons name v hw)
  refine wpAny_bind (wpAny_lookBehind hoD (by rw [hdD]; exact pastItsLine_dict (Nat.le_trans hcD (by rw [List.length_cons]; omega))) ?_)
  exact wpAny_pure (h _ ⟨(hs2.2 _ (Ne.symm I.ne)).trans I.obj,hn2,I.ne⟩ hs2)
theorem make_map {R:Result→Shared→Prop} {vs:List Value} {kw:List (Str × Value)} (X:K.In s.heap) (hm:PySem.W.makesIn K C = true)
    (hi:PySem.W.findIn K (.ref C) "__init__" = some (some (.ref f))) (hf:PySem.W.typeIn K (.ref f) = some (.type "function"))
    (h:codeAny (model prog w) (A.under (.builtin "type.__call__" ⟨.ref C :: vs,kw⟩)) (.call (.ref f) ⟨.ref (s.heap.objs.size + 1) :: vs,kw⟩) (PySem.W.InitBack (s.heap.objs.size + 1) R)
      { s with heap:=(s.heap.push PySem.W.emptyDict).push (PySem.W.instObj C s.heap.objs.size) }) :
    codeAny (model prog w) A (.call (.ref C) ⟨vs,kw⟩) R s:=by
  obtain ⟨hh,g,d,t,os⟩:=s
  exact PySem.W.make_core (PySem.W.makes_of X hm) (PySem.W.looks_findIn X hi) (fun self=>PySem.W.bind_fn X self hf) (.inl rfl) h
end
def putF (f:Str) (v:V):List (Str × V)→List (Str × V)
  | []=>[(f,v)]
  | (g,x) :: r=>if g = f then (g,v) :: r else (g,x) :: putF f v r
theorem lookup_putF (f g:Str) (v:V):∀ fs:List (Str × V),(putF f v fs).lookup g = if g = f then some v else fs.lookup g
  | []=>by
    show List.lookup g [(f,v)] = _
    by_cases h:g = f
    · have hb:(g == f) = true:=beq_iff_eq.mpr h
      simp only [List.lookup,hb,if_pos h]
    · have hb:(g == f) = false:=beq_eq_false_iff_ne.mpr h
      simp only [List.lookup,hb,if_neg h]
  | (k,x) :: r=>by
    have ih:=lookup_putF f g v r
    rw [show putF f v ((k,x) :: r) = (if k = f then (k,v) :: r else (k,x) :: putF f v r) from rfl]
    by_cases hk:k = f
    · rw [if_pos hk]
      by_cases h:g = k
      · have hb:(g == k) = true:=beq_iff_eq.mpr h
        simp only [List.lookup,hb,if_pos (h.trans hk)]
      · have hb:(g == k) = false:=beq_eq_false_iff_ne.mpr h
        simp only [List.lookup,hb,if_neg (fun e:g = f=>h (e.trans hk.symm))]
    · rw [if_neg hk]
      by_cases h:g = k
      · have hb:(g == k) = true:=beq_iff_eq.mpr h
        simp only [List.lookup,hb,if_neg (fun e:g = f=>hk (h.symm.trans e))]
      · have hb:(g == k) = false:=beq_eq_false_iff_ne.mpr h
        simp only [List.lookup,hb]
        exact ih
theorem keys_putF (f:Str) (v:V):∀ fs:List (Str × V),f∈(putF f v fs).map (·.1)∧∀ g,g∈fs.map (·.1)→g∈(putF f v fs).map (·.1)
  | []=>⟨by simp [putF],fun g h=>by simp at h⟩
  | (k,x) :: r=>by
    obtain ⟨i1,i2⟩:=keys_putF f v r
    rw [show putF f v ((k,x) :: r) = (if k = f then (k,v) :: r else (k,x) :: putF f v r) from rfl]
    by_cases hk:k = f
    · rw [if_pos hk]
      subst hk
      exact ⟨by simp,fun g h=>by simpa using h⟩
    · rw [if_neg hk]
      refine ⟨?_,fun g h=>?_⟩
      · rw [List.map_cons]
        exact List.mem_cons_of_mem _ i1
      · rw [List.map_cons] at h ⊢
        rcases List.mem_cons.mp h with e | e
        · exact List.mem_cons.mpr (.inl e)
        · exact List.mem_cons_of_mem _ (i2 g e)
theorem length_putF (f:Str) (v:V):∀ fs:List (Str × V),(putF f v fs).length≤fs.length + 1
  | []=>by simp [putF]
  | (k,x) :: r=>by
    have ih:=length_putF f v r
    rw [show putF f v ((k,x) :: r) = (if k = f then (k,v) :: r else (k,x) :: putF f v r) from rfl]
    by_cases hk:k = f
    · rw [if_pos hk,List.length_cons,List.length_cons]; omega
    · rw [if_neg hk,List.length_cons,List.length_cons]; omega
theorem RelO.some_of {v:V} {o:Option Value} (r:RelO (some v) o):∃ u,o = some u∧RelV v u:=by
  cases o with
  | none=>exact (show False from r).elim
  | some u=>exact ⟨u,rfl,r⟩
theorem RelO.none_of {o:Option Value} (r:RelO none o):o = none:=by
  cases o with
  | none=>rfl
  | some u=>exact (show False from r).elim
theorem handed_of {v:V} {u:Value} (r:RelV v u):PySem.W.handedIn u = true:=by
  cases v with
  | non=>cases (show u = Value.none from r); rfl
  | bl b=>cases (show u = Value.bool b from r); rfl
  | int i=>obtain ⟨t,e⟩:=(show ∃ t,u = Value.int i t from r); cases e; rfl
  | str x=>obtain ⟨t,e⟩:=(show ∃ t,u = Value.str x t from r); cases e; rfl
  | byt b=>obtain ⟨t,e⟩:=(show ∃ t,u = Value.bytes b t from r); cases e; rfl
  | flt b=>obtain ⟨t,e⟩:=(show ∃ t,u = Value.float b t from r); cases e; rfl
  | ref a=>cases (show u = Value.ref a from r); rfl
  | ty n=>cases (show u = Value.type n from r); rfl
section
variable {P:Program} {w:World} {H H':Hp} {h h':Heap} {a C dx:Addr} {fs fs':List (Str × V)}
theorem ins_get (hok:HOk P w H h) (e:H a = some (.ins C dx fs)):∃ mA,ObjM h a dx C mA∧(∀ f,RelO (fs.lookup f) (mA f))∧PySem.Within mA (fs.map (·.1))∧fs.length≤1000∧H dx = some (.own a):=by
  obtain ⟨d,z,ne,ob,mA,n,r,q⟩:=(show ObjOk P w H h a (.ins C dx fs) from hok a _ e)
  exact ⟨mA,⟨ob,n,ne⟩,r,q,z,d⟩
end
structure Cls (K:PySem.W.Frag) (C:Addr):Prop where
  pg:PySem.W.plainGet K C Str.empty = true
  hd:PySem.W.hasDictIn K C = true
  po:PySem.W.plainOver K C = true
  sa:PySem.W.findIn K (.ref C) "__setattr__" = some (some (.builtin "object.__setattr__"))
theorem Cls.get {K:PySem.W.Frag} {C:Addr} (c:Cls K C) (f:Str):PySem.W.plainGet K C f = true:=c.pg
def NoAttr (K:PySem.W.Frag) (C:Addr) (f:Str):Prop:=PySem.W.findIn K (.ref C) f = some none
theorem NoAttr.taker {K:PySem.W.Frag} {C:Addr} {f:Str} (n:NoAttr K C f):PySem.W.takerIn K C f = some none:=by
  unfold PySem.W.takerIn
  rw [show PySem.W.findIn K (.ref C) f = some none from n]
  rfl
structure Meth (K:PySem.W.Frag) (C:Addr) (m:Str) (f:Addr):Prop where
  at_:PySem.W.findIn K (.ref C) m = some (some (.ref f))
  fn:PySem.W.isFn K (.ref f) = true
  kp:PySem.W.keepIn K (.ref f) = true
section
variable {X:Cx} {pins:List (Addr × Obj)} {σ:St} {H:Hp} {s:Shared} {a C dx:Addr} {fs:List (Str × V)} {f:Str} {v:V} {A:Around} {E:Value→Shared→Prop}
theorem getattr_ok {b:Bool} {Q:Value→Shared→Prop} (I:Inv X pins σ H s) (e:H a = some (.ins C dx fs)) (c:Cls X.K C) (n:NoAttr X.K C f) (l:fs.lookup f = some v)
    (h:∀ u s',Inv X pins σ H s'→RelV v u→Q u s'):wpAny (model X.prog X.w) A (getAttr (.ref a) f b) Q E s:=by
  obtain ⟨mA,O,r,_,_,_⟩:=ins_get I.hok e
  obtain ⟨u,hu,ru⟩:=RelO.some_of (v:=v) (o:=mA f) (by rw [← l]; exact r f)
  exact get_map I.kIn O (c.get f) c.hd n hu (handed_of ru) (h u _ (I.tok _) ru)
theorem getmeth_ok {m:Str} {g:Addr} {pl:Sem Bool} {Q:Value × List Value→Shared→Prop} (I:Inv X pins σ H s) (e:H a = some (.ins C dx fs)) (c:Cls X.K C) (k:Meth X.K C m g) (l:fs.lookup m = none)
    (h:Q (.ref g,[.ref a]) s):wpAny (model X.prog X.w) A (getMethod (.ref a) m pl) Q E s:=by
  obtain ⟨mA,O,r,_,_,_⟩:=ins_get I.hok e
  have hn:mA m = none:=RelO.none_of (by rw [← l]; exact r m)
  exact get_meth I.kIn O (c.get m) k.at_ k.fn hn h
theorem setattr_ok {y:V} {u:Value} {Q:Unit→Shared→Prop} (I:Inv X pins σ H s) (e:H a = some (.ins C dx fs)) (c:Cls X.K C) (n:NoAttr X.K C f) (hl:fs.length < 1000) (ry:RelV y u)
    (h:∀ s',Inv X pins σ (upd H a (.ins C dx (putF f y fs))) s'→Q () s'):wpAny (model X.prog X.w) A (setAttr (.ref a) f u) Q E s:=by
  obtain ⟨mA,O,r,wi,_,ho⟩:=ins_get I.hok e
  have hz:(fs.map (·.1)).length≤sizeLine:=by rw [List.length_map,sizeLine_eq]; omega
  refine set_map I.kIn O c.sa c.po n.taker c.hd wi hz fun h' O' sb=>h _ ?_
  have hd:∃ o,h'.get? dx = some o:=let ⟨o,_,_,e',_⟩:=O'.ns; ⟨o,e'⟩
  refine I.write (x:=a) (e:=dx) (by rw [e]; exact True.intro) (.inr ho) (fun b q hb z=>(sb.2 b hb).trans z) hd ?_
  refine ⟨by rw [upd_ne O.ne]; exact ho,?_,O.ne,O'.obj,_,O'.ns,fun g=>?_,fun g hg=>?_⟩
  · have:=length_putF f y fs; omega
  · show RelO ((putF f y fs).lookup g) (if g = f then some u else mA g)
    rw [lookup_putF]
    by_cases q:g = f
    · rw [if_pos q,if_pos q]; exact ry
    · rw [if_neg q,if_neg q]; exact r g
  · by_cases q:g = f
    · rw [q]; exact (keys_putF f y fs).1
    · refine (keys_putF f y fs).2 g (wi g fun z=>hg ?_)
      show (if g = f then some u else mA g) = none
      rw [if_neg q]; exact z
theorem Inv.made (I:Inv X pins σ H s):Inv X pins σ (upd (upd H s.heap.objs.size (.own (s.heap.objs.size + 1))) (s.heap.objs.size + 1) (.ins C s.heap.objs.size []))
    { s with heap:=(s.heap.push PySem.W.emptyDict).push (PySem.W.instObj C s.heap.objs.size) }:=by
  have e1:(s.heap.push PySem.W.emptyDict).get? s.heap.objs.size = some PySem.W.emptyDict:=Heap.get?_push_size s.heap rfl
  have e2:((s.heap.push PySem.W.emptyDict).push (PySem.W.instObj C s.heap.objs.size)).get? (s.heap.objs.size + 1) = some (PySem.W.instObj C s.heap.objs.size):=by
    have:=Heap.get?_push_size (s.heap.push PySem.W.emptyDict) (o:=PySem.W.instObj C s.heap.objs.size) rfl
    rwa [Heap.size_push] at this
  have e3:(s.heap.push PySem.W.emptyDict).Ns s.heap.objs.size (fun _=>none):=⟨PySem.W.emptyDict,#[],_,e1,rfl,(fun e he=>absurd he (by simp)),fun _=>rfl⟩
  have I1:=I.laid (a:=s.heap.objs.size) (o:=.own (s.heap.objs.size + 1)) (h':=s.heap.push PySem.W.emptyDict) (t':=s.toks) (fun b u q=>Heap.get?_push_of_some _ q) (Nat.le_refl _) ⟨_,e1⟩
  refine I1.laid (a:=s.heap.objs.size + 1) (o:=.ins C s.heap.objs.size []) (t':=s.toks) (fun b u q=>Heap.get?_push_of_some _ q) (Nat.le_of_eq (Heap.size_push _ _)) ?_
  have ne:s.heap.objs.size≠s.heap.objs.size + 1:=Nat.ne_of_lt (Nat.lt_succ_self _)
  refine ⟨by rw [upd_ne ne,upd_same],Nat.zero_le _,ne,e2,fun _=>none,(Heap.Ns1.of_empty e3).at fun o q=>Heap.get?_push_of_some _ q,fun _=>True.intro,fun y hy=>absurd rfl hy⟩
theorem attr_of {prog:Program} {w:World} {env:Env} {e:Expr} {f:Str} {pos:Pos} {s:Shared} {Q:Value→Shared→Prop} (hb:attributeBase e f env (eval e env) = eval e env)
    (h:wpAny (model prog w) A (eval e env) (fun o s₁=>wpAny (model prog w) A (getAttr o f true) Q E s₁) E s):wpAny (model prog w) A (eval (.Attribute e f pos) env) Q E s :=
  Attribute_any_ h (by rw [arm_eval_Attribute,hb])
end
def tFld (K:PySem.W.Frag) (ta:TE) (f:Str):TE:=fun σ H Q=>ta σ H fun x H1=>∃ a C dx fs v,x = .ref a∧H1 a = some (.ins C dx fs)∧Cls K C∧NoAttr K C f∧fs.lookup f = some v∧Q v H1
def sFld (K:PySem.W.Frag) (ta tv:TE) (f:Str):TS:=fun D σ H=>tv σ H fun y H1=>ta σ H1 fun x H2=>∃ a C dx fs,x = .ref a∧H2 a = some (.ins C dx fs)∧Cls K C∧NoAttr K C f∧fs.length < 1000 ∧
  D.nx σ (upd H2 a (.ins C dx (putF f y fs)))
section
variable {X:Cx} {o e value:Expr} {f:Str} {pos pos' tpos:Pos} {ta tv:TE}
theorem pe_fld (he:PE X e ta) (hb:attributeBase e f X.env (eval e X.env) = eval e X.env):PE X (.Attribute e f pos) (tFld X.K ta f):=by
  intro pins s σ H Q I h
  refine attr_of hb (thn (he pins s σ H _ I h) fun u s1 ⟨x,H1,I1,rx,a,C,dx,fs,v,ex,ea,c,n,l,q⟩=>?_)
  subst ex
  obtain rfl:u = Value.ref a:=rx
  exact getattr_ok I1 ea c n l fun u' s2 I2 ru=>⟨v,H1,I2,ru,q⟩
theorem ps_fld (ha:PE X o ta) (hv:PE X value tv) (hs:swapsWith value (some (.Attribute o f pos')) pos.line X.env = pure false):PS X (.Assign [.Attribute o f pos'] value pos) (sFld X.K ta tv f):=by
  intro pins s σ H D I h
  refine plainObj_wpAny_Assign_Attribute (thn (hv pins s σ H _ I h) fun u s1 ⟨y,H1,I1,ry,q⟩=>thn (ha pins s1 σ H1 _ I1 q) fun ov s2 ⟨x,H2,I2,rx,a,C,dx,fs,ex,ea,c,n,l,q2⟩=>?_) hs
  subst ex
  obtain rfl:ov = Value.ref a:=rx
  exact setattr_ok I2 ea c n l ry fun s3 I3=>⟨σ,_,I3,q2⟩
theorem methcall_of {pl:Sem Bool} {m:Str} {apos:Pos} {args:List Expr} {pins:List (Addr × Obj)} {s:Shared} {σ:St} {H:Hp} {Q:Value→Shared→Prop} {te:TE} (he:PE X e te) (I:Inv X pins σ H s)
    (h:te σ H fun x H1=>∃ a C dx fs g,x = .ref a∧H1 a = some (.ins C dx fs)∧Cls X.K C∧Meth X.K C m g∧fs.lookup m = none ∧
      ∀ s1,Inv X pins σ H1 s1→wpAny (model X.prog X.w) X.A (callWith pos (.ref g) [.ref a] (backTo pos (starEach args X.env)) (backToKw pos (keywordEach [] X.env))) Q X.xe s1)
    (ht:eval (.Call (.Attribute e m apos) args [] pos) X.env = (do
      let ov ← eval e X.env
      standAt apos.atName
      let (f,first) ← holding [ov] (getMethod ov m pl)
      callWith pos f first (backTo pos (starEach args X.env)) (backToKw pos (keywordEach [] X.env)))) :
    wpAny (model X.prog X.w) X.A (eval (.Call (.Attribute e m apos) args [] pos) X.env) Q X.xe s:=by
  refine PySem.W.methodCall_KW (pl:=pl) (thn (he pins s σ H _ I h) fun u s1 ⟨x,H1,I1,rx,a,C,dx,fs,g,ex,ea,c,k,l,q⟩=>?_) ht
  subst ex
  obtain rfl:u = Value.ref a:=rx
  exact getmeth_ok I1 ea c k l (q s1 I1)
end
section
variable {X:Cx} {pins:List (Addr × Obj)} {σ:St} {H:Hp} {s:Shared} {A:Around} {E:Value→Shared→Prop} {Q:Value→Shared→Prop} {c:Value} {b:Bool}
inductive TyOf (K:PySem.W.Frag) (H:Hp):V→Value→Prop where
  | non:TyOf K H .non (.type "NoneType")
  | bl (x:Bool):TyOf K H (.bl x) (.type "bool")
  | int (i:Int):TyOf K H (.int i) (.type "int")
  | str (x:Str):TyOf K H (.str x) (.type "str")
  | flt (x:UInt64):TyOf K H (.flt x) (.type "float")
  | lst {a:Addr} {xs:List V} (e:H a = some (.lst xs)):TyOf K H (.ref a) (.type "list")
  | frz {a:Addr} {o:Obj} {xs:List V} (e:H a = some (.frz o (.lst xs))):TyOf K H (.ref a) (.type "list")
  | tup {a:Addr} {xs:List V} (e:H a = some (.tup xs)):TyOf K H (.ref a) (.type "tuple")
  | dK {a:Addr} {kvs:List (Key × V)} (e:H a = some (.dK kvs)):TyOf K H (.ref a) (.type "dict")
  | dT {a:Addr} {kvs:List (List Key × V)} (e:H a = some (.dT kvs)):TyOf K H (.ref a) (.type "dict")
  | ins {a C dx:Addr} {fs:List (Str × V)} (e:H a = some (.ins C dx fs)) (cl:Cls K C) (ha:PySem.W.findIn K (.ref C) "__class__" = some (some (.builtin "object.__class__")))
      (hn:PySem.W.specialIn K (.builtin "object.__class__") "__get__" = some (some (.builtin "getset_descriptor.__get__"))) (htk:PySem.W.takesIn K (.builtin "object.__class__") = some true)
      (hm:PySem.W.mroIn K C (.type "object") = some true):TyOf K H (.ref a) (.ref C)
theorem isinst_ok {x:V} {u t:Value} (I:Inv X pins σ H s) (rx:RelV x u) (ty:TyOf X.K H x t) (e:PySem.W.kitOne X.K t c = some b) (h:∀ tk,Q (.bool b) { s with toks:=tk }) :
    wpAny (model X.prog X.w) A (call (.builtin "isinstance") [u,c]) Q E s:=by
  cases ty with
  | non=>cases (show u = Value.none from rx); exact PySem.W.kia_one PySem.W.kitx_none I.kIn True.intro e (fun z=>nomatch z) h
  | bl y=>cases (show u = Value.bool y from rx); exact PySem.W.kia_one PySem.W.kitx_bool I.kIn True.intro e (fun z=>nomatch z) h
  | int i=>obtain ⟨t,q⟩:=(show ∃ t,u = Value.int i t from rx); cases q; exact PySem.W.kia_one PySem.W.kitx_int I.kIn True.intro e (fun z=>nomatch z) h
  | str y=>obtain ⟨t,q⟩:=(show ∃ t,u = Value.str y t from rx); cases q; exact PySem.W.kia_one PySem.W.kitx_str I.kIn True.intro e (fun z=>nomatch z) h
  | flt y=>obtain ⟨t,q⟩:=(show ∃ t,u = Value.float y t from rx); cases q; exact PySem.W.kia_one PySem.W.kitx_float I.kIn True.intro e (fun z=>nomatch z) h
  | @lst a xs ea =>
    cases (show u = Value.ref a from rx)
    obtain ⟨_,_,n,_,h1⟩:=(show ObjOk X.prog X.w H s.heap a (.lst xs) from I.hok a _ ea)
    exact PySem.W.kia_one PySem.W.kitx_list I.kIn ⟨_,h1,rfl⟩ e (fun z=>nomatch z) h
  | @frz a ob xs ea =>
    cases (show u = Value.ref a from rx)
    obtain ⟨_,_,_,n,_,h1⟩:=(show ObjOk X.prog X.w H s.heap a (.frz ob (.lst xs)) from I.hok a _ ea)
    exact PySem.W.kia_one PySem.W.kitx_list I.kIn ⟨_,h1,rfl⟩ e (fun z=>nomatch z) h
  | @tup a xs ea =>
    cases (show u = Value.ref a from rx)
    obtain ⟨_,_,_,p⟩:=(show ObjOk X.prog X.w H s.heap a (.tup xs) from I.hok a _ ea)
    obtain ⟨o,h1,h2,_⟩:=p
    exact PySem.W.kia_one PySem.W.kitx_tuple I.kIn ⟨o,h1,h2⟩ e (fun z=>nomatch z) h
  | @dK a kvs ea =>
    cases (show u = Value.ref a from rx)
    obtain ⟨_,_,vs,_,p⟩:=(show ObjOk X.prog X.w H s.heap a (.dK kvs) from I.hok a _ ea)
    obtain ⟨o,es,ep,h1,h2,_⟩:=p
    exact PySem.W.kia_one PySem.W.kitx_dict I.kIn ⟨o,h1,h2.1⟩ e (fun z=>nomatch z) h
  | @dT a kvs ea =>
    cases (show u = Value.ref a from rx)
    obtain ⟨_,_,xs,_,o,es,ep,h1,h2,_⟩:=(show ObjOk X.prog X.w H s.heap a (.dT kvs) from I.hok a _ ea)
    exact PySem.W.kia_one PySem.W.kitx_dict I.kIn ⟨o,h1,h2.1⟩ e (fun z=>nomatch z) h
  | @ins a C dx fs ea cl ha hn htk hm =>
    cases (show u = Value.ref a from rx)
    obtain ⟨mA,O,_⟩:=ins_get I.hok ea
    obtain ⟨od,J,_⟩:=O.look
    exact PySem.W.kia_one (PySem.W.kitx_own (cl.get _) cl.hd ha hn htk hm) I.kIn J e (fun z=>nomatch z) h
end
end L2
namespace L2
open PySem PySem.Spec PyProof.Rows
structure Room (k:Nat) (A:Around):Prop where
  hd:A.handled = none
  gd:A.guards = some []
  dp:A.depth + 3 * k + 5 < recursionLimit
  un:A.units + 16 * k + 200 < cLine
theorem Room.mono {j k:Nat} {A:Around} (r:Room k A) (h:j≤k):Room j A:=⟨r.hd,r.gd,by have:=r.dp; omega,by have:=r.un; omega⟩
theorem Room.deeper {k:Nat} {A:Around} (r:Room (k + 1) A) (env:Env):Room k (A.deeper env) :=
  ⟨r.hd,r.gd,by have:=r.dp; show A.depth + 1 + 3 * k + 5 < _; omega,by have:=r.un; show A.units + 3 + 16 * k + 200 < _; omega⟩
theorem make_depth {A:Around} {C:Addr} {us:List Value} {kw:List (Str × Value)}:(A.under (.builtin "type.__call__" ⟨.ref C :: us,kw⟩)).depth = A.depth + 1:=by
  first | rfl | simp [Around.under,Code.weight,Code.isCreation,Code.isGuard,Code.isCaller,Code.frames,Code.isFrame,guardIds]
theorem make_units {A:Around} {C:Addr} {us:List Value} {kw:List (Str × Value)}:(A.under (.builtin "type.__call__" ⟨.ref C :: us,kw⟩)).units = A.units + 1:=by
  first | rfl | simp [Around.under,Code.cUnits,Code.frames,Code.isFrame]
theorem Room.make {k:Nat} {A:Around} (r:Room (k + 1) A) (C:Addr) (us:List Value) (kw:List (Str × Value)):Room k (A.under (.builtin "type.__call__" ⟨.ref C :: us,kw⟩)) :=
  ⟨r.hd,(by
    have e:(Code.builtin "type.__call__" ⟨.ref C :: us,kw⟩).guards = []:=by first | rfl | simp [Code.guards,Code.isGuard,guardIds]
    unfold Around.under
    simp only [e,pushGuards]
    exact r.gd),by have:=r.dp; rw [make_depth]; omega,by have:=r.un; rw [make_units]; omega⟩
theorem Room.depth {k:Nat} {A:Around} (r:Room k A):A.depth < recursionLimit:=by have:=r.dp; omega
theorem Room.units {k:Nat} {A:Around} (r:Room k A):A.units + 64 < cLine:=by have:=r.un; omega
def tNil:TA:=fun _ H Q=>Q [] H
def tCons (ta:TE) (tr:TA):TA:=fun σ H Q=>ta σ H fun x H1=>tr σ H1 fun xs H2=>Q (x :: xs) H2
section
variable {X:Cx} {e:Expr} {es:List Expr} {te:TE} {t:TA} {pos:Pos}
theorem pa_nil:PA X [] tNil:=fun _ _ _ _ H Q I h=>Calls.spliced_nil ⟨[],H,I,.nil,h⟩
theorem pa_cons (ha:PE X e te) (hr:PA X es t) (hs:starEach (e :: es) X.env = (false,eval e X.env) :: starEach es X.env:=by rfl):PA X (e :: es) (tCons te t):=by
  intro pos pins s σ H Q I h
  rw [hs]
  show wpAny _ _ (spliced ((false,eval e X.env) :: backTo pos (starEach es X.env))) _ _ s
  refine Calls.spliced_cons (thn (ha pins s σ H _ I h) fun u s1 ⟨x,H1,I1,r1,q1⟩=>?_)
  exact thn (hr pos pins s1 σ H1 _ I1 q1) fun us s2 ⟨xs,H2,I2,r2,q2⟩=>⟨x :: xs,H2,I2,.cons r1 r2,q2⟩
def tTup (t:TA):TE:=fun σ H Q=>t σ H fun xs H1=>xs.length≤sizeLine∧∀ p,H1 p = none→Q (.ref p) (upd H1 p (.tup xs))
def tLst (t:TA):TE:=fun σ H Q=>t σ H fun xs H1=>xs.length≤sizeLine∧∀ p,H1 p = none→Q (.ref p) (upd H1 p (.lst xs))
theorem pe_tup {x1} (h:PA X es t):PE X (.Tuple es x1 pos) (tTup t):=by
  intro pins s σ H Q I hq
  refine wpAny_Tuple_spliced (thn (h pos pins s σ H _ I hq) fun us s1 ⟨xs,H1,I1,r,z,q⟩=>⟨by rw [← r.length]; exact z,?_⟩)
  have hf:H1 s1.heap.objs.size = none:=I1.hok.fresh (Nat.le_refl _)
  refine ⟨.ref s1.heap.objs.size,upd H1 s1.heap.objs.size (.tup xs),I1.laid (t':=s1.toks) (fun b u e=>Heap.get?_push_of_some _ e) (Nat.le_refl _) ?_,rfl,q _ hf⟩
  exact ⟨z,us,r,⟨_,Heap.get?_push_size _ rfl,rfl,_,rfl⟩⟩
theorem pe_lst (h:PA X es t):PE X (.List es pos) (tLst t):=by
  intro pins s σ H Q I hq
  refine wpAny_List_spliced (thn (h pos pins s σ H _ I hq) fun us s1 ⟨xs,H1,I1,r,z,q⟩=>⟨by rw [← r.length]; exact z,?_⟩)
  have hf:H1 s1.heap.objs.size = none:=I1.hok.fresh (Nat.le_refl _)
  refine ⟨.ref s1.heap.objs.size,upd H1 s1.heap.objs.size (.lst xs),I1.laid (t':=s1.toks) (fun b u e=>Heap.get?_push_of_some _ e) (Nat.le_refl _) ?_,rfl,q _ hf⟩
  exact ⟨z,us,0,r,Heap.get?_push_size _ rfl⟩
end
abbrev Sp:=List V→Hp→VK→XK→Prop
abbrev CXT:=List Env→Hp→Shared→XK→Value→Shared→Prop
structure Env0 (P:Program) (w:World) (K:PySem.W.Frag) (mg:Str→Option Value) (base:Heap) (A:Around) (outer:List Env) (s:Shared) (H:Hp):Prop where
  frames:A.frames = some outer
  mod:Mod K mg base
  bs:∀ b o,base.get? b = some o→s.heap.get? b = some o∧H b = none
  bsz:base.objs.size≤s.heap.objs.size
  funs:s.heap.FunFrames base outer
  frf:∀ b∈frs outer,H b = none
  hok:HOk P w H s.heap
  bare:AllBare s.gens
def CE (outer:List Env) (P:Program) (w:World) (H:Hp) (s:Shared) (Q:VK) (u:Value) (s':Shared):Prop :=
  ∃ v H',s'.os = s.os∧AllBare s'.gens∧Un (frs outer) [] H H' s.heap s'.heap∧HOk P w H' s'.heap∧RelV v u∧Q v H'
def CR (CX:CXT) (outer:List Env) (P:Program) (w:World) (H:Hp) (s:Shared) (Q:VK) (E:XK) (r:Result) (s':Shared):Prop :=
  match r with
  | .ok (.ret u)=>CE outer P w H s Q u s'
  | .ok _=>False
  | .error e=>CX outer H s E e s'
structure FnOk (P:Program) (w:World) (K:PySem.W.Frag) (mg:Str→Option Value) (base:Heap) (CX:CXT) (k:Nat) (f:Addr) (fd:FuncData) (ps:List Str) (sp:Sp):Prop where
  len:∀ vs H Q E,sp vs H Q E→vs.length = ps.length
  run:∀ (A:Around) (outer:List Env) (s:Shared) (H:Hp) (args:Args) (us:List Value) (vs:List V) (Q:VK) (E:XK),Room k A→Env0 P w K mg base A outer s H→BindsTo s fd args (ps.zip us)→Vals vs us→sp vs H Q E →
    codeAny (model P w) A (.call (.ref f) args) (CR CX outer P w H s Q E) s
theorem FnOk.mono {P:Program} {w:World} {K:PySem.W.Frag} {mg:Str→Option Value} {base:Heap} {CX:CXT} {j k:Nat} {f:Addr} {fd:FuncData} {ps:List Str} {sp:Sp} (F:FnOk P w K mg base CX j f fd ps sp) (h:j≤k) :
    FnOk P w K mg base CX k f fd ps sp:=⟨F.len,fun A outer s H args us vs Q E hr=>F.run A outer s H args us vs Q E (hr.mono h)⟩
theorem Env0.make {P:Program} {w:World} {K:PySem.W.Frag} {mg:Str→Option Value} {base:Heap} {A:Around} {outer:List Env} {s:Shared} {H:Hp} (e:Env0 P w K mg base A outer s H) (C:Addr) (us:List Value) (kw:List (Str × Value)) :
    Env0 P w K mg base (A.under (.builtin "type.__call__" ⟨.ref C :: us,kw⟩)) outer s H:=⟨by first | exact e.frames | (simpa [Around.under,Code.envs,Code.isFrame,pushEnvs] using e.frames),e.mod,e.bs,e.bsz,e.funs,e.frf,e.hok,e.bare⟩
section
variable {X:Cx} {pins:List (Addr × Obj)} {σ:St} {H:Hp} {s s':Shared}
theorem Inv.env0 (I:Inv X pins σ H s):Env0 X.prog X.w X.K X.mg X.base X.A X.stack s H :=
  ⟨I.ok.frames,I.ok.mod,I.bs,Nat.le_trans I.ok.bsz I.sz,I.stack,I.stkFree,I.hok,I.bare⟩
theorem Inv.after {Q:VK} {u:Value} (I:Inv X pins σ H s) (h:CE X.stack X.prog X.w H s Q u s'):EP X pins σ Q u s':=by
  obtain ⟨v,H',os,bare,un,hok,r,q⟩:=h
  obtain ⟨hh,g,d,t,os'⟩:=s'
  obtain rfl:os' = s.os:=os
  exact ⟨v,H',I.call (h':=hh) (g':=g) (d':=d) (t':=t) (ch:=[]) un hok bare (fun b z=>absurd z (by simp)),r,q⟩
end
def tCall (sp:Sp) (dvs:List V) (E:XK) (t:TA):TE:=fun σ H Q=>t σ H fun vs H1=>sp (vs ++ dvs) H1 Q E
def tMeth (C:Addr) (m:Str) (sp:Sp) (dvs:List V) (E:XK) (ta:TE) (t:TA):TE:=fun σ H Q=>ta σ H fun x H1=>∃ a dx fs,x = .ref a∧H1 a = some (.ins C dx fs)∧fs.lookup m = none ∧
  t σ H1 fun vs H2=>sp (x :: (vs ++ dvs)) H2 Q E
def tMake (C:Addr) (sp:Sp) (dvs:List V) (E:XK) (t:TA):TE:=fun σ H Q=>t σ H fun vs H1=>∀ x dx,H1 x = none→H1 dx = none→dx≠x →
  sp (.ref x :: (vs ++ dvs)) (upd (upd H1 dx (.own x)) x (.ins C dx [])) (fun v H2=>v = .non∧Q (.ref x) H2) E
def Binds (K:PySem.W.Frag) (fd:FuncData) (ps:List Str) (ds:List Value):Prop :=
  ∀ (s:Shared) (us:List Value),K.In s.heap→(us ++ ds).length = ps.length→BindsTo s fd ⟨us,[]⟩ (ps.zip (us ++ ds))
theorem Binds.all {K:PySem.W.Frag} {fd:FuncData} {ps:List Str} (h:∀ us:List Value,us.length = ps.length→bindArgs fd ⟨us,[]⟩ = pure (ps.zip us)):Binds K fd ps []:=fun s us _ hl=>by
  rw [List.append_nil] at hl ⊢
  exact .of_eq (h us hl)
def Passes (CX:CXT) (X:Cx) (E:XK):Prop:=∀ (pins:List (Addr × Obj)) (σ:St) (H:Hp) (s:Shared) (e:Value) (s':Shared),Inv X pins σ H s→CX X.stack H s E e s'→X.xe e s'
section
variable {X:Cx} {CX:CXT} {k:Nat} {f C:Addr} {fd:FuncData} {ps:List Str} {sp:Sp} {dvs:List V} {ds:List Value} {E:XK} {x m:Str} {p pos apos:Pos} {e o:Expr} {es:List Expr} {ta:TE} {t:TA}
theorem run_fn {pins:List (Addr × Obj)} {σ:St} {H:Hp} {s:Shared} {Q:VK} {us:List Value} {vs:List V} (F:FnOk X.prog X.w X.K X.mg X.base CX k f fd ps sp) (hr:Room k X.A) (hb:Binds X.K fd ps ds) (hd:Vals dvs ds) (hx:Passes CX X E)
    (I:Inv X pins σ H s) (r:Vals vs us) (h:sp (vs ++ dvs) H Q E):wpAny (model X.prog X.w) X.A (call (.ref f) us) (EP X pins σ Q) X.xe s:=by
  have r2:Vals (vs ++ dvs) (us ++ ds):=r.append hd
  have hl:(us ++ ds).length = ps.length:=by rw [← r2.length]; exact F.len _ _ _ _ h
  refine wpAny_call (codeAny_mono (F.run X.A X.stack s H ⟨us,[]⟩ (us ++ ds) (vs ++ dvs) Q E hr I.env0 (hb s us I.kIn hl) r2 h) fun r s' hq=>?_)
  cases r with
  | error e=>exact hx pins σ H s e s' I hq
  | ok fl =>
    cases fl with
    | ret u=>exact I.after hq
    | next=>exact False.elim hq
    | brk=>exact False.elim hq
    | cont=>exact False.elim hq
theorem pe_call (F:FnOk X.prog X.w X.K X.mg X.base CX k f fd ps sp) (hr:Room k X.A) (hg:Gl X x) (hm:X.mg x = some (.ref f)) (hk:PySem.W.keepIn X.K (.ref f) = true) (hb:Binds X.K fd ps ds) (hd:Vals dvs ds) (hx:Passes CX X E)
    (ha:PA X (e :: es) t) (hdb:(x == ("__debug__" : Str)) = false:=by decide) (he:starEach (e :: es) X.env = (false,eval e X.env) :: starEach es X.env:=by rfl) (hpl:(backTo pos (starEach es X.env)).any (·.1) = false:=by rfl) :
    PE X (.Call (.Name x p) (e :: es) [] pos) (tCall sp dvs E t):=by
  intro pins s σ H Q I h
  refine wpAny_Call_Name_kw (ld_glob I hg hm ?_ hdb)
  refine PySem.W.callWith_K (h₀:=X.base) I.ok.mod.kin hk (thn (ha pos pins s σ H _ I h) fun us s1 ⟨vs,H1,I1,r,q⟩=>⟨I1.kIn,?_⟩) he hpl
  exact run_fn F hr hb hd hx I1 r q
theorem pe_meth {pl:Sem Bool} (he:PE X o ta) (c:Cls X.K C) (hm:Meth X.K C m f) (F:FnOk X.prog X.w X.K X.mg X.base CX k f fd ps sp) (hr:Room k X.A) (hb:Binds X.K fd ps ds) (hd:Vals dvs ds) (hx:Passes CX X E) (ha:PA X (e :: es) t)
    (hst:starEach (e :: es) X.env = (false,eval e X.env) :: starEach es X.env:=by rfl) (hpl:(backTo pos (starEach es X.env)).any (·.1) = false:=by rfl)
    (ht:eval (.Call (.Attribute o m apos) (e :: es) [] pos) X.env = (do
      let ov ← eval o X.env
      standAt apos.atName
      let (f,first) ← holding [ov] (getMethod ov m pl)
      callWith pos f first (backTo pos (starEach (e :: es) X.env)) (backToKw pos (keywordEach [] X.env))):=by rfl) :
    PE X (.Call (.Attribute o m apos) (e :: es) [] pos) (tMeth C m sp dvs E ta t):=by
  intro pins s σ H Q I h
  refine PySem.W.methodCall_KW (pl:=pl) (thn (he pins s σ H _ I h) fun u s1 ⟨x,H1,I1,rx,a,dx,fs,ex,ea,l,q⟩=>?_) ht
  subst ex
  obtain rfl:u = Value.ref a:=rx
  refine getmeth_ok I1 ea c hm l ?_
  refine PySem.W.callWith_K (first:=[.ref a]) (h₀:=X.base) I.ok.mod.kin hm.kp (thn (ha pos pins s1 σ H1 _ I1 q) fun us s2 ⟨vs,H2,I2,r,q2⟩=>⟨I2.kIn,?_⟩) hst hpl
  exact run_fn (us:=.ref a :: us) (vs:=.ref a :: vs) F hr hb hd hx I2 (.cons rfl r) q2
theorem pe_meth0 {pl:Sem Bool} (he:PE X o ta) (c:Cls X.K C) (hm:Meth X.K C m f) (F:FnOk X.prog X.w X.K X.mg X.base CX k f fd ps sp) (hr:Room k X.A) (hb:Binds X.K fd ps ds) (hd:Vals dvs ds) (hx:Passes CX X E)
    (ht:eval (.Call (.Attribute o m apos) [] [] pos) X.env = (do
      let ov ← eval o X.env
      standAt apos.atName
      let (f,first) ← holding [ov] (getMethod ov m pl)
      callWith pos f first (backTo pos (starEach [] X.env)) (backToKw pos (keywordEach [] X.env))):=by rfl) :
    PE X (.Call (.Attribute o m apos) [] [] pos) (tMeth C m sp dvs E ta tNil):=by
  intro pins s σ H Q I h
  refine PySem.W.methodCall_KW (pl:=pl) (thn (he pins s σ H _ I h) fun u s1 ⟨x,H1,I1,rx,a,dx,fs,ex,ea,l,q⟩=>?_) ht
  subst ex
  obtain rfl:u = Value.ref a:=rx
  refine getmeth_ok I1 ea c hm l ?_
  exact PySem.W.callWith_K0 (first:=[.ref a]) I1.kIn hm.kp (run_fn (us:=[.ref a]) (vs:=[.ref a]) F hr hb hd hx I1 (.cons rfl .nil) q)
structure Mk (K:PySem.W.Frag) (C f:Addr):Prop where
  makes:PySem.W.makesIn K C = true
  init:PySem.W.findIn K (.ref C) "__init__" = some (some (.ref f))
  fn:PySem.W.isFn K (.ref f) = true
  kp:PySem.W.keepIn K (.ref C) = true
theorem run_make {pins:List (Addr × Obj)} {σ:St} {H:Hp} {s:Shared} {Q:VK} {us:List Value} {vs:List V} (M:Mk X.K C f) (F:FnOk X.prog X.w X.K X.mg X.base CX k f fd ps sp) (hr:Room (k + 1) X.A) (hb:Binds X.K fd ps ds) (hd:Vals dvs ds)
    (hx:Passes CX X E) (I:Inv X pins σ H s) (r:Vals vs us)
    (h:∀ x dx,H x = none→H dx = none→dx≠x→sp (.ref x :: (vs ++ dvs)) (upd (upd H dx (.own x)) x (.ins C dx [])) (fun v H2=>v = .non∧Q (.ref x) H2) E) :
    wpAny (model X.prog X.w) X.A (call (.ref C) us) (EP X pins σ Q) X.xe s:=by
  have hq:=h (s.heap.objs.size + 1) s.heap.objs.size (I.hok.fresh (Nat.le_succ _)) (I.hok.fresh (Nat.le_refl _)) (Nat.ne_of_lt (Nat.lt_succ_self _))
  have I2:=Inv.made (C:=C) I
  have r2:Vals (V.ref (s.heap.objs.size + 1) :: (vs ++ dvs)) (Value.ref (s.heap.objs.size + 1) :: (us ++ ds)):=.cons rfl (r.append hd)
  have hl:(Value.ref (s.heap.objs.size + 1) :: us ++ ds).length = ps.length:=by
    have e:=r2.length
    rw [F.len _ _ _ _ hq] at e
    exact e.symm
  refine wpAny_call (make_map (f:=f) I.kIn M.makes M.init (beq_iff_eq.mp M.fn) (codeAny_mono (F.run _ X.stack _ _ ⟨Value.ref (s.heap.objs.size + 1) :: us,[]⟩ (Value.ref (s.heap.objs.size + 1) :: (us ++ ds)) _ _ E (hr.make C us [])
    (I2.env0.make C us []) (hb _ (Value.ref (s.heap.objs.size + 1) :: us) I2.kIn hl) r2 hq) fun r s' hq'=>?_))
  cases r with
  | error e=>exact hx pins σ _ _ e s' I2 hq'
  | ok fl =>
    cases fl with
    | ret u =>
      obtain ⟨v,H',I3,rv,ev,q3⟩:=I2.after hq'
      subst ev
      exact ⟨rv,⟨V.ref (s.heap.objs.size + 1),H',I3,rfl,q3⟩⟩
    | next=>exact False.elim hq'
    | brk=>exact False.elim hq'
    | cont=>exact False.elim hq'
theorem pe_make (M:Mk X.K C f) (F:FnOk X.prog X.w X.K X.mg X.base CX k f fd ps sp) (hr:Room (k + 1) X.A) (hg:Gl X x) (hm:X.mg x = some (.ref C)) (hb:Binds X.K fd ps ds) (hd:Vals dvs ds) (hx:Passes CX X E)
    (ha:PA X (e :: es) t) (hdb:(x == ("__debug__" : Str)) = false:=by decide) (he:starEach (e :: es) X.env = (false,eval e X.env) :: starEach es X.env:=by rfl) (hpl:(backTo pos (starEach es X.env)).any (·.1) = false:=by rfl) :
    PE X (.Call (.Name x p) (e :: es) [] pos) (tMake C sp dvs E t):=by
  intro pins s σ H Q I h
  refine wpAny_Call_Name_kw (ld_glob I hg hm ?_ hdb)
  refine PySem.W.callWith_K (h₀:=X.base) I.ok.mod.kin M.kp (thn (ha pos pins s σ H _ I h) fun us s1 ⟨vs,H1,I1,r,q⟩=>⟨I1.kIn,?_⟩) he hpl
  exact run_make M F hr hb hd hx I1 r q
end
section
variable {X:Cx} {CX:CXT} {k:Nat} {f C:Addr} {fd:FuncData} {ps ks:List Str} {sp:Sp} {E:XK} {x m:Str} {p pos apos kpos:Pos} {e o:Expr} {es:List Expr} {kws:List Keyword} {te ta:TE} {t tk:TA} {nm:Option Str}
variable {g:List Value→List Value→List Value} {gV:List V→List V→List V}
end
structure FnScope (N P:List Str) (sc:Scope):Prop where
  kind:sc.kind = .function
  co:sc.isCoroutine = false
  gen:sc.isGenerator = false
  nd:N.Nodup
  pre:N.take P.length = P
  par:∀ x∈P,sc.names.lookup x = some .local∨sc.names.lookup x = some .cell
  nofree:∀ y∈sc.names,y.2≠.free
theorem bindL_out {kindOf:Str→Option NameKind} {x:Str}:∀ {binds:List (Str × Value)} {m:Str→Option Value},(∀ v,(x,v) ∉ binds)→bindL kindOf binds m x = m x
  | [],_,_=>rfl
  | (n,v) :: r,m,h=>by
    unfold bindL
    rw [bindL_out fun w hw=>h w (List.mem_cons_of_mem _ hw)]
    split
    · have:x≠n:=by rintro rfl; exact h v List.mem_cons_self
      simp [this]
    · rfl
theorem bindC_out {kindOf:Str→Option NameKind} {x:Str}:∀ {binds:List (Str × Value)} {m:Str→Option Value},(∀ v,(x,v) ∉ binds)→bindC kindOf binds m x = m x
  | [],_,_=>rfl
  | (n,v) :: r,m,h=>by
    unfold bindC
    rw [bindC_out fun w hw=>h w (List.mem_cons_of_mem _ hw)]
    split
    · rfl
    · have:x≠n:=by rintro rfl; exact h v List.mem_cons_self
      simp [this]
theorem bindL_get {kindOf:Str→Option NameKind} {x:Str} {v:Value}:∀ {P:List Str} {vs:List Value} {i:Nat} {m:Str→Option Value},P.Nodup→P[i]? = some x→vs[i]? = some v→kindOf x = some .local →
    bindL kindOf (P.zip vs) m x = some v
  | [],_,_,_,_,h,_,_=>by simp at h
  | _ :: _,[],_,_,_,_,h,_=>by simp at h
  | p :: P,w :: vs,0,m,nd,h1,h2,hk=>by
    simp at h1 h2; subst h1; subst h2
    show bindL kindOf ((p,w) :: P.zip vs) m p = _
    unfold bindL
    rw [bindL_out fun v hv=>(List.nodup_cons.mp nd).1 (List.of_mem_zip hv).1,if_pos hk]
    simp
  | p :: P,w :: vs,i + 1,m,nd,h1,h2,hk=>by
    show bindL kindOf ((p,w) :: P.zip vs) m x = _
    unfold bindL
    exact bindL_get (i:=i) (List.nodup_cons.mp nd).2 (by simpa using h1) (by simpa using h2) hk
theorem bindC_get {kindOf:Str→Option NameKind} {x:Str} {v:Value}:∀ {P:List Str} {vs:List Value} {i:Nat} {m:Str→Option Value},P.Nodup→P[i]? = some x→vs[i]? = some v→kindOf x≠some .local →
    bindC kindOf (P.zip vs) m x = some v
  | [],_,_,_,_,h,_,_=>by simp at h
  | _ :: _,[],_,_,_,_,h,_=>by simp at h
  | p :: P,w :: vs,0,m,nd,h1,h2,hk=>by
    simp at h1 h2; subst h1; subst h2
    show bindC kindOf ((p,w) :: P.zip vs) m p = _
    unfold bindC
    rw [bindC_out fun v hv=>(List.nodup_cons.mp nd).1 (List.of_mem_zip hv).1,if_neg hk]
    simp
  | p :: P,w :: vs,i + 1,m,nd,h1,h2,hk=>by
    show bindC kindOf ((p,w) :: P.zip vs) m x = _
    unfold bindC
    exact bindC_get (i:=i) (List.nodup_cons.mp nd).2 (by simpa using h1) (by simpa using h2) hk
def start (N:List Str) (vs:List V):St:=vs.map some ++ List.replicate (N.length - vs.length) none
def cxOf (CX:CXT) (P:Program) (w:World) (K:PySem.W.Frag) (mg:Str→Option Value) (base:Heap) (N:List Str) (qual:Str) (scope:Scope) (f:Addr) (cd:Value) (A:Around) (outer:List Env) (s:Shared) (H:Hp) (E:XK):Cx where
  prog:=P
  w:=w
  K:=K
  mg:=mg
  base:=base
  A:=A.deeper (envOfC qual scope s.heap.objs.size f cd)
  N:=N
  s₀:=s
  H₀:=H
  env:=envOfC qual scope s.heap.objs.size f cd
  outer:=outer
  stack:=envOfC qual scope s.heap.objs.size f cd :: outer
  ex:=[]
  calm:=true
  fn:=fun _=>true
  pn:=[]
  xe:=fun e s'=>wpAny (model P w) (A.deeper (envOfC qual scope s.heap.objs.size f cd)) (leaving (envOfC qual scope s.heap.objs.size f cd) e) (fun _ s''=>CX outer H s E e s'') (fun e' s''=>CX outer H s E e' s'') s'
theorem cell_has {sc:Scope} {n:Nat} {x:Str} (h:sc.names.lookup x = some .cell):∃ c,(cellsFrom n sc.names []).lookup x = some c:=by
  have q:=PySem.W.cellsFrom_some sc.names n [] (.inl h)
  exact Option.isSome_iff_exists.mp q
theorem inv_start {CX:CXT} {P:Program} {w:World} {K:PySem.W.Frag} {mg:Str→Option Value} {base:Heap} {N ps:List Str} {qual:Str} {scope:Scope} {f:Addr} {cd:Value} {A:Around} {outer:List Env} {s s1:Shared} {H:Hp} {E:XK} {us:List Value} {vs:List V}
    (S:FnScope N ps scope) (hd:A.handled = none) (e0:Env0 P w K mg base A outer s H) (hl:vs.length = ps.length) (r:Vals vs us)
    (x:InCallC s s.heap.objs.size (bindL (envOfC qual scope s.heap.objs.size f cd).kindOf (ps.zip us) fun _=>none) (cellsFrom (s.heap.objs.size + 1) scope.names []) (bindC (envOfC qual scope s.heap.objs.size f cd).kindOf (ps.zip us) fun _=>none) s1) :
    Inv (cxOf CX P w K mg base N qual scope f cd A outer s H E) [] (start N vs) H s1:=by
  have hpl:ps.length≤N.length:=by have:=congrArg List.length S.pre; rw [List.length_take] at this; omega
  obtain ⟨h1,tk,rfl,hk⟩:=x.done
  have noA:∀ b:Addr,b ∉ (cxOf CX P w K mg base N qual scope f cd A outer s H E).ex:=fun b z=>absurd (show b∈([]:List Addr) from z) (by simp)
  refine ⟨⟨e0.mod,S.kind,rfl,rfl,Nat.le_refl _,fun y z c h1 h2=>?_,fun y hy=>?_,fun y c _ h=>?_,fun _=>hd,Around.frames_deeper e0.frames,.inr ⟨rfl,rfl⟩,fun b z=>absurd z (noA b),e0.bs,e0.bsz,fun b _ _=>noA b,fun b z=>absurd z (noA b),e0.funs,e0.frf⟩,
    rfl,e0.bare,Un.kept hk,⟨_,x.toInCall.ns,fun i y v h1 h2 h3=>?_⟩,fun y c h=>⟨_,x.cell y c h⟩,e0.hok.fresh (Nat.le_refl _),fun y c h=>?_,fun p hp=>absurd (show p∈([]:List (Addr × Obj)) from hp) (by simp),e0.hok.kept hk,?_⟩
  · exact name_of_addr x.apart (PySem.mem_of_lookup h1) (PySem.mem_of_lookup h2)
  · have hy:scope.names.lookup y = some .cell∨scope.names.lookup y = some .free:=hy
    rcases hy with hy | hy
    · exact cell_has hy
    · exact absurd rfl (S.nofree _ (PySem.mem_of_lookup hy))
  · exact Nat.le_of_lt (x.above y c (PySem.mem_of_lookup h))
  · have hi:i < vs.length:=by
      unfold start at h2
      by_cases hi:i < vs.length
      · exact hi
      · rw [List.getElem?_append_right (by simpa using hi)] at h2
        rw [List.getElem?_replicate] at h2
        split at h2 <;> cases h2
    have ha:vs[i]? = some v:=by
      unfold start at h2
      rw [List.getElem?_append_left (by simpa using hi),List.getElem?_map] at h2
      cases e:vs[i]? with
      | none=>rw [e] at h2; cases h2
      | some a=>rw [e] at h2; cases h2; rfl
    obtain ⟨u,hu,rv⟩:=r.get ha
    have hp:ps[i]? = some y:=by
      rw [← S.pre,List.getElem?_take_of_lt (by omega)]; exact h1
    have ndP:ps.Nodup:=by rw [← S.pre]; exact S.nd.sublist (List.take_sublist _ _)
    refine ⟨u,rv,?_⟩
    rcases S.par y (List.mem_of_getElem? hp) with k | k
    · exact .inl ⟨k,bindL_get ndP hp hu k⟩
    · obtain ⟨c,e⟩:=cell_has (n:=s.heap.objs.size + 1) k
      refine .inr ⟨.inl k,c,e,?_⟩
      have q:=x.cell y c e
      rw [bindC_get ndP hp hu (by show scope.names.lookup y≠_; rw [k]; decide)] at q
      exact q
  · exact e0.hok.fresh (Nat.le_of_lt (x.above y c (PySem.mem_of_lookup h)))
  · unfold start
    show _ = N.length
    rw [List.length_append,List.length_map,List.length_replicate]
    omega
theorem fn_of {CX:CXT} {P:Program} {w:World} {K:PySem.W.Frag} {mg:Str→Option Value} {base:Heap} {k:Nat} {f:Addr} {name qual:Str} {params:Arguments} {body:List Stmt} {scope:Scope} {dV kV doc pm cdv ct oc:Value} {an od:Option Addr}
    {osl:Array (Option Value)} {N ps:List Str} {sp:Sp} (lk:K.lookup f = some ⟨oc,od,.func (PySem.W.fnOf name qual params body scope dV kV doc pm an cdv ct),osl⟩) (hcd:PySem.W.codeIn K cdv qual = true) (S:FnScope N ps scope)
    (len:∀ vs H Q E,sp vs H Q E→vs.length = ps.length)
    (hbody:∀ (A:Around) (outer:List Env) (s:Shared) (H:Hp) (vs:List V) (Q:VK) (E:XK),Room k (A.deeper (envOfC qual scope s.heap.objs.size f cdv))→sp vs H Q E →
      ∃ t,PSs (cxOf CX P w K mg base N qual scope f cdv A outer s H E) body t∧t { nx:=fun _ H'=>Q .non H',rt:=Q } (start N vs) H) :
    FnOk P w K mg base CX (k + 1) f (PySem.W.fnOf name qual params body scope dV kV doc pm an cdv ct) ps sp:=by
  refine ⟨len,fun A outer s H args us vs Q E hr e0 hb r hsp=>?_⟩
  have hl:=len _ _ _ _ hsp
  have KX:K.In s.heap:=e0.mod.kin.keeps fun b o e=>(e0.bs b o e).1
  have lim:s.heap.NoLimit:=e0.mod.nolimit.keeps fun b o e=>(e0.bs b o e).1
  have hkind:∀ y∈ps.zip us,scope.names.lookup y.1 = some .local∨(scope.names.lookup y.1 = some .cell∧((cellsFrom (s.heap.objs.size + 1) scope.names []).lookup y.1).isSome = true):=fun ⟨n,v⟩ hy=>by
    rcases S.par n (List.of_mem_zip hy).1 with q | q
    · exact .inl q
    · exact .inr ⟨q,PySem.W.cellsFrom_some _ _ _ (.inl q)⟩
  refine codeAny_call_function hr.depth (KX _ _ lk) rfl S.co S.gen rfl (PySem.W.codeRec_of KX hcd) (hb _ _ _ _ ?_)
  refine wpAny_newFunctionEnv_cells S.kind hkind fun env he s1 x=>?_
  subst he
  refine ⟨lim.keeps x.toInCall.keep,codeAny_func ?_⟩
  obtain ⟨t,ht,hq⟩:=hbody A outer s H vs Q E (hr.deeper _) hsp
  have I:Inv (cxOf CX P w K mg base N qual scope f cdv A outer s H E) [] (start N vs) H s1:=inv_start S hr.hd e0 hl r x
  refine wpAny_mono (ht [] s1 (start N vs) H _ I hq) (fun fl s' hs=>?_) fun e s' hs=>hs
  have fin:∀ {σ':St} {H':Hp} {v:V} {u:Value},Inv (cxOf CX P w K mg base N qual scope f cdv A outer s H E) [] σ' H' s'→RelV v u→Q v H'→CE outer P w H s Q u s' :=
    fun {σ' H' v u} J rv q=>⟨v,H',J.os,J.bare,J.base,J.hok,rv,q⟩
  cases fl with
  | ret u =>
    obtain ⟨v,σ',H',J,rv,q⟩:=hs
    exact fin J rv q
  | next =>
    obtain ⟨σ',H',J,q⟩:=hs
    exact fin (v:=V.non) (u:=Value.none) J rfl q
  | brk =>
    obtain ⟨_,_,_,q⟩:=hs
    exact False.elim q
  | cont =>
    obtain ⟨_,_,_,q⟩:=hs
    exact False.elim q
end L2
namespace L2
open PySem PySem.Spec PyProof.Rows
section
variable {X:Cx} {x:Str} {p pos:Pos} {e:Expr} {es:List Expr} {t:TA} {id T:String} {r:List V→Hp→VK→Prop}
def tCB (r:List V→Hp→VK→Prop) (t:TA):TE:=fun σ H Q=>t σ H fun vs H1=>r vs H1 Q
theorem pe_callB (hc:CallR X (.builtin id) r) (hg:Gl X x) (hm:X.mg x = none) (hv:bootBuiltins x = some (.builtin id)) (ha:PA X (e :: es) t) (hn:x ≠ "__name__" := by decide) (hdb:(x == ("__debug__" : Str)) = false:=by decide)
    (he:starEach (e :: es) X.env = (false,eval e X.env) :: starEach es X.env:=by rfl) (hpl:(backTo pos (starEach es X.env)).any (·.1) = false:=by rfl):PE X (.Call (.Name x p) (e :: es) [] pos) (tCB r t):=by
  intro pins s σ H Q I h
  refine wpAny_Call_Name_kw (ld_blt I hg hm hv ?_ hn hdb)
  exact PyProof.Rows.callWith_builtin1 (thn (ha pos pins s σ H _ I h) fun us s1 ⟨vs,H1,I1,r1,q1⟩=>hc pins s1 σ H1 vs us Q I1 r1 q1) he hpl
theorem pe_callTy (hc:CallR X (.type T) r) (hg:Gl X x) (hm:X.mg x = none) (hv:bootBuiltins x = some (.type T)) (ha:PA X (e :: es) t) (hn:x ≠ "__name__" := by decide) (hdb:(x == ("__debug__" : Str)) = false:=by decide)
    (he:starEach (e :: es) X.env = (false,eval e X.env) :: starEach es X.env:=by rfl) (hpl:(backTo pos (starEach es X.env)).any (·.1) = false:=by rfl):PE X (.Call (.Name x p) (e :: es) [] pos) (tCB r t):=by
  intro pins s σ H Q I h
  refine wpAny_Call_Name_kw (ld_blt I hg hm hv ?_ hn hdb)
  exact PyProof.Rows.callWith_type1 (thn (ha pos pins s σ H _ I h) fun us s1 ⟨vs,H1,I1,r1,q1⟩=>hc pins s1 σ H1 vs us Q I1 r1 q1) he hpl
end
end L2
namespace HT
open PySem PyProof.Rows
section
open PySem.SeqAt
open PySem.AutoSeq1 (wpAny_loadPart')
open PySem.MeetsSeq PySem.MeetsSeq2 PySem.MeetsSeq3
end
section
variable {prog:Program} {w:World} {A:Around} {E:Value→Shared→Prop} {s:Shared}
def sIx (n d:Nat):Option Int→Nat
  | none=>d
  | some v=>if v < 0 then (v + (n:Int)).toNat else min v.toNat n
theorem sIx_none (n d:Nat):sIx n d none = d:=rfl
theorem sIx_nat (n d k:Nat):sIx n d (some (k:Int)) = min k n:=by
  show (if (k:Int) < 0 then ((k:Int) + (n:Int)).toNat else min (k:Int).toNat n) = min k n
  rw [if_neg (by omega),Int.toNat_natCast]
theorem sIx_le (n d:Nat) (hd:d≤n) (o:Option Int):sIx n d o≤n:=by
  cases o with
  | none=>exact hd
  | some v =>
    show (if v < 0 then (v + (n:Int)).toNat else min v.toNat n)≤n
    by_cases hv:v < 0
    · rw [if_pos hv]; omega
    · rw [if_neg hv]; exact Nat.min_le_right _ _
theorem clip_eq (v:Int) (n d:Nat):(if v < 0 then max (v + (n:Int)) 0 else min v (n:Int)) = ((sIx n d (some v):Nat):Int):=by
  show (if v < 0 then max (v + (n:Int)) 0 else min v (n:Int)) = (((if v < 0 then (v + (n:Int)).toNat else min v.toNat n):Nat):Int)
  by_cases hv:v < 0
  · simp only [if_pos hv]; omega
  · simp only [if_neg hv]; omega
theorem adjust_gen (lo hi:Option Int) (n:Nat):Builtin.Slice.sliceAdjust lo hi 1 (n:Int) = (((sIx n 0 lo:Nat):Int),((sIx n n hi:Nat):Int)):=by
  have h1:¬ ((1:Int) < 0):=by omega
  unfold Builtin.Slice.sliceAdjust
  simp only [h1,if_false]
  refine Prod.ext ?_ ?_
  · cases lo with
    | none=>rfl
    | some v=>exact clip_eq v n 0
  · cases hi with
    | none=>rfl
    | some v=>exact clip_eq v n n
theorem places_gen (i j:Nat):Builtin.Slice.slicePlaces (i:Int) (j:Int) 1 = j - i:=by
  unfold Builtin.Slice.slicePlaces
  have h1:(1:Int) > 0:=by omega
  simp only [h1,if_true,Int.ediv_one]
  split <;> omega
theorem slicePart_ {v:Value} {o:Option Int} {Q:Option Int→Shared→Prop} (p:IsPart v o) (h:Q o s):wpAny (model prog w) A (Builtin.Slice.slicePartIndex v) Q E s:=by
  cases p with
  | none=>exact slicePart_none h
  | int i t=>exact slicePart_int h
theorem sliceApplied_gen {sl:Addr} {vl vu:Value} {lo hi:Option Int} {n:Nat} {Q:Int × Int × Nat→Shared→Prop} (hs:s.heap.IsSliceOf sl vl vu .none) (pl:IsPart vl lo) (pu:IsPart vu hi)
    (h:Q (((sIx n 0 lo:Nat):Int),1,sIx n n hi - sIx n 0 lo) s):wpAny (model prog w) A (Builtin.Slice.sliceApplied (.ref sl) (pure (n:Int))) Q E s:=by
  obtain ⟨os,hos,hcs,hds⟩:=id hs
  unfold Builtin.Slice.sliceApplied Builtin.Slice.sliceFields
  refine wpAny_bind (wpAny_bind (wpAny_field hos hds (x:=vl) rfl (wpAny_bind (wpAny_field hos hds (x:=vu) rfl (wpAny_bind (wpAny_field hos hds (x:=.none) rfl (wpAny_pure ?_)))))))
  refine wpAny_bind (slicePart_none ?_)
  show wpAny _ _ (if ((1:Int) == 0) = true then _ else _) _ _ s
  rw [if_neg (by decide)]
  refine wpAny_bind (slicePart_ pl (wpAny_bind (slicePart_ pu (wpAny_bind (wpAny_pure ?_)))))
  show wpAny _ _ (match Builtin.Slice.sliceAdjust lo hi 1 (n:Int) with | (lo,hi)=>pure (lo,(1:Int),Builtin.Slice.slicePlaces lo hi 1)) _ _ s
  rw [adjust_gen lo hi n]
  show wpAny _ _ (pure (((sIx n 0 lo:Nat):Int),(1:Int),Builtin.Slice.slicePlaces ((sIx n 0 lo:Nat):Int) ((sIx n n hi:Nat):Int) 1)) _ _ s
  rw [places_gen]
  exact wpAny_pure h
theorem pick_gen (xs:Array Value) (i k:Nat):((List.range k).filterMap fun (m:Nat)=>xs[((i:Int) + (m:Int) * 1).toNat]?).toArray = ((xs.toList.drop i).take k).toArray:=by
  have e:(fun (m:Nat)=>xs[((i:Int) + (m:Int) * 1).toNat]?) = fun m=>xs[i + m]?:=by
    funext m
    have:((i:Int) + (m:Int) * 1).toNat = i + m:=by omega
    rw [this]
  rw [e]
  have:=pick_run xs i k
  rw [List.filterMap_map] at this
  have e2:((fun x=>xs[x]?) ∘ fun x=>i + x) = fun m=>xs[i + m]?:=rfl
  rw [e2] at this
  rw [this]
theorem getItem_tuple_cut {t sl:Addr} {items:Array Value} {vl vu:Value} {lo hi:Option Int} {Q:Value→Shared→Prop} (ht:IsTup s.heap t items) (hs:s.heap.IsSliceOf sl vl vu .none) (pl:IsPart vl lo) (pu:IsPart vu hi)
    (hw:¬ (sIx items.size 0 lo = 0∧sIx items.size items.size hi = items.size))
    (h:Q (.ref s.heap.objs.size) { s with heap:=s.heap.push { cls:=.type "tuple", data:=.seq ((items.toList.drop (sIx items.size 0 lo)).take (sIx items.size items.size hi - sIx items.size 0 lo)).toArray } })
    (hsz:items.size≤sizeLine):wpAny (model prog w) A (getItem (.ref t) (.ref sl)) Q E s:=by
  have htake:sizeOk (.seq ((items.toList.drop (sIx items.size 0 lo)).take (sIx items.size items.size hi - sIx items.size 0 lo)).toArray):=by
    show ((items.toList.drop (sIx items.size 0 lo)).take (sIx items.size items.size hi - sIx items.size 0 lo)).toArray.size≤sizeLine
    rw [List.size_toArray,List.length_take,List.length_drop,Array.length_toList]
    omega
  have hj:sIx items.size items.size hi≤items.size:=sIx_le _ _ (Nat.le_refl _) hi
  obtain ⟨os,hos,hcs,hds⟩:=id hs
  have hTs:s.TypeIs (.ref sl) "slice" := ⟨os,hos,hcs⟩
  unfold getItem
  try with_reducible refine wpAny_holding ?_
  first | refine wpAny_bind (wpAny_pure ?_) | skip
  refine wpAny_bind (wpAny_sequenceKey ht.typeIs (by decide) ?_)
  refine wpAny_bind (wpAny_callSpecial?_slot (name:=Str.ofString "__getitem__") ht.typeIs PyProof.Rows.slot_tuple_getitem
    (wpAny_call_entry PyProof.Rows.slot_tuple_getitem ht.typeIs entry_tuple_getitem ?_ (args_tuple_getitem _ _)))
  show wpAny _ _ (Builtin.Tuple.tupleItemsOf (.ref t) >>= _) _ _ s
  refine wpAny_bind (tupleItemsOf_ ht ?_)
  refine wpAny_bind (wpAny_typeOf hTs ?_)
  rw [if_pos (by decide)]
  refine wpAny_bind (sliceApplied_gen hs pl pu ?_)
  have hno:¬ ((((sIx items.size 0 lo:Nat):Int) == 0 && (1:Int) == 1 && (sIx items.size items.size hi - sIx items.size 0 lo) == items.size) = true):=by
    intro q
    rw [Bool.and_eq_true,Bool.and_eq_true] at q
    have q1:((sIx items.size 0 lo:Nat):Int) = 0:=eq_of_beq q.1.1
    have q2:sIx items.size items.size hi - sIx items.size 0 lo = items.size:=eq_of_beq q.2
    exact hw ⟨by omega,by omega⟩
  show wpAny _ _ (if (((sIx items.size 0 lo:Nat):Int) == 0 && (1:Int) == 1 && (sIx items.size items.size hi - sIx items.size 0 lo) == items.size) = true then _ else _) _ _ s
  rw [if_neg hno,pick_gen]
  first
    | exact wpAny_bind (m:=Builtin.Tuple.tupleExact _) (wpAny_newObj_type (wpAny_pure ⟨_,rfl,wpAny_pure h⟩) htake)
    | exact wpAny_bind (m:=Builtin.Tuple.tupleExact _) (wpAny_newObj_type (wpAny_bind (wpAny_pure (wpAny_pure ⟨_,rfl,wpAny_pure h⟩))) htake)
    | exact wpAny_bind (wpAny_bind (m:=Builtin.Tuple.tupleExact _) (wpAny_newObj_type (wpAny_pure (wpAny_pure ⟨_,rfl,wpAny_pure h⟩)) htake))
    | exact wpAny_bind (wpAny_bind (m:=Builtin.Tuple.tupleExact _) (wpAny_newObj_type (wpAny_pure ⟨_,rfl,wpAny_pure h⟩) htake))
end
end HT
namespace L2
open PySem PySem.Spec PyProof.Rows
abbrev TO:=St→Hp→(Option Int→Hp→Prop)→Prop
def PO (X:Cx) (e:Option Expr) (t:TO):Prop :=
  ∀ (pins:List (Addr × Obj)) (s:Shared) (σ:St) (H:Hp) (Q:Option Int→Hp→Prop),Inv X pins σ H s→t σ H Q →
    wpAny (model X.prog X.w) X.A (evalPart e X.env) (fun u s'=>∃ o H',Inv X pins σ H' s'∧IsPart u o∧Q o H') X.xe s
def tNoPart:TO:=fun _ H Q=>Q none H
def tPart (t:TE):TO:=fun σ H Q=>t σ H fun x H1=>∃ i,x = .int i∧Q (some i) H1
section
variable {X:Cx} {e:Expr} {te:TE} {lo hi:Option Expr} {tl th:TO} {pos p2:Pos}
theorem po_none:PO X none tNoPart:=by
  intro pins s σ H Q I h
  rw [evalPart_none]
  exact wpAny_pure ⟨none,H,I,.none,h⟩
theorem po_some (h:PE X e te):PO X (some e) (tPart te):=by
  intro pins s σ H Q I hw
  rw [evalPart_some]
  refine thn (h pins s σ H _ I hw) fun u s1 ⟨x,H1,I1,r1,q1⟩=>?_
  obtain ⟨i,rfl,q⟩:=q1
  obtain ⟨t,rfl⟩:=r1
  exact ⟨some i,H1,I1,.int i t,q⟩
def SlR (X:Cx) (r:V→Option Int→Option Int→Hp→VK→Prop):Prop :=
  ∀ (pins:List (Addr × Obj)) (s:Shared) (σ:St) (H:Hp) (x:V) (v vl vu:Value) (lo hi:Option Int) (sl:Addr) (Q:VK),Inv X pins σ H s→RelV x v→s.heap.IsSliceOf sl vl vu .none→IsPart vl lo→IsPart vu hi→r x lo hi H Q →
    ∃ T id,typeLookup (.type T) "__getitem__" = pure (some (.builtin id))∧s.TypeIs v T∧wpAny (model X.prog X.w) X.A (getItem v (.ref sl)) (EP X pins σ Q) X.xe s
def tSl (r:V→Option Int→Option Int→Hp→VK→Prop) (te:TE) (tl th:TO):TE:=fun σ H Q=>te σ H fun x H1=>tl σ H1 fun l H2=>th σ H2 fun u H3=>r x l u H3 Q
theorem pe_slice {r:V→Option Int→Option Int→Hp→VK→Prop} (hr:SlR X r) (he:PE X e te) (hl:PO X lo tl) (hu:PO X hi th):PE X (.Subscript e (.Slice lo hi none p2) pos) (tSl r te tl th):=by
  intro pins s σ H Q I h
  refine Subscript_ (thn (he pins s σ H _ I h) fun v s1 ⟨x,H1,I1,r1,q1⟩=>?_)
  refine wpAny_Slice (thn (hl pins s1 σ H1 _ I1 q1) fun vl s2 ⟨l,H2,I2,pl,q2⟩=>thn (hu pins s2 σ H2 _ I2 q2) fun vu s3 ⟨u,H3,I3,pu,q3⟩=>?_)
  rw [evalPart_none]
  refine wpAny_pure ?_
  have I4:Inv X pins σ H3 { s3 with heap:=s3.heap.push { cls:=.type "slice", data:=.fields #[vl,vu,.none] } }:=I3.kept (t':=s3.toks) fun b ob q=>Heap.get?_push_of_some _ q
  obtain ⟨T,id,hT,ht,hg⟩:=hr pins { s3 with heap:=s3.heap.push { cls:=.type "slice", data:=.fields #[vl,vu,.none] } } σ H3 x v vl vu l u s3.heap.objs.size Q I4 r1 (Heap.IsSliceOf.new ..) pl pu q3
  show wpAny (model X.prog X.w) X.A (subscriptTail e (.Slice lo hi none p2) v (.ref s3.heap.objs.size)) (EP X pins σ Q) X.xe { s3 with heap:=s3.heap.push { cls:=.type "slice", data:=.fields #[vl,vu,.none] } }
  exact tail_any (ops:=[.ref s3.heap.objs.size,v]) ht hT hg (by with_unfolding_all rfl)
def cutV (xs:List V) (lo hi:Option Int):List V:=(xs.drop (HT.sIx xs.length 0 lo)).take (HT.sIx xs.length xs.length hi - HT.sIx xs.length 0 lo)
theorem cutV_length (xs:List V) (lo hi:Option Int):(cutV xs lo hi).length≤xs.length:=by
  unfold cutV
  rw [List.length_take,List.length_drop]
  omega
def rSlT (K:PySem.W.Frag):V→Option Int→Option Int→Hp→VK→Prop:=fun x lo hi H Q=>∃ a xs,x = .ref a∧SqT K H a xs ∧
  ¬ (HT.sIx xs.length 0 lo = 0∧HT.sIx xs.length xs.length hi = xs.length)∧∀ p,H p = none→Q (.ref p) (upd H p (.tup (cutV xs lo hi)))
theorem sl_tup:SlR X (rSlT X.K):=by
  intro pins s σ H x v vl vu lo hi sl Q I rx hs pl pu h
  obtain ⟨a,xs,rfl,hx,hw,q⟩:=h
  cases rx
  obtain ⟨its,r,ht,hz⟩:=I.tuple hx
  have hlen:its.toArray.size = xs.length:=by rw [List.size_toArray]; exact r.length.symm
  refine ⟨"tuple", _,PyProof.Rows.slot_tuple_getitem.lookup,ht.typeIs,?_⟩
  refine HT.getItem_tuple_cut ht hs pl pu (by rw [hlen]; exact hw) ?_ (by rw [hlen]; exact hz)
  rw [hlen]
  refine ⟨.ref s.heap.objs.size,_,I.laid (t':=s.toks) (o:=.tup (cutV xs lo hi)) (fun b ob q=>Heap.get?_push_of_some _ q) (Nat.le_refl _) ?_,rfl,q _ (I.hok.fresh (Nat.le_refl _))⟩
  exact ⟨Nat.le_trans (cutV_length xs lo hi) hz,_,(r.drop (HT.sIx xs.length 0 lo)).take (HT.sIx xs.length xs.length hi - HT.sIx xs.length 0 lo),IsTup.new _ _⟩
end
end L2
namespace L2
open PySem PySem.Spec PyProof.Rows
def ixN (n:Nat) (i:Int):Option Nat:=if 0≤i then (if i < n then some i.toNat else none) else if -(n:Int)≤i then some (i + n).toNat else none
def atI {α:Type} (xs:List α) (i:Int):Option α:=(ixN xs.length i).bind fun j=>xs[j]?
theorem ixN_seq {n:Nat} {i:Int} {j:Nat} (h:ixN n i = some j):seqIndex? i n = some j∧j < n∧-(n:Int)≤i∧i < n:=by
  unfold ixN at h
  by_cases h0:0≤i
  · rw [if_pos h0] at h
    by_cases h1:i < n
    · rw [if_pos h1] at h
      have e:i.toNat = j:=Option.some.inj h
      exact ⟨by rw [seqIndex_of h0 h1,e],by omega,by omega,h1⟩
    · rw [if_neg h1] at h; cases h
  · rw [if_neg h0] at h
    by_cases h1:-(n:Int)≤i
    · rw [if_pos h1] at h
      have e:(i + n).toNat = j:=Option.some.inj h
      exact ⟨by rw [seqIndex_neg (by omega) h1,e],by omega,h1,by omega⟩
    · rw [if_neg h1] at h; cases h
theorem atI_get {α:Type} {xs:List α} {i:Int} {v:α} (h:atI xs i = some v):∃ j,seqIndex? i xs.length = some j∧xs[j]? = some v∧j < xs.length∧-(xs.length:Int)≤i∧i < xs.length:=by
  unfold atI at h
  cases e:ixN xs.length i with
  | none=>rw [e] at h; cases h
  | some j =>
    rw [e] at h
    obtain ⟨h1,h2,h3,h4⟩:=ixN_seq e
    exact ⟨j,h1,h,h2,h3,h4⟩
theorem atI_nat {α:Type} {xs:List α} {j:Nat} {v:α} (h:xs[j]? = some v):atI xs (j:Int) = some v:=by
  have hj:j < xs.length:=(List.getElem?_eq_some_iff.mp h).1
  have e:ixN xs.length (j:Int) = some j:=by
    unfold ixN
    rw [if_pos (by omega),if_pos (by omega)]; simp
  unfold atI; rw [e]; exact h
def PlainIx (b:Expr):Prop:=∀ o i,subscripted b false o i = operate [o,i] (getItem o i)
def IxR (X:Cx) (r:R2):Prop :=
  ∀ (value slice:Expr) (pins:List (Addr × Obj)) (s:Shared) (σ:St) (H:Hp) (x y:V) (v u:Value) (Q:VK),Inv X pins σ H s→RelV x v→RelV y u→r x y H Q →
    subscripted slice false v u = operate [v,u] (getItem v u)→wpAny (model X.prog X.w) X.A (subscriptTail value slice v u) (EP X pins σ Q) X.xe s
def MtR (X:Cx) (id:String) (r:V→List V→Hp→VK→Prop):Prop :=
  ∀ (pins:List (Addr × Obj)) (s:Shared) (σ:St) (H:Hp) (x:V) (xs:List V) (v:Value) (us:List Value) (Q:VK),Inv X pins σ H s→RelV x v→Vals xs us→r x xs H Q →
    wpAny (model X.prog X.w) X.A (call (.builtin id) (v :: us)) (EP X pins σ Q) X.xe s
section
variable {X:Cx} {a b:Expr} {ta tb:TE} {pos:Pos}
theorem pe_ix {r:R2} (hr:IxR X r) (ha:PE X a ta) (hb:PE X b tb) (hs:PlainIx b):PE X (.Subscript a b pos) (tOp r ta tb):=by
  intro pins s σ H Q I h
  exact Subscript_ (binT ha hb I h fun v u s2 x y H2 I2 rx ry q=>hr a b pins s2 σ H2 x y v u Q I2 rx ry q (hs _ _))
def rIxL (K:PySem.W.Frag):R2:=fun x y H Q=>∃ p xs i v,x = .ref p∧y = .int i∧SqL K H p xs∧atI xs i = some v∧Q v H
def rIxT (K:PySem.W.Frag):R2:=fun x y H Q=>∃ p xs i v,x = .ref p∧y = .int i∧SqT K H p xs∧atI xs i = some v∧Q v H
def rIxS:R2:=fun x y H Q=>∃ z i c,x = .str z∧y = .int i∧z.length≤sizeLine∧atI z.cps.toList i = some c∧Q (.str ⟨#[c]⟩) H
theorem ix_list:IxR X (rIxL X.K):=by
  intro value slice pins s σ H x y v u Q I rx ry h hs
  obtain ⟨p,xs,i,z,rfl,rfl,hq,he,q⟩:=h
  cases rx
  obtain ⟨t,rfl⟩:=ry
  obtain ⟨its,r,pl,hz⟩:=I.list hq
  obtain ⟨j,h1,h2,h3,h4,h5⟩:=atI_get he
  obtain ⟨w,ew,rw'⟩:=r.get h2
  have hl:=r.length
  have hn:=line63
  have fin:EP X pins σ Q w s:=⟨z,H,I,rw',q⟩
  by_cases h0:0≤i
  · have hj:i.toNat = j:=by
      rw [seqIndex_of h0 h5] at h1
      exact Option.some.inj h1
    exact item_listR pl.isList h0 (by omega) (by rw [hj]; simpa using ew) fin hs
  · have hj:(i + (its.toArray.size:Int)).toNat = j:=by
      rw [seqIndex_neg (by omega) h4] at h1
      rw [List.size_toArray,← hl]
      exact Option.some.inj h1
    exact subscriptTail_builtinR (x:=w) pl.isList.typeIs slot_list_getitem.lookup
      (wpAny_getItem_list_neg (Q:=fun r s'=>r = w∧EP X pins σ Q r s') pl.isList (by omega) (by rw [List.size_toArray] <;> omega) (by omega) (by rw [hj]; simpa using ew) ⟨rfl,fin⟩) hs
theorem ix_tup:IxR X (rIxT X.K):=by
  intro value slice pins s σ H x y v u Q I rx ry h hs
  obtain ⟨p,xs,i,z,rfl,rfl,hq,he,q⟩:=h
  cases rx
  obtain ⟨t,rfl⟩:=ry
  obtain ⟨its,r,pl,hz⟩:=I.tuple hq
  obtain ⟨j,h1,h2,h3,h4,h5⟩:=atI_get he
  obtain ⟨w,ew,rw'⟩:=r.get h2
  have hl:=r.length
  have hn:=line63
  have fin:EP X pins σ Q w s:=⟨z,H,I,rw',q⟩
  exact subscriptTail_builtinR (x:=w) pl.typeIs slot_tuple_getitem.lookup
    (getItem_tuple (j:=j) (Q:=fun r s'=>r = w∧EP X pins σ Q r s') pl (by omega) (by omega) (by rw [List.size_toArray,← hl]; exact h1) (by simpa using ew) ⟨rfl,fin⟩) hs
theorem ix_str:IxR X rIxS:=by
  intro value slice pins s σ H x y v u Q I rx ry h hs
  obtain ⟨z,i,c,rfl,rfl,hz,he,q⟩:=h
  obtain ⟨t,rfl⟩:=rx
  obtain ⟨t',rfl⟩:=ry
  obtain ⟨j,h1,h2,h3,h4,h5⟩:=atI_get he
  have hl:z.cps.toList.length = z.length:=by simp [Str.length]
  rw [hl] at h1 h4 h5
  have hn:=line63
  exact tail_any (typeIs_str s z t) slot_str_getitem.lookup (getItem_str (c:=c) (by
    have e1:decide (i < -(2 ^ 63:Int)) = false:=decide_eq_false (by omega)
    have e2:decide (i ≥ 2 ^ 63) = false:=decide_eq_false (by omega)
    rw [e1,e2,Bool.or_false]) (by rw [h1]; simpa using h2) ⟨.str ⟨#[c]⟩,H,I.tok _,⟨_,rfl⟩,q⟩) hs
theorem slice_bounds (lo hi:Option Int) (n:Nat):(sliceBounds lo hi none n).1 = ((HT.sIx n 0 lo:Nat):Int)∧(sliceBounds lo hi none n).2.1 = ((HT.sIx n n hi:Nat):Int)∧(sliceBounds lo hi none n).2.2 = 1:=by
  refine ⟨?_,?_,rfl⟩
  · cases lo with
    | none=>simp [sliceBounds,HT.sIx]
    | some i =>
      simp only [sliceBounds,HT.sIx,Option.getD_none,show (1:Int) > 0 by decide,if_true]
      by_cases h:i < 0
      · simp only [h,if_true] <;> omega
      · simp only [h,if_false] <;> omega
  · cases hi with
    | none=>simp [sliceBounds,HT.sIx]
    | some i =>
      simp only [sliceBounds,HT.sIx,Option.getD_none,show (1:Int) > 0 by decide,if_true]
      by_cases h:i < 0
      · simp only [h,if_true] <;> omega
      · simp only [h,if_false] <;> omega
theorem slicePick_cut (its:List Value) (lo hi:Option Int):slicePick its.toArray lo hi none = ((its.drop (HT.sIx its.length 0 lo)).take (HT.sIx its.length its.length hi - HT.sIx its.length 0 lo)).toArray:=by
  obtain ⟨h1,h2,h3⟩:=slice_bounds lo hi its.toArray.size
  unfold slicePick
  rw [h1,h2,h3]
  simp only [sliceRange_one,pick_run,List.size_toArray] <;> rfl
def rSlL (K:PySem.W.Frag):V→Option Int→Option Int→Hp→VK→Prop:=fun x lo hi H Q=>∃ a xs,x = .ref a∧SqL K H a xs∧∀ p,H p = none→Q (.ref p) (upd H p (.lst (cutV xs lo hi)))
theorem sl_list:SlR X (rSlL X.K):=by
  intro pins s σ H x v vl vu lo hi sl Q I rx hs pl pu h
  obtain ⟨a,xs,rfl,hx,q⟩:=h
  cases rx
  obtain ⟨its,r,ht,hz⟩:=I.list hx
  have hlen:=r.length
  refine ⟨"list", _,slot_list_getitem.lookup,ht.isList.typeIs,?_⟩
  refine wpAny_getItem_list_slice ht.isList hs pl pu .none (by simp) ?_ (by rw [List.size_toArray] <;> omega)
  rw [slicePick_cut,← hlen]
  refine ⟨.ref s.heap.objs.size,_,I.laid (t':=s.toks) (o:=.lst (cutV xs lo hi)) (fun b ob q=>Heap.get?_push_of_some _ q) (Nat.le_refl _) ?_,rfl,q _ (I.hok.fresh (Nat.le_refl _))⟩
  exact ⟨Nat.le_trans (cutV_length xs lo hi) hz,_,0,(r.drop (HT.sIx xs.length 0 lo)).take (HT.sIx xs.length xs.length hi - HT.sIx xs.length 0 lo),Heap.get?_push_size _ rfl⟩
def flatV:V→Bool
  | .non=>true
  | .bl _=>true
  | .int _=>true
  | .str _=>true
  | _=>false
def eqV:V→V→Bool
  | .non,.non=>true
  | .bl a,.bl b=>a == b
  | .bl a,.int b=>(if a then 1 else 0) == b
  | .int a,.bl b=>a == (if b then 1 else 0)
  | .int a,.int b=>a == b
  | .str a,.str b=>a == b
  | _,_=>false
theorem eqAt_V {A:Around} {s:Shared} {y x:V} {u v:Value} (ry:RelV y u) (rx:RelV x v) (fy:flatV y = true) (fx:flatV x = true):SeqAt.EqAt A s u v (eqV y x):=by
  cases y with
  | non =>
    cases ry
    cases x with
    | non=>cases rx; exact SeqAt.EqAt.same _
    | bl b=>cases rx; exact SeqAt.EqAt.none_bool b
    | int b=>obtain ⟨t,rfl⟩:=rx; exact SeqAt.EqAt.none_int b t
    | str b=>obtain ⟨t,rfl⟩:=rx; exact SeqAt.EqAt.none_str b t
    | _=>exact absurd (show false = true from fx) Bool.false_ne_true
  | bl a =>
    cases ry
    cases x with
    | non=>cases rx; exact SeqAt.EqAt.bool_none a
    | bl b=>cases rx; exact SeqAt.EqAt.bool_bool a b
    | int b=>obtain ⟨t,rfl⟩:=rx; exact SeqAt.EqAt.bool_int a b t
    | str b=>obtain ⟨t,rfl⟩:=rx; exact SeqAt.EqAt.bool_str a b t
    | _=>exact absurd (show false = true from fx) Bool.false_ne_true
  | int a =>
    obtain ⟨t',rfl⟩:=ry
    cases x with
    | non=>cases rx; exact SeqAt.EqAt.int_none a t'
    | bl b=>cases rx; exact SeqAt.EqAt.int_bool a t' b
    | int b=>obtain ⟨t,rfl⟩:=rx; exact SeqAt.EqAt.int_int a t' b t
    | str b=>obtain ⟨t,rfl⟩:=rx; exact SeqAt.EqAt.int_str a t' b t
    | _=>exact absurd (show false = true from fx) Bool.false_ne_true
  | str a =>
    obtain ⟨t',rfl⟩:=ry
    cases x with
    | non=>cases rx; exact SeqAt.EqAt.str_none a t'
    | bl b=>cases rx; exact SeqAt.EqAt.str_bool a t' b
    | int b=>obtain ⟨t,rfl⟩:=rx; exact SeqAt.EqAt.str_int a t' b t
    | str b=>obtain ⟨t,rfl⟩:=rx; exact SeqAt.EqAt.str_str a t' b t
    | _=>exact absurd (show false = true from fx) Bool.false_ne_true
  | _=>exact absurd (show false = true from fy) Bool.false_ne_true
def eqU (x:V) (u:Value):Bool:=match u with
  | .none=>eqV .non x
  | .bool b=>eqV (.bl b) x
  | .int i _=>eqV (.int i) x
  | .str z _=>eqV (.str z) x
  | _=>false
theorem eqU_of {x y:V} {u:Value} (r:RelV y u) (f:flatV y = true):eqU x u = eqV y x:=by
  cases y with
  | non=>cases r; rfl
  | bl b=>cases r; rfl
  | int i=>obtain ⟨t,rfl⟩:=r; rfl
  | str z=>obtain ⟨t,rfl⟩:=r; rfl
  | _=>exact absurd (show false = true from f) Bool.false_ne_true
theorem any_eqU {x:V}:∀ {xs:List V} {us:List Value},Vals xs us→xs.all flatV = true→us.any (eqU x) = xs.any fun y=>eqV y x
  | _,_,.nil,_=>rfl
  | y :: xs,u :: us,.cons r t,f=>by
    rw [List.all_cons,Bool.and_eq_true] at f
    rw [List.any_cons,List.any_cons,eqU_of r f.1,any_eqU t f.2]
theorem mem_eqAt {A:Around} {s:Shared} {x:V} {v:Value} (rx:RelV x v) (fx:flatV x = true):∀ {xs:List V} {us:List Value},Vals xs us→xs.all flatV = true→∀ u∈us,SeqAt.EqAt A s u v (eqU x u)
  | _,_,.nil,_=>fun u hu=>by cases hu
  | y :: xs,u :: us,.cons r t,f=>fun u' hu=>by
    rw [List.all_cons,Bool.and_eq_true] at f
    rcases List.mem_cons.mp hu with rfl | hu
    · rw [eqU_of r f.1]; exact eqAt_V r rx f.1 fx
    · exact mem_eqAt rx fx t f.2 u' hu
def inV (x:V) (xs:List V):Bool:=xs.any fun y=>eqV y x
def rIn (K:PySem.W.Frag) (neg:Bool):R2:=fun x y H Q=>∃ p xs,y = .ref p∧(SqL K H p xs∨SqT K H p xs)∧flatV x = true∧xs.all flatV = true∧Q (.bl (if neg then !inV x xs else inV x xs)) H
theorem op_in_seq:OpR X (compareOp .In) (rIn X.K false):=by
  intro pins s σ H x y v u Q I rx ry h
  obtain ⟨p,xs,rfl,hq,fx,fs,q⟩:=h
  cases ry
  rcases hq with hq | hq
  · obtain ⟨its,r,pl,hz⟩:=I.list hq
    refine SeqAt.in_listAt (eqU x) pl.isList (fun w hw=>mem_eqAt rx fx r fs w (by simpa using hw)) ⟨.bl _,H,I,rfl,?_⟩
    rw [show its.toArray.any (eqU x) = its.any (eqU x) by simp,any_eqU r fs]
    exact q
  · obtain ⟨its,r,pl,hz⟩:=I.tuple hq
    refine SeqAt.in_tupleAt (eqU x) pl (fun w hw=>mem_eqAt rx fx r fs w (by simpa using hw)) ⟨.bl _,H,I,rfl,?_⟩
    rw [show its.toArray.any (eqU x) = its.any (eqU x) by simp,any_eqU r fs]
    exact q
theorem op_notIn_seq:OpR X (compareOp .NotIn) (rIn X.K true):=by
  intro pins s σ H x y v u Q I rx ry h
  obtain ⟨p,xs,rfl,hq,fx,fs,q⟩:=h
  cases ry
  rcases hq with hq | hq
  · obtain ⟨its,r,pl,hz⟩:=I.list hq
    refine SeqAt.notIn_listAt (eqU x) pl.isList (fun w hw=>mem_eqAt rx fx r fs w (by simpa using hw)) ⟨.bl _,H,I,rfl,?_⟩
    rw [show its.toArray.any (eqU x) = its.any (eqU x) by simp,any_eqU r fs]
    exact q
  · obtain ⟨its,r,pl,hz⟩:=I.tuple hq
    refine SeqAt.notIn_tupleAt (eqU x) pl (fun w hw=>mem_eqAt rx fx r fs w (by simpa using hw)) ⟨.bl _,H,I,rfl,?_⟩
    rw [show its.toArray.any (eqU x) = its.any (eqU x) by simp,any_eqU r fs]
    exact q
theorem call_len_seq:CallR X (.builtin "len") (fun xs H Q=>∃ p ys,xs = [.ref p]∧(SqL X.K H p ys∨SqT X.K H p ys)∧Q (.int ys.length) H):=by
  intro pins s σ H xs us Q I r h
  obtain ⟨p,ys,rfl,hq,q⟩:=h
  obtain ⟨u,rfl,rx⟩:=vals1 r
  cases rx
  have hn:=line63
  rcases hq with hq | hq
  · obtain ⟨its,r',pl,hz⟩:=I.list hq
    have hlen:=r'.length
    exact Calls.call_len_list pl.isList (by simp only [List.size_toArray] <;> omega) ⟨.int ys.length,H,I.tok _,⟨s.toks + 1,by rw [List.size_toArray,hlen]⟩,q⟩
  · obtain ⟨its,r',pl,hz⟩:=I.tuple hq
    have hlen:=r'.length
    exact len_tuple pl (by simp only [List.size_toArray] <;> omega) ⟨.int ys.length,H,I.tok _,⟨s.toks + 1,by rw [List.size_toArray,hlen]⟩,q⟩
theorem call_list_of:CallR X (.type "list") (fun xs H Q=>∃ p ys,xs = [.ref p]∧(SqL X.K H p ys∨SqT X.K H p ys)∧∀ l,H l = none→Q (.ref l) (upd H l (.lst ys))):=by
  intro pins s σ H xs us Q I r h
  obtain ⟨p,ys,rfl,hq,q⟩:=h
  obtain ⟨u,rfl,rx⟩:=vals1 r
  cases rx
  have fin:∀ (its:List Value),Vals ys its→ys.length≤sizeLine→∀ (h':Heap) (c':Nat),(∀ b o',s.heap.get? b = some o'→h'.get? b = some o') →
      h'.get? s.heap.objs.size = some { cls:=.type "list", dict:=none,data:=.seq its.toArray c',slots:=#[] }→EP X pins σ Q (.ref s.heap.objs.size) { s with heap:=h' }:=fun its r' hz h' c' kp e =>
    ⟨.ref s.heap.objs.size,_,I.laid (t':=s.toks) kp (Nat.le_refl _) (show ObjOk X.prog X.w _ h' _ (.lst ys) from ⟨hz,its,c',r',e⟩),rfl,q _ (I.hok.fresh (Nat.le_refl _))⟩
  rcases hq with hq | hq
  · obtain ⟨its,r',pl,hz⟩:=I.list hq
    have hlen:=r'.length
    obtain ⟨o,ho,hc,n,hd⟩:=pl.isList
    exact call_list_seq p (.inl rfl) ho hc hd (fun h' c' kp e=>fin its r' hz h' c' kp e) (by simp only [List.size_toArray] <;> omega)
  · obtain ⟨its,r',pl,hz⟩:=I.tuple hq
    have hlen:=r'.length
    obtain ⟨o,ho,hc,n,hd⟩:=pl
    exact call_list_seq p (.inr rfl) ho hc hd (fun h' c' kp e=>fin its r' hz h' c' kp e) (by simp only [List.size_toArray] <;> omega)
def tyV (K:PySem.W.Frag) (T:String) (x:V) (H:Hp):Prop:=match x with
  | .str _=>T = "str"
  | .int _=>T = "int"
  | .ref p=>(T = "list" ∧ ∃ xs,SqL K H p xs)∨(T = "tuple" ∧ ∃ o,K.lookup p = some o∧o.cls = .type "tuple" ∧ o.dict = none) ∨
      (T = "dict" ∧ ((∃ kvs,H p = some (.dK kvs))∨∃ kvs,H p = some (.dT kvs)))∨(T = "set" ∧ ∃ S n,H p = some (.set S n))
  | _=>False
theorem tyV_is {pins:List (Addr × Obj)} {σ:St} {H:Hp} {s:Shared} {T:String} {x:V} {v:Value} (I:Inv X pins σ H s) (r:RelV x v) (ty:tyV X.K T x H) :
    s.TypeIs v T∧∀ a,v = .ref a→∃ ob,s.heap.get? a = some ob∧ob.dict = none:=by
  cases x with
  | str z =>
    obtain ⟨t,rfl⟩:=r
    cases (show T = "str" from ty)
    exact ⟨typeIs_str s z t,fun _ e=>nomatch e⟩
  | int i =>
    obtain ⟨t,rfl⟩:=r
    cases (show T = "int" from ty)
    exact ⟨typeIs_int s i t,fun _ e=>nomatch e⟩
  | ref p =>
    cases r
    rcases ty with ⟨rfl,xs,hq⟩ | ⟨rfl,o,hk,hc,hd⟩ | ⟨rfl,hk⟩ | ⟨rfl,S,n,hk⟩
    · obtain ⟨its,_,pl,_⟩:=I.list hq
      refine ⟨pl.isList.typeIs,fun a e=>?_⟩
      cases e
      obtain ⟨o,n,e,c,hd,_⟩:=pl
      exact ⟨o,e,hd⟩
    · refine ⟨⟨o,I.kIn p o hk,hc⟩,fun a e=>?_⟩
      cases e
      exact ⟨o,I.kIn _ o hk,hd⟩
    · have z:∃ o,s.heap.get? p = some o∧o.ExactDict:=by
        rcases hk with ⟨kvs,hk⟩ | ⟨kvs,hk⟩
        · obtain ⟨_,_,_,_,o,_,_,e,ex,_⟩:=I.hok p _ hk
          exact ⟨o,e,ex⟩
        · obtain ⟨_,_,_,_,o,_,_,e,ex,_⟩:=I.hok p _ hk
          exact ⟨o,e,ex⟩
      obtain ⟨o,e,ex⟩:=z
      refine ⟨⟨o,e,ex.1⟩,fun a e2=>?_⟩
      cases e2
      exact ⟨o,e,ex.2.1⟩
    · obtain ⟨o,_,_,_,e,ex,_⟩:=I.hok p _ hk
      refine ⟨⟨o,e,ex.1⟩,fun a e2=>?_⟩
      cases e2
      exact ⟨o,e,ex.2.1⟩
  | _=>exact False.elim ty
def tBM (K:PySem.W.Frag) (T:String) (r:V→List V→Hp→VK→Prop) (to:TE) (t:TA):TE:=fun σ H Q=>to σ H fun x H1=>tyV K T x H1∧t σ H1 fun xs H2=>r x xs H2 Q
variable {o e:Expr} {es:List Expr} {to:TE} {t:TA} {name:Str} {apos cpos:Pos} {T id:String} {r:V→List V→Hp→VK→Prop}
theorem pe_bm (pa:PlainAttrs T) (slot:Slot T name id) (hty:typeOf (.builtin id) = pure (.type "method_descriptor")) (hm:MtR X id r) (ho:PE X o to) (ha:PA X (e :: es) t)
    (hbase:attributeBase o name X.env (eval o X.env) = eval o X.env:=by rfl)
    (hfew:((backTo cpos (starEach (e :: es) X.env)).all (fun x=>!x.1) && (backToKw cpos (keywordEach [] X.env)).all (fun x=>x.1.isSome)
      && decide ((e :: es).length + ([]:List Keyword).length + (if ([]:List Keyword).isEmpty then 0 else 1) < 30)) = true:=by rfl)
    (hline:(apos.endLine == cpos.line) = true:=by rfl) (hs:starEach (e :: es) X.env = (false,eval e X.env) :: starEach es X.env:=by rfl) (hplain:(backTo cpos (starEach es X.env)).any (·.1) = false:=by rfl) :
    PE X (.Call (.Attribute o name apos) (e :: es) [] cpos) (tBM X.K T r to t):=by
  intro pins s σ H Q I h
  refine wpAny_Call_method_late hbase hfew hline rfl (thn (ho pins s σ H _ I h) fun v s1 ⟨x,H1,I1,r1,ty,q1⟩=>?_)
  obtain ⟨h1,h2⟩:=tyV_is I1 r1 ty
  refine ⟨T,id,pa,slot,hty,h1,h2,?_⟩
  have hA:=ha cpos pins s1 σ H1 _ I1 q1
  rw [hs] at hA ⊢
  refine Calls.callWith_builtin (by show (false || (backTo cpos (starEach es X.env)).any (·.1)) = false; rw [hplain] <;> rfl) (Calls.evalArgs_plain ?_)
  exact thn hA fun us s2 ⟨vs,H2,I2,r2,q2⟩=>hm pins s2 σ H2 x vs v us Q I2 r1 r2 q2
/- xs.append(e),list.index on a module's tuple .. are MtR facts of 06m -/
end
end L2
namespace L2
open PySem PySem.Spec PyProof.Rows
def MtM (X:Cx) (id:String) (r:V→List V→Hp→VK→Prop):Prop :=
  ∀ (pins:List (Addr × Obj)) (s:Shared) (σ:St) (H:Hp) (x:V) (xs:List V) (v:Value) (us:List Value) (Q:VK),Inv X pins σ H s→RelV x v→Vals xs us→r x xs H Q →
    wpAny (model X.prog X.w) X.A (call (.builtin id) (v :: us)) (EP X pins σ Q) X.xe s
theorem Vals.one:∀ {x:V} {us:List Value},Vals [x] us→∃ u,us = [u]∧RelV x u
  | _,_,.cons r .nil=>⟨_,rfl,r⟩
theorem Vals.two:∀ {x y:V} {us:List Value},Vals [x,y] us→∃ u v,us = [u,v]∧RelV x u∧RelV y v
  | _,_,_,.cons r (.cons q .nil)=>⟨_,_,rfl,r,q⟩
section
variable {X:Cx} {pins:List (Addr × Obj)} {σ:St} {H:Hp} {s:Shared} {l b:Addr} {xs ys zs:List V}
theorem Inv.lset {its its':List Value} {n:Nat} {f:Array Value→Array Value} {t':Nat} (I:Inv X pins σ H s) (hH:H l = some (.lst xs))
    (e:s.heap.get? l = some { cls:=.type "list", data:=.seq its.toArray n }) (hf:f its.toArray = its'.toArray) (hv:Vals ys its') (hz:ys.length≤sizeLine) :
    Inv X pins σ (upd H l (.lst ys)) { s with heap:=s.heap.update l (Obj.mapSeq f),toks:=t' }:=by
  have q:=PySem.IsL.update e f
  rw [hf] at q
  refine I.write (x:=l) (e:=l) (by rw [hH]; exact trivial) (.inl rfl) (fun b' u hb hu=>(Heap.get?_update_other s.heap (Obj.mapSeq f) (Ne.symm hb)).trans hu) ⟨_,q⟩ ?_
  exact ⟨hz,its',_,hv,q⟩
theorem Inv.lstM (I:Inv X pins σ H s) (hH:H l = some (.lst xs)):xs.length≤sizeLine∧∃ (its:List Value) (n:Nat),Vals xs its∧xs.length = its.length∧s.heap.get? l = some { cls:=.type "list", data:=.seq its.toArray n }:=by
  obtain ⟨z,its,n,r,e⟩:=I.hok l _ hH
  exact ⟨z,its,n,r,r.length,e⟩
theorem notLongL {n:Nat} (h:n≤sizeLine):Builtin.List.listTooLong n = false:=by
  unfold Builtin.List.listTooLong
  exact decide_eq_false (by omega)
end
section
variable {X:Cx}
def rAppend:V→List V→Hp→VK→Prop:=fun x vs H Q=>∃ l xs y,x = .ref l∧vs = [y]∧H l = some (.lst xs)∧xs.length < sizeLine∧Q .non (upd H l (.lst (xs ++ [y])))
theorem mt_append:MtM X "list.append" rAppend:=by
  intro pins s σ H x vs v us Q I rx rv h
  obtain ⟨l,xs,y,rfl,rfl,hH,hz,q⟩:=h
  cases rx
  obtain ⟨u,rfl,ru⟩:=rv.one
  obtain ⟨z,its,n,r,hl,e⟩:=I.lstM hH
  refine call_meets F.slot_list_append ⟨_,e,rfl⟩ F.entry_list_append (F.args_list_append_2 _ _) (PySem.list_append l its.toArray n u (by rw [List.size_toArray]; omega)) ⟨e,?_⟩
  refine ⟨.non,_,I.lset (its':=its ++ [u]) hH e (by simp) (r.append (.cons ru .nil)) ?_,rfl,q⟩
  rw [List.length_append,List.length_singleton]
  omega
def rExtend:V→List V→Hp→VK→Prop:=fun x vs H Q=>∃ l b xs zs,x = .ref l∧vs = [.ref b]∧H l = some (.lst xs)∧H b = some (.lst zs)∧xs.length + zs.length≤sizeLine∧Q .non (upd H l (.lst (xs ++ zs)))
theorem mt_extend:MtM X "list.extend" rExtend:=by
  intro pins s σ H x vs v us Q I rx rv h
  obtain ⟨l,b,xs,zs,rfl,rfl,hH,hB,hz,q⟩:=h
  cases rx
  obtain ⟨u,rfl,ru⟩:=rv.one
  cases ru
  obtain ⟨z,its,n,r,hl,e⟩:=I.lstM hH
  obtain ⟨z2,its2,n2,r2,hl2,e2⟩:=I.lstM hB
  have hsz:its.toArray.size + its2.toArray.size≤sizeLine:=by rw [List.size_toArray,List.size_toArray]; omega
  have hlong:¬ (!its.toArray.isEmpty && Builtin.List.listTooLong (its.toArray.size + its2.toArray.size)) = true:=by
    rw [notLongL hsz,Bool.and_false]
    exact Bool.false_ne_true
  refine call_meets F.slot_list_extend ⟨_,e,rfl⟩ F.entry_list_extend (F.args_list_extend_2 _ _)
    (AutoSeq1.list_extend_list_list_0 l its.toArray n b its2.toArray n2 hlong (by rw [List.size_toArray]; omega) (by omega)) ⟨e,e2,?_⟩
  refine ⟨.non,_,I.lset (its':=its ++ its2) hH e (by simp) (r.append r2) ?_,rfl,q⟩
  rw [List.length_append]
  omega
end
section
variable {prog:Program} {w:World} {A:Around} {E:Value→Shared→Prop} {s:Shared}
end
section
variable {X:Cx}
end
end L2
namespace Att
open PySem PySem.W PySem.Calls PyProof.Rows
theorem ints_of_wellAll {P:Params} {h:Heap}:∀ (ns:List Int) (vs:List Value),WellAll P h vs (ns.map WData.int)→IntsAre vs ns:=by
  intro ns
  induction ns with
  | nil =>
    intro vs w
    rw [List.map_nil] at w
    cases w
    exact .nil
  | cons n ns ih =>
    intro vs w
    rw [List.map_cons] at w
    cases w with
    | cons a b =>
      cases a
      exact .cons _ _ (ih _ b)
theorem script_of {l:OpenLaw} {n:Nat} (hn:l.most = some n) {P:Params} {h:Heap} {args:List WData} {vals:List Value}
    (hpre:l.row.toRowW.claim.pre args = true) (hwl:WellAll P h vals args) :
    ∃ a vs ns,vals = [Value.ref a]∧args = [WData.list (ns.map WData.int)]∧h.get? a = some { cls:=.type "list", data:=.seq vs.toArray }∧IntsAre vs ns∧ns.length≤n:=by
  have hsh:WShape.hasAll [] args [.list .int] = true:=(pre_splitW hpre).1
  have hc:l.pre.holds [] { args:=args } = true:=(pre_splitW hpre).2
  obtain ⟨d,r,rfl,h1,h2⟩:=hasAllW_cons hsh
  obtain rfl:=hasAllW_nil h2
  obtain ⟨xs,rfl,h3⟩:=hasW_list h1
  obtain ⟨ns,rfl⟩:=items_int h3
  have hlen:ns.length≤n:=by
    unfold OpenLaw.pre at hc
    have h4:(WTm.not (.lt (.lit (.int (n:Int))) (.len (.arg 0)))).holds [] { args:=[.list (ns.map .int)] } = true:=by
      have h4:=(holds_andW hc).1
      rw [hn] at h4
      exact h4
    have h5:=condW_of h4 (w_not (w_lt w_lit (w_len_list (w_arg rfl))))
    rw [List.length_map] at h5
    refine Nat.le_of_not_lt fun q=>?_
    have q':(n:Int) < ((ns.length:Nat):Int):=by omega
    first
      | (rw [decide_eq_true q'] at h5; exact absurd h5 (by decide))
      | (simp at h5; omega)
  cases hwl with
  | cons w1 w2 =>
    cases w2
    cases w1 with
    | list ho hall=>exact ⟨_,_,ns,rfl,rfl,ho,ints_of_wellAll ns _ hall,hlen⟩
theorem post_true (l:OpenLaw) (args:List WData):l.row.toRowW.claim.post args (.bool true) args = true :=
  postW_of (r:=l.row.toRowW) (X:=(true == true))
    (show WShape.has [] (.bool true) .bool = true by first | rfl | decide | simp [WShape.has,WShape.arms,WShape.armsAll])
    (show (WTm.eq .res (.lit (.bool true))).value [] { args:=args,res:=some (.bool true),after:=args } = some (.bool (true == true)) from w_eq_bool (w_res rfl) w_lit) rfl
theorem attach_call {l:OpenLaw} {n:Nat} {q:Program} {loose:List Str} {XP:(Str→Option Value)→Heap→Prop} {YP:World→Heap→Prop} {d:DefRec}
    (hn:l.most = some n) (hdf:d.params.defaults = [])
    (call:∀ (w:World) (s₀ s₁:Shared) (mg mb:Str→Option Value) (fa:Addr) (o:Obj) (pm cd doc:Value) (a:Addr) (vs:List Value) (ns:List Int),
      Ground q loose [] XP w s₀ mg mb s₁.heap→YP w s₁.heap →
      s₁.heap.get? fa = some o→o.data = .func (docDef d.name d.params d.body d.scope pm cd doc)→s₁.heap.CodeRec cd d.name→mg d.name = some (.ref fa) →
      s₁.heap.get? a = some { cls:=.type "list", data:=.seq vs.toArray }→IntsAre vs ns→ns.length≤n→s₁.gens = #[] →
      codeAny (model l.prog w) callerA (.call (.ref fa) ⟨[.ref a],[]⟩) (fun r s'=>r = .ok (.ret (.bool true))∧OldK s₁.heap s'.heap∧s'.os = s₁.os∧AllBare s'.gens) s₁) :
    WalkO q loose XP YP l.row.toRowW d [] (fun f vs=>PySem.call f vs):=by
  intro w s₀ s₁ mg mb G Y fa o pm cd doc dV kV ho hd hcd hD hmg hg args vals as hpre hlay hrd hwl hlo
  obtain rfl:dV = .none:=Dflts.none hD hdf
  obtain rfl:kV = .none:=Dflts.noKw hD
  obtain ⟨a,vs,ns,rfl,rfl,hobj,hints,hlen⟩:=script_of hn hpre hwl
  refine enter_call (codeAny_mono (call w s₀ s₁ mg mb fa o pm cd doc a vs ns G Y ho (fd_plain hd) hcd hmg hobj hints hlen hg) fun r s' hq=>?_)
  obtain ⟨rfl,h2,h3,h4⟩:=hq
  exact ⟨.inl ⟨.bool true,.bool true,[],rfl,fun _=>rfl,.bool true,post_true l _,fun _=>⟨List.Pairwise.nil,fun _ hm=>(nomatch hm)⟩⟩,h2,h3,h4⟩
section
variable {prog:Program} {w:World} {A:Around} {E:Value→Shared→Prop} {s:Shared} {K:Frag}
end
end Att
namespace L2
open PySem PySem.Spec PyProof.Rows
theorem vals_ints:∀ {vs:List Value} {ns:List Int},IntsAre vs ns→Vals (ns.map V.int) vs
  | _,_,.nil=>.nil
  | _,_,.cons n t h=>.cons ⟨t,rfl⟩ (vals_ints h)
def Only (H:Hp):Prop:=∀ b,H b = none∨∃ o xs,H b = some (.frz o (.lst xs))
theorem law_call {P:Program} {w:World} {K:PySem.W.Frag} {mg mb:Str→Option Value} {CX:CXT} {k:Nat} {fa a:Addr} {fd:FuncData} {x:Str} {sp:Sp} {s₁:Shared} {vs:List Value} {ns:List Int}
    (KX:K.In s₁.heap) (hns:s₁.heap.Ns mainGlobals mg) (hb:s₁.heap.Ns builtinsNs mb) (hbb:∀ x:Str,x ≠ "__name__" → mb x = bootBuiltins x) (hlim:s₁.heap.NoLimit) (hg:s₁.gens = #[])
    (ha:s₁.heap.get? a = some { cls:=.type "list", data:=.seq vs.toArray }) (hi:IntsAre vs ns) (hl:ns.length≤sizeLine) (hr:Room k callerA)
    (F:∀ base:Heap,K.In base→base.Ns mainGlobals mg→FnOk P w K mg base CX k fa fd [x] sp) (hbind:∀ (s:Shared) (u:Value),BindsTo s fd ⟨[u],[]⟩ [(x,u)])
    (hsp:∀ H:Hp,Only H→SqL K H a (ns.map V.int)→sp [.ref a] H (fun v _=>v = .bl true) fun _ _ _=>False)
    (hCX:∀ H e s',CX [] H s₁ (fun _ _ _=>False) e s'→False) :
    codeAny (model P w) callerA (.call (.ref fa) ⟨[.ref a],[]⟩) (fun r s'=>r = .ok (.ret (.bool true))∧OldK s₁.heap s'.heap∧s'.os = s₁.os∧AllBare s'.gens) s₁:=by
  have rv:=vals_ints hi
  have lenV:=hi.length
  have core:∀ H:Hp,Only H→SqL K H a (ns.map V.int)→HOk P w H s₁.heap→(∀ b,H b≠none→b = a)→(H a≠none→K.lookup a = none) →
      codeAny (model P w) callerA (.call (.ref fa) ⟨[.ref a],[]⟩) (fun r s'=>r = .ok (.ret (.bool true))∧OldK s₁.heap s'.heap∧s'.os = s₁.os∧AllBare s'.gens) s₁:=by
    intro H hO hS hok hA hK
    have base_of:∀ {b:Addr} {o:Obj},s₁.heap.get? b = some o→H b = none→(hidT s₁.heap H).get? b = some o:=fun e n=>hidT_get e n
    have noA:∀ {b:Addr} {o:Obj} {es:Array DictEntry} {ep:Nat},s₁.heap.get? b = some o→o.data = .dict es ep→H b = none:=fun {b o es ep} e d=>by
      cases q:H b with
      | none=>rfl
      | some u =>
        have e':b = a:=hA b (by rw [q]; simp)
        subst e'
        rw [ha] at e; cases e
        have d':Data.seq vs.toArray _ = Data.dict es ep:=d
        cases d'
    have nsK:∀ {b:Addr} {m:Str→Option Value},s₁.heap.Ns b m→(hidT s₁.heap H).Ns b m:=fun {b m} ⟨o,es,ep,e,d,r⟩=>⟨o,es,ep,base_of e (noA e d),d,r⟩
    have hKb:K.In (hidT s₁.heap H):=fun b o e=>base_of (KX b o e) (by
      cases q:H b with
      | none=>rfl
      | some u =>
        have e':b = a:=hA b (by rw [q]; simp)
        subst e'
        rw [hK (by rw [q]; simp)] at e; cases e)
    have hM:Mod K mg (hidT s₁.heap H):=⟨hKb,nsK hns,⟨mb,nsK hb,hbb⟩,let ⟨mc,h1,h2⟩:=hlim; ⟨mc,nsK h1,h2⟩⟩
    have e0:Env0 P w K mg (hidT s₁.heap H) callerA [] s₁ H:=⟨rfl,hM,fun b o e=>of_hidT e,Nat.le_of_eq (hidT_size _ _),trivial,fun b hb=>absurd (show b∈([]:List Addr) from hb) (by simp),hok,.of_eq hg⟩
    refine codeAny_mono ((F _ hKb (nsK hns)).run callerA [] s₁ H ⟨[.ref a],[]⟩ [.ref a] [.ref a] _ _ hr e0 (hbind s₁ (.ref a)) (.cons rfl .nil) (hsp H hO hS)) fun r s' h=>?_
    cases r with
    | error e=>exact (hCX H e s' h).elim
    | ok fl =>
      cases fl with
      | next=>exact False.elim h
      | brk=>exact False.elim h
      | cont=>exact False.elim h
      | ret u =>
        obtain ⟨v,H',os,bare,un,hok',r',q⟩:=h
        have q':v = .bl true:=q
        subst q'
        obtain rfl:u = Value.bool true:=r'
        refine ⟨rfl,OldK.of_keep fun b o e=>?_,os,bare⟩
        cases q:H b with
        | none=>exact un.keep b o e q (by intro z; exact absurd (show b∈([]:List Addr) from z) (by simp)) (by simp)
        | some u =>
          rcases hO b with z | ⟨ob,xs,z⟩
          · rw [q] at z; cases z
          · have z2:=un.frzs b ob _ z
            obtain ⟨e1,_⟩:=hok b _ z
            obtain ⟨e2,_⟩:=hok' b _ z2
            rw [e] at e1; cases e1
            exact e2
  cases hk:K.lookup a with
  | some o =>
    have e:=KX a o hk
    rw [ha] at e
    cases e
    refine core (fun _=>none) (fun _=>.inl rfl) (.inr ⟨_,vs.toArray,_,hk,rfl,rfl,rfl,by rw [List.size_toArray,lenV]; exact hl,by simpa using rv⟩) (fun b u z=>by have z':(none:Option HO) = some u:=z; cases z') (fun b z=>absurd rfl z) fun z=>absurd rfl z
  | none =>
    refine core (fun b=>if b = a then some (.frz { cls:=.type "list", data:=.seq vs.toArray } (.lst (ns.map V.int))) else none) (fun b=>?_) (.inl (.inr ⟨{ cls:=.type "list", data:=.seq vs.toArray },if_pos rfl⟩)) (fun b u z=>?_) (fun b z=>?_) fun _=>hk
    · by_cases hb:b = a
      · exact .inr ⟨_,_,if_pos hb⟩
      · exact .inl (if_neg hb)
    · by_cases hb:b = a
      · have z':=(if_pos hb).symm.trans z
        cases z'
        subst hb
        exact ⟨ha,by rw [List.length_map]; exact hl,vs,_,rv,ha⟩
      · have z':=(if_neg hb).symm.trans z
        cases z'
    · by_cases hb:b = a
      · exact hb
      · exact absurd (if_neg hb) z
end L2
namespace L2
open PySem PySem.Spec PyProof.Rows
abbrev KOf {K:PySem.W.Frag} {h:Heap} (_:K.In h):PySem.W.Frag:=K
theorem walk_of {l:PySem.W.OpenLaw} {n k:Nat} {q:Program} {loose:List Str} {XP:(Str→Option Value)→Heap→Prop} {YP:World→Heap→Prop} {d:DefRec} {K:Params→PySem.W.Frag} {CX:World→CXT} {sp:World→Sp} {x:Str}
    (hn:l.most = some n) (hn2:n≤sizeLine) (hdf:d.params.defaults = []) (hr:Room k callerA)
    (hY:∀ (w:World) (h:Heap),YP w h→(K w.params).In h)
    (F:∀ (w:World) (mg:Str→Option Value) (fa:Addr) (h:Heap),(K w.params).In h→h.Ns mainGlobals mg→mg d.name = some (.ref fa) →
      ∃ fd:FuncData,(∀ (s:Shared) (u:Value),BindsTo s fd ⟨[u],[]⟩ [(x,u)]) ∧
        ∀ base:Heap,(K w.params).In base→base.Ns mainGlobals mg→FnOk l.prog w (K w.params) mg base (CX w) k fa fd [x] (sp w))
    (hsp:∀ (w:World) (H:Hp) (a:Addr) (ns:List Int),ns.length≤n→Only H→SqL (K w.params) H a (ns.map V.int)→sp w [.ref a] H (fun v _=>v = .bl true) fun _ _ _=>False)
    (hCX:∀ (w:World) (H:Hp) (s:Shared) (e:Value) (s':Shared),CX w [] H s (fun _ _ _=>False) e s'→False) :
    PySem.W.WalkO q loose XP YP l.row.toRowW d [] (fun f vs=>PySem.call f vs):=by
  refine Att.attach_call hn hdf fun w s₀ s₁ mg mb fa o pm cd doc a vs ns G Y ho hd hcd hmg hobj hints hlen hg=>?_
  have KX:=hY w _ Y
  obtain ⟨fd,hb,hF⟩:=F w mg fa _ KX G.T.g hmg
  exact law_call KX G.T.g G.T.b G.T.builtins G.T.nolimit hg hobj hints (Nat.le_trans hlen hn2) hr hF hb (fun H hO hS=>hsp w H a ns hlen hO hS) fun H e s'=>hCX w H s₁ e s'
theorem walk_ofK {l:PySem.W.OpenLaw} {n k:Nat} {q:Program} {loose:List Str} {XP:(Str→Option Value)→Heap→Prop} {YP:World→Heap→Prop} {d:DefRec} {K:Params→PySem.W.Frag} {CX:CXT} {sp:PySem.W.Frag→Sp} {x:Str}
    (hn:l.most = some n) (hn2:n≤sizeLine) (hdf:d.params.defaults = []) (hr:Room k callerA)
    (hY:∀ (w:World) (h:Heap),YP w h→(K w.params).In h)
    (F:∀ (w:World) (mg:Str→Option Value) (fa:Addr) (h:Heap),(K w.params).In h→h.Ns mainGlobals mg→mg d.name = some (.ref fa) →
      ∃ fd:FuncData,(∀ (s:Shared) (u:Value),BindsTo s fd ⟨[u],[]⟩ [(x,u)]) ∧
        ∀ base:Heap,(K w.params).In base→base.Ns mainGlobals mg→FnOk l.prog w (K w.params) mg base CX k fa fd [x] (sp (K w.params)))
    (hsp:∀ (K:PySem.W.Frag) (H:Hp) (a:Addr) (ns:List Int),ns.length≤n→Only H→SqL K H a (ns.map V.int)→sp K [.ref a] H (fun v _=>v = .bl true) fun _ _ _=>False)
    (hCX:∀ (H:Hp) (s:Shared) (e:Value) (s':Shared),CX [] H s (fun _ _ _=>False) e s'→False) :
    PySem.W.WalkO q loose XP YP l.row.toRowW d [] (fun f vs=>PySem.call f vs) :=
  walk_of (K:=K) (CX:=fun _=>CX) (sp:=fun w=>sp (K w.params)) hn hn2 hdf hr hY F (fun w H a ns h1 h2 h3=>hsp (K w.params) H a ns h1 h2 h3) fun _ H s e s'=>hCX H s e s'
end L2
/- THE LAST THEOREM (shape; LID,My.* are yours):
   My.Adr: a structure of the addresses that your layer names (classes,functions); My.Txt K t: a structure (Prop) of the equations over K;
   My.txt_mk:{K} {implicit addresses ..} (e1:nsIn K mainGlobals "law" = some (some (.ref f))) (e2:K.lookup f = some ⟨oc,od,.func (fnOf "law" "law" params body scope dV kV doc pm an cdv ct),sl⟩) (e3:codeIn K cdv "law" = true) ..:∃ t,My.Txt K t
set_option maxRecDepth 100000 in
set_option maxHeartbeats 0 in
theorem PySem.Challenge.cw_LID_holds:PySem.Challenge.rw_LID.Holds:=by
  w_on; o_law; k_head; (case hw=>w_witness2)
  k_fill
  refine L2.walk_of (l:=PySem.Challenge.rw_LID) (n:=63) (k:=40) (x := "script") (CX:=fun w=>..) (sp:=fun _=>My.sp_law) rfl (by decide) rfl ⟨rfl,by decide,by decide⟩ (fun w h Y=>PySem.W.kIn_of Y) ?F ?S ?C
  case F =>
    intro w mg fa h KX G hmg
    have T:∃ t,My.Txt (L2.KOf KX) t:=by
      dsimp only [L2.KOf]                          -- K must stand as «<heap const> w.params» for k_is
      refine' My.txt_mk ?e1 ?e2 ?e3 ..
      (case e1=>PySem.W.k_is)                    -- in the order: a name -> its address -> its object -> its parts
      (case e2=>PySem.W.k_is)
      ..
    obtain ⟨t,T⟩:=T
    have e0:=hmg.symm.trans (PySem.W.mg_of KX G T.law)
    cases e0                                       -- fa is the law's own address
    exact ⟨_,fun s u=>.of_eq rfl,fun base kb nb=>My.law_fn T kb nb⟩     -- if «.of_eq rfl» comes too early: refine' ⟨_,?b,fun base kb nb=>My.law_fn T kb nb⟩; exact fun s u=>.of_eq rfl
  case S=>exact fun w H a ns hl hO hS=>..
  case C=>exact ..
(the tactic k_is has no namespace: write k_is) -/
namespace L2
open PySem PySem.Spec PyProof.Rows
def inClass (s:Stmt) (j:Nat):Stmt:=match s with
  | .ClassDef _ _ _ body _ _ _ _ _ _ _=>body.getD j (.Pass ⟨0,0,0,0⟩)
  | _=>.Pass ⟨0,0,0,0⟩
def defArgs (s:Stmt):Arguments:=match s with
  | .FunctionDef _ a _ _ _ _ _ _ _ _=>a
  | _=>{ posonlyargs:=[],args:=[],vararg:=none,kwonlyargs:=[],kw_defaults:=[],kwarg:=none,defaults:=[] }
def defBody (s:Stmt):List Stmt:=match s with
  | .FunctionDef _ _ b _ _ _ _ _ _ _=>b
  | _=>[]
def defScope (s:Stmt):Scope:=match s with
  | .FunctionDef _ _ _ _ _ _ sc _ _ _=>sc
  | _=>{ kind:=.function,names:=[],isGenerator:=false,isCoroutine:=false }
abbrev CX0:CXT:=fun _ _ _ _ _ _=>False
abbrev E0:XK:=fun _ _ _=>False
theorem pass0 {X:Cx}:Passes CX0 X E0:=fun _ _ _ _ _ _ _ h=>h.elim
structure Fun (K:PySem.W.Frag) (x qual:Str) (st:Stmt) (f:Addr) (fd:FuncData):Prop where
  ex:∃ (oc:Value) (od:Option Addr) (kV doc pm:Value) (an:Option Addr) (cdv ct:Value) (osl:Array (Option Value)),
    fd = PySem.W.fnOf x qual (defArgs st) (defBody st) (defScope st) .none kV doc pm an cdv ct∧K.lookup f = some ⟨oc,od,.func fd,osl⟩∧PySem.W.codeIn K cdv qual = true
  kp:PySem.W.keepIn K (.ref f) = true
section
variable {P:Program} {w:World} {K:PySem.W.Frag} {mg:Str→Option Value} {base:Heap}
theorem Fun.ok {x qual:Str} {st:Stmt} {f:Addr} {fd:FuncData} {N ps:List Str} {k:Nat} {sp:Sp} (F:Fun K x qual st f fd) (S:FnScope N ps (defScope st)) (len:∀ vs H Q E,sp vs H Q E→vs.length = ps.length)
    (hbody:∀ (cdv:Value) (A:Around) (outer:List Env) (s:Shared) (H:Hp) (vs:List V) (Q:VK) (E:XK),Room k (A.deeper (envOfC qual (defScope st) s.heap.objs.size f cdv))→sp vs H Q E →
      ∃ t,PSs (cxOf CX0 P w K mg base N qual (defScope st) f cdv A outer s H E).nox (defBody st) t∧t { nx:=fun _ H'=>Q .non H',rt:=Q } (start N vs) H):FnOk P w K mg base CX0 (k + 1) f fd ps sp:=by
  obtain ⟨oc,od,kV,doc,pm,an,cdv,ct,osl,rfl,lk,hcd⟩:=F.ex
  refine fn_of lk hcd S len fun A outer s H vs Q E hr hsp=>?_
  obtain ⟨t,h,q⟩:=hbody cdv A outer s H vs Q E hr hsp
  exact ⟨t,h.nox,q⟩
theorem Fun.binds {x qual:Str} {st:Stmt} {f:Addr} {fd:FuncData} {ps:List Str} (F:Fun K x qual st f fd)
    (h:∀ (kV doc pm:Value) (an:Option Addr) (cdv ct:Value) (us:List Value),us.length = ps.length→bindArgs (PySem.W.fnOf x qual (defArgs st) (defBody st) (defScope st) .none kV doc pm an cdv ct) ⟨us,[]⟩ = pure (ps.zip us)):Binds K fd ps []:=by
  obtain ⟨oc,od,kV,doc,pm,an,cdv,ct,osl,rfl,lk,hcd⟩:=F.ex
  exact .all (h kV doc pm an cdv ct)
theorem fun_mk {x qual:Str} {st:Stmt} {f:Addr} {oc:Value} {od an:Option Addr} {osl:Array (Option Value)} {kV doc pm cdv ct:Value} (l:K.lookup f = some ⟨oc,od,.func (PySem.W.fnOf x qual (defArgs st) (defBody st) (defScope st) .none kV doc pm an cdv ct),osl⟩)
    (c:PySem.W.codeIn K cdv qual = true) (k:PySem.W.keepIn K (.ref f) = true):Fun K x qual st f (PySem.W.fnOf x qual (defArgs st) (defBody st) (defScope st) .none kV doc pm an cdv ct):=⟨⟨oc,od,kV,doc,pm,an,cdv,ct,osl,rfl,l,c⟩,k⟩
end
theorem hu_of {A:Around} {k:Nat} (hr:Room k A):A.units + 1 < cLine:=Nat.lt_of_le_of_lt (Nat.add_le_add_left (by decide:1≤64) _) hr.units
theorem small1000 {n:Nat} (h:n≤1000):n < sizeLine:=Nat.lt_of_le_of_lt h (by decide)
section
variable {X:Cx}
theorem pv (i:Nat) {x:Str} {pos:Pos} (hN:X.N[i]? = some x:=by rfl) (hv:Vis X.env.scope x:=by first | exact Or.inl rfl | exact Or.inr (Or.inl rfl) | exact Or.inr (Or.inr rfl)) (hd:(x == ("__debug__" : Str)) = false:=by decide)
    (hcd:(x == ("__classdict__" : Str)) = false:=by decide):PE X (.Name x pos) (tVar i):=pe_var hN hv hd hcd
end
theorem iteF {A B:Prop} (h:B):if false = true then A else B:=by
  rw [if_neg Bool.false_ne_true]
  exact h
theorem iteT {A B:Prop} (h:A):if true = true then A else B:=by
  rw [if_pos rfl]
  exact h
theorem ite2 {c A B:Prop} [Decidable c] (h1:c→A) (h2:¬ c→B):if c then A else B:=by
  by_cases h:c
  · rw [if_pos h]
    exact h1 h
  · rw [if_neg h]
    exact h2 h
theorem iteNS {c A B:Prop} [Decidable c] (hc:c) (h:B):if (!decide c) = true then A else B:=by
  rw [decide_eq_true hc]
  exact iteF h
def Same (H H':Hp):Prop:=∀ b o,H b = some o→H' b = some o
theorem Same.refl (H:Hp):Same H H:=fun _ _ h=>h
theorem Same.trans {H H1 H2:Hp} (a:Same H H1) (b:Same H1 H2):Same H H2:=fun c o h=>b c o (a c o h)
theorem Same.free {H H':Hp} (e:Same H H') {l:Addr} (h:H' l = Option.none):H l = Option.none:=by
  cases q:H l with
  | none=>rfl
  | some o =>
    rw [e l o q] at h
    cases h
theorem Same.seq {K:PySem.W.Frag} {H H':Hp} {a:Addr} {xs:List V} (e:Same H H') (h:SqL K H a xs):SqL K H' a xs:=by
  rcases h with (h | ⟨o,h⟩) | h
  · exact .inl (.inl (e _ _ h))
  · exact .inl (.inr ⟨o,e _ _ h⟩)
  · exact .inr h
end L2
set_option maxHeartbeats 8000000
namespace L2
open PySem PySem.Spec PyProof.Rows
section
variable {X:Cx} {pins:List (Addr × Obj)} {σ:St} {H:Hp} {s:Shared}
theorem HOk.track {P:Program} {w:World} {H:Hp} {h:Heap} {a:Addr} {o:HO} (x:HOk P w H h) (hn:H a = none) (new:ObjOk P w (upd H a o) h a o):HOk P w (upd H a o) h:=fun b u e=>by
  by_cases hb:b = a
  · subst hb
    rw [upd_same] at e
    cases e
    exact new
  · rw [upd_ne hb] at e
    refine (x b u e).stay (fun _ _ _ q=>q) (fun c q=>?_) fun c xs q=>?_
    · rw [upd_ne (ne_of_none q hn)]; exact q
    · rw [upd_ne (ne_of_none q hn)]; exact q
theorem Inv.track {a:Addr} {o:HO} (I:Inv X pins σ H s) (hn:H a = none) (hL:a≠X.env.locals) (h0:X.s₀.heap.objs.size≤a) (hc:∀ x c,X.env.cells.lookup x = some c→c≠a) (hp:∀ p∈X.pn ++ pins,p.1≠a)
    (new:ObjOk X.prog X.w (upd H a o) s.heap a o):Inv X pins σ (upd H a o) s:=by
  have old:∀ b ob,X.s₀.heap.get? b = some ob→b≠a:=fun b ob e=>Nat.ne_of_lt (Nat.lt_of_lt_of_le (Heap.lt_size e) h0)
  refine ⟨I.ok,I.os,I.bare,⟨fun b ob e n=>I.base.keep b ob e n,fun b ob e n=>I.base.slot b ob e n,fun b ob e n hx=>?_,fun b ob e hx=>I.base.there b ob e hx,fun b xs e=>?_,fun b ob u e=>?_,fun b ps e=>?_⟩,I.loc,I.cell,?_,fun x c e=>?_,fun p hm=>?_,I.hok.track hn new,I.len⟩
  · rw [upd_ne (old b ob e)]; exact I.base.free b ob e n hx
  · have q:=I.base.tups b xs e
    rw [upd_ne (ne_of_none q hn)]; exact q
  · have q:=I.base.frzs b ob u e
    rw [upd_ne (ne_of_none q hn)]; exact q
  · obtain ⟨mo,q⟩:=I.base.tbls b ps e
    exact ⟨mo,by rw [upd_ne (ne_of_none q hn)]; exact q⟩
  · rw [upd_ne (Ne.symm hL)]; exact I.free
  · rw [upd_ne (hc x c e)]; exact I.freeC x c e
  · obtain ⟨z1,z2,z3⟩:=I.pin p hm
    exact ⟨z1,by rw [upd_ne (hp p hm)]; exact z2,z3⟩
end
def clo:List (Str × NameKind)→List (Str × Addr)→List (Str × Addr)→List (Str × Addr)
  | [],_,acc=>acc
  | (n,k) :: r,cells,acc=>clo r cells (if k == .free then (match cells.lookup n with | some c=>(n,c) :: acc | none=>acc) else acc)
theorem clo_sound (cells:List (Str × Addr)):∀ (names:List (Str × NameKind)) (acc:List (Str × Addr)),(∀ y c,acc.lookup y = some c→cells.lookup y = some c)→∀ y c,(clo names cells acc).lookup y = some c→cells.lookup y = some c
  | [],acc,h=>h
  | (n,k) :: r,acc,h=>by
    refine clo_sound cells r _ fun y c e=>?_
    cases hk:k == NameKind.free with
    | false=>rw [hk] at e; exact h y c e
    | true =>
      rw [hk,if_pos rfl] at e
      cases hc:cells.lookup n with
      | none=>rw [hc] at e; exact h y c e
      | some a =>
        rw [hc] at e
        have e':(((n,a) :: acc).lookup y) = some c:=e
        rw [List.lookup_cons] at e'
        cases hy:y == n with
        | true =>
          rw [hy] at e'
          have z:y = n:=by simpa using hy
          subst z
          rw [hc]; exact e'
        | false=>rw [hy] at e'; exact h y c e'
theorem clo_keeps (cells:List (Str × Addr)):∀ (names:List (Str × NameKind)) (acc:List (Str × Addr)) (y:Str),(acc.lookup y).isSome = true→((clo names cells acc).lookup y).isSome = true
  | [],_,_,h=>h
  | (n,k) :: r,acc,y,h=>by
    refine clo_keeps cells r _ y ?_
    cases hk:k == NameKind.free with
    | false=>exact h
    | true =>
      rw [if_pos rfl]
      cases hc:cells.lookup n with
      | none=>exact h
      | some a =>
        show (((n,a) :: acc).lookup y).isSome = true
        rw [List.lookup_cons]
        cases hy:y == n with
        | true=>rfl
        | false=>exact h
theorem clo_has (cells:List (Str × Addr)):∀ (names:List (Str × NameKind)) (acc:List (Str × Addr)) (y:Str),(y,NameKind.free)∈names→(cells.lookup y).isSome = true→((clo names cells acc).lookup y).isSome = true
  | [],_,_,h,_=>by cases h
  | (n,k) :: r,acc,y,h,hs=>by
    rcases List.mem_cons.mp h with e | h
    · cases e
      refine clo_keeps cells r _ n ?_
      show (((match cells.lookup n with | some c=>(n,c) :: acc | none=>acc)).lookup n).isSome = true
      cases hc:cells.lookup n with
      | none=>rw [hc] at hs; cases hs
      | some a =>
        show (((n,a) :: acc).lookup n).isSome = true
        rw [List.lookup_cons]
        simp
    · exact clo_has cells r _ y h hs
theorem clo_run {env:Env}:∀ (names:List (Str × NameKind)) (acc:List (Str × Addr)),(∀ y,(y,NameKind.free)∈names→(env.cells.lookup y).isSome = true) →
    (forIn names acc fun (x:Str × NameKind) (cs:List (Str × Addr))=>if (x.2 == NameKind.free) = true then do let c ← cellOf env x.1; pure (ForInStep.yield ((x.1,c) :: cs)) else pure (ForInStep.yield cs):Sem (List (Str × Addr))) = pure (clo names env.cells acc)
  | [],acc,_=>rfl
  | (n,k) :: r,acc,h=>by
    have ih:=fun acc'=>clo_run (env:=env) r acc' fun y hy=>h y (List.mem_cons_of_mem _ hy)
    rw [List.forIn_cons]
    cases hk:k == NameKind.free with
    | false =>
      show ((pure (ForInStep.yield acc):Sem _) >>= _) = _
      rw [pure_bind]
      show (forIn r acc _:Sem _) = _
      rw [ih acc]
      show pure (clo r env.cells acc) = pure (clo r env.cells (if (k == NameKind.free) = true then (match env.cells.lookup n with | some c=>(n,c) :: acc | none=>acc) else acc))
      rw [hk]; rfl
    | true =>
      have hkf:k = NameKind.free:=by simpa using hk
      subst hkf
      have hs:=h n List.mem_cons_self
      cases hc:env.cells.lookup n with
      | none=>rw [hc] at hs; cases hs
      | some a =>
        have hcell:cellOf env n = pure a:=by unfold cellOf; rw [hc]
        show ((cellOf env n >>= fun c=>(pure (ForInStep.yield ((n,c) :: acc)):Sem _)) >>= _) = _
        rw [hcell,pure_bind,pure_bind]
        show (forIn r ((n,a) :: acc) _:Sem _) = _
        rw [ih]
        show pure (clo r env.cells ((n,a) :: acc)) = pure (clo r env.cells (match env.cells.lookup n with | some c=>(n,c) :: acc | none=>acc))
        rw [hc]
theorem closure_eq {sc:Scope} {env:Env} (h:∀ y,(y,NameKind.free)∈sc.names→(env.cells.lookup y).isSome = true):closureFor sc env = pure (clo sc.names env.cells []):=by
  unfold closureFor
  have:=clo_run (env:=env) sc.names [] h
  simpa using this
structure LcOk (osc sc:Scope) (x:Str) (fv:List Str):Prop where
  kind:sc.kind = .function
  nocell:∀ y∈sc.names,y.2≠.cell
  names:∀ y∈sc.names,y.2 = .local→sc.names.lookup y.1 = some .local
  hx:sc.names.lookup x = some .local
  fr:∀ y∈sc.names,y.2 = .free→osc.names.lookup y.1 = some .cell∨osc.names.lookup y.1 = some .free
  fvs:∀ y∈fv,sc.names.lookup y = some .free∧(osc.names.lookup y = some .cell∨osc.names.lookup y = some .free)
  nd:(x :: fv).Nodup
abbrev Cx.blk (X:Cx) (sc:Scope) (cl:List (Str × Addr)) (C:Addr) (N:List Str) (s:Shared) (H:Hp) (fp:List Addr):Cx :=
  { X with N:=N,s₀:=s,H₀:=H,env:=compEnvC sc cl C X.env,outer:=X.stack,ex:=fp,fn:=fun _=>false,pn:=[],xe:=fun _ _=>False }
abbrev lcN (X:Cx) (x:Str) (js:List Nat):List Str:=x :: js.map fun j=>X.N.getD j ""
abbrev lcS (σ:St) (js:List Nat) (x:Option V):St:=x :: js.map fun j=>σ.getD j none
theorem relabel_free {env:Env}:∀ {names:List (Str × NameKind)} {y:Str} {k:NameKind},(names.map fun (n,k)=>if (k == NameKind.free && env.scope.kind == .function && env.kindOf n == some .cell) then (n,NameKind.cell) else (n,k)).lookup y = some k→(k = .cell∨k = .free)→(∀ z∈names,z.2≠.cell)→(y,NameKind.free)∈names
  | [],_,_,h,_,_=>by simp at h
  | (n,k') :: r,y,k,h,hk,hn=>by
    by_cases hc:(k' == NameKind.free && env.scope.kind == .function && env.kindOf n == some .cell) = true
    · have hk':k' = NameKind.free:=by
        rw [Bool.and_eq_true,Bool.and_eq_true] at hc
        simpa using hc.1.1
      subst hk'
      rw [List.map_cons] at h
      cases hy:y == n with
      | true =>
        have z:y = n:=by simpa using hy
        subst z
        exact List.mem_cons_self
      | false =>
        have h':List.lookup y ((if (NameKind.free == NameKind.free && env.scope.kind == .function && env.kindOf n == some .cell) = true then (n,NameKind.cell) else (n,NameKind.free)) :: (r.map fun (n,k)=>if (k == NameKind.free && env.scope.kind == .function && env.kindOf n == some .cell) then (n,NameKind.cell) else (n,k))) = some k:=h
        rw [if_pos hc,List.lookup_cons,hy] at h'
        exact List.mem_cons_of_mem _ (relabel_free h' hk fun z hz=>hn z (List.mem_cons_of_mem _ hz))
    · have h':List.lookup y ((if (k' == NameKind.free && env.scope.kind == .function && env.kindOf n == some .cell) = true then (n,NameKind.cell) else (n,k')) :: (r.map fun (n,k)=>if (k == NameKind.free && env.scope.kind == .function && env.kindOf n == some .cell) then (n,NameKind.cell) else (n,k))) = some k:=h
      rw [if_neg hc,List.lookup_cons] at h'
      cases hy:y == n with
      | true =>
        rw [hy] at h'
        cases h'
        have z:y = n:=by simpa using hy
        subst z
        rcases hk with e | e
        · exact absurd e (hn _ List.mem_cons_self)
        · subst e; exact List.mem_cons_self
      | false =>
        rw [hy] at h'
        exact List.mem_cons_of_mem _ (relabel_free h' hk fun z hz=>hn z (List.mem_cons_of_mem _ hz))
theorem relabel_fv {env:Env}:∀ {names:List (Str × NameKind)} {y:Str},names.lookup y = some .free→(names.map fun (n,k)=>if (k == NameKind.free && env.scope.kind == .function && env.kindOf n == some .cell) then (n,NameKind.cell) else (n,k)).lookup y = some .cell∨(names.map fun (n,k)=>if (k == NameKind.free && env.scope.kind == .function && env.kindOf n == some .cell) then (n,NameKind.cell) else (n,k)).lookup y = some .free
  | [],_,h=>by simp at h
  | (n,k') :: r,y,h=>by
    rw [List.lookup_cons] at h
    rw [List.map_cons]
    cases hy:y == n with
    | true =>
      rw [hy] at h
      cases h
      by_cases hc:(NameKind.free == NameKind.free && env.scope.kind == .function && env.kindOf n == some .cell) = true
      · refine .inl ?_
        show List.lookup y ((if (NameKind.free == NameKind.free && env.scope.kind == .function && env.kindOf n == some .cell) = true then (n,NameKind.cell) else (n,NameKind.free)) :: _) = _
        rw [if_pos hc,List.lookup_cons,hy]
      · refine .inr ?_
        show List.lookup y ((if (NameKind.free == NameKind.free && env.scope.kind == .function && env.kindOf n == some .cell) = true then (n,NameKind.cell) else (n,NameKind.free)) :: _) = _
        rw [if_neg hc,List.lookup_cons,hy]
    | false =>
      rw [hy] at h
      have ih:=relabel_fv (env:=env) h
      by_cases hc:(k' == NameKind.free && env.scope.kind == .function && env.kindOf n == some .cell) = true
      · show List.lookup y ((if (k' == NameKind.free && env.scope.kind == .function && env.kindOf n == some .cell) = true then (n,NameKind.cell) else (n,k')) :: _) = _∨List.lookup y ((if (k' == NameKind.free && env.scope.kind == .function && env.kindOf n == some .cell) = true then (n,NameKind.cell) else (n,k')) :: _) = _
        rw [if_pos hc,List.lookup_cons,hy]
        exact ih
      · show List.lookup y ((if (k' == NameKind.free && env.scope.kind == .function && env.kindOf n == some .cell) = true then (n,NameKind.cell) else (n,k')) :: _) = _∨List.lookup y ((if (k' == NameKind.free && env.scope.kind == .function && env.kindOf n == some .cell) = true then (n,NameKind.cell) else (n,k')) :: _) = _
        rw [if_neg hc,List.lookup_cons,hy]
        exact ih
section
variable {X:Cx} {sc osc:Scope} {x:Str} {js:List Nat}
end
end L2
namespace L2
open PySem PySem.Spec PyProof.Rows
abbrev lstObj (its:List Value) (n:Nat):Obj:={ cls:=.type "list", data:=.seq its.toArray n }
abbrev lcTests (ifs:List Expr) (env:Env):Sem Bool :=
  forIn ifs true fun c r=>if r = true then do let ok ← isTrue c env (eval c env); pure (ForInStep.yield ok) else pure (ForInStep.yield r)
def tLC (wi:TI) (js:List Nat) (tt:TT) (te:TE):TE:=fun σ H Q=>wi σ H fun J H1=>∃ W:Nat→Nat→List V→Hp→Prop,(∃ m,W 0 m [] H1)∧∀ i m ys H,W i m ys H →
  (J.stop i H∧∀ p,H p = none→Q (.ref p) (upd H p (.lst ys))) ∨
  (J.go i H∧ys.length < sizeLine∧∀ x H',J.yld i H x H'→tt (lcS σ js (some x)) H' fun b H2 =>
    if b = true then te (lcS σ js (some x)) H2 fun v H3=>∃ m',m' < m∧W (i + 1) m' (ys ++ [v]) H3 else ∃ m',m' < m∧W (i + 1) m' ys H2)
section
variable {X:Cx} {sc osc:Scope} {x:Str} {js:List Nat} {elt iter:Expr} {px pos:Pos} {ifs:List Expr} {wi:TI} {tt:TT} {te:TE}
theorem lc_loop {P:Program} {w:World} {A:Around} {R:Result→Shared→Prop} {st:Shared} {tg it acc} {cenv:Env} (Iv:Nat→Shared→Prop)
    (step:∀ k st,Iv k st→wpAny (model P w) A (pyNext it) (fun got s1=>match got with
      | none=>R (.ok .next) s1
      | some v=>wpAny (model P w) A (letOwnedTupleGo tg it v) (fun _ s2=>wpAny (model P w) A (assign tg cenv v) (fun _ s3 =>
          wpAny (model P w) A (lcTests ifs cenv) (fun ok s4=>if ok = true then wpAny (model P w) A (eval elt cenv) (fun y s5 =>
              wpAny (model P w) A (call (.builtin "list.append") [acc,y]) (fun _ s6=>∃ k',k' < k∧Iv k' s6) (notedBy (model P w) A cenv fun e z=>R (.error e) z) s5) (notedBy (model P w) A cenv fun e z=>R (.error e) z) s4
            else ∃ k',k' < k∧Iv k' s4) (notedBy (model P w) A cenv fun e z=>R (.error e) z) s3) (notedBy (model P w) A cenv fun e z=>R (.error e) z) s2) (notedBy (model P w) A cenv fun e z=>R (.error e) z) s1)
      (notedBy (model P w) A cenv fun e z=>R (.error e) z) st) (k0:Nat) (h0:Iv k0 st) :
    codeAny (model P w) A (.compLoop (.ListComp elt [⟨tg,iter,ifs,0⟩] sc pos) 0 it acc cenv) R st:=by
  refine codeAny_loop rfl Iv (fun k st hk=>?_) k0 h0
  show wpAny _ A ((compTurn (.ListComp elt [⟨tg,iter,ifs,0⟩] sc pos) 0 it acc cenv).onRaise (fun e=>do noteFrame e cenv; theTreesLotGoes e)) _ _ st
  refine wpAny_noted ?_
  rw [compTurn_list]
  refine wpAny_bind (wpAny_standAt (wpAny_bind (wpAny_mono (step k st hk) (fun got s1 h1=>?_) fun _ _ z=>z)))
  cases got with
  | none=>exact wpAny_pure h1
  | some v =>
    refine wpAny_bind (wpAny_mono h1 (fun _ s2 h2=>?_) fun _ _ z=>z)
    refine wpAny_bind (wpAny_mono h2 (fun _ s3 h3=>wpAny_bind (wpAny_mono h3 (fun ok s4 h4=>?_) fun _ _ z=>z)) fun _ _ z=>z)
    cases ok with
    | false=>exact wpAny_pure ⟨rfl,h4⟩
    | true=>exact wpAny_bind (wpAny_bind (wpAny_mono h4 (fun y s5 h5=>wpAny_bind (wpAny_mono h5 (fun _ s6 h6=>wpAny_pure (wpAny_pure ⟨rfl,h6⟩)) fun _ _ z=>z)) fun _ _ z=>z))
structure Own (X:Cx) (pins:List (Addr × Obj)) (H:Hp) (a:Addr):Prop where
  free:H a = none
  loc:a≠X.env.locals
  new:X.s₀.heap.objs.size≤a
  cel:∀ x c,X.env.cells.lookup x = some c→c≠a
  pin:∀ p∈X.pn ++ pins,p.1≠a
  fs:a ∉ X.fs
end
structure LcOkG (osc sc:Scope) (xs:List Str) (fv:List Str):Prop where
  kind:sc.kind = .function
  nocell:∀ y∈sc.names,y.2≠.cell
  names:∀ y∈sc.names,y.2 = .local→sc.names.lookup y.1 = some .local
  fr:∀ y∈sc.names,y.2 = .free→osc.names.lookup y.1 = some .cell∨osc.names.lookup y.1 = some .free
  fvs:∀ y∈fv,sc.names.lookup y = some .free∧(osc.names.lookup y = some .cell∨osc.names.lookup y = some .free)
abbrev lcG (X:Cx) (xs:List Str) (js:List Nat):List Str:=xs ++ js.map fun j=>X.N.getD j ""
abbrev lcT (σ:St) (js:List Nat) (os:List (Option V)):St:=os ++ js.map fun j=>σ.getD j none
section
variable {X:Cx} {sc osc:Scope} {xs:List Str} {js:List Nat}
theorem blk_okG {pins:List (Addr × Obj)} {σ:St} {H:Hp} {s:Shared} {fp:List Addr} {C:Addr} (I:Inv X pins σ H s) (hosc:X.env.scope = osc) (L:LcOkG osc sc xs (js.map fun j=>X.N.getD j ""))
    (f2:∀ b∈fp,FpOk X pins H b) (lt:∀ b∈fp,b < s.heap.objs.size) (hC:s.heap.objs.size≤C):(X.blk sc (clo sc.names X.env.cells []) C (lcG X xs js) s H fp).Ok where
  mod:=I.ok.mod
  kind:=L.kind
  glob:=I.ok.glob
  blt:=I.ok.blt
  above:=hC
  inj:=fun y z c h1 h2=>I.ok.inj y z c (clo_sound _ _ [] (fun _ _ e=>by simp at e) y c h1) (clo_sound _ _ [] (fun _ _ e=>by simp at e) z c h2)
  has:=fun y hy=>by
    have hy':(relabel sc X.env).names.lookup y = some .cell∨(relabel sc X.env).names.lookup y = some .free:=hy
    have hm:(y,NameKind.free)∈sc.names:=by
      rcases hy' with e | e
      · exact relabel_free e (.inl rfl) L.nocell
      · exact relabel_free e (.inr rfl) L.nocell
    have ho:X.env.kindOf y = some .cell∨X.env.kindOf y = some .free:=by
      show X.env.scope.names.lookup y = _∨X.env.scope.names.lookup y = _
      rw [hosc]
      exact L.fr _ hm rfl
    obtain ⟨c,e⟩:=I.ok.has y ho
    exact Option.isSome_iff_exists.mp (clo_has _ _ [] y hm (by rw [e]; rfl))
  cab:=fun y c h=>by cases h
  hd:=I.ok.hd
  frames:=I.ok.frames
  stk:=.inl rfl
  exf:=fun b hb=>⟨Nat.ne_of_lt (Nat.lt_of_lt_of_le (lt b hb) hC),fun y c e=>(f2 b hb).2.2.2.2.1 y c (clo_sound _ _ [] (fun _ _ e=>by simp at e) y c e)⟩
  bs:=I.bs
  bsz:=Nat.le_trans I.ok.bsz I.sz
  noex:=fun b o e hb=>by
    rcases (f2 b hb).2.2.2.1 with z | z
    · exact I.ok.noex b o e z
    · exact absurd (Nat.lt_of_lt_of_le (Heap.lt_size (I.ok.bs b o e).1) z) (Nat.lt_irrefl _)
  exfs:=fun b hb hm=>by
    rcases List.mem_cons.mp (I.stkSub b hm) with z | z
    · exact (f2 b hb).2.1 z
    · exact (f2 b hb).2.2.1 z
  funs:=I.stack
  frf:=I.stkFree
end
section
variable {X:Cx} {sc osc:Scope} {xs:List Str} {js:List Nat} {tg:Expr} {g:TG} {elt iter:Expr} {px pos:Pos} {ifs:List Expr} {wi:TI} {tt:TT} {te:TE}
theorem lc_turnG {cl:List (Str × Addr)} {C D:Addr} {s₂:Shared} {H₂:Hp} {fp:List Addr} {pl:List (Addr × Obj)} {σ0:St} {H:Hp} {s:Shared} {u:Value} {v:V} {its:List Value} {n:Nat} {o0:List (Option V)} {E:Value→Shared→Prop}
    {Ny:V→Hp→Prop} {Nn:Hp→Prop}
    (hg:PG (X.blk sc cl C (lcG X xs js) s₂ H₂ fp) tg g)
    (I:Inv (X.blk sc cl C (lcG X xs js) s₂ H₂ fp) ((D,lstObj its n) :: pl) (lcT σ0 js o0) H s) (ru:RelV v u)
    (ht:∀ (pins:List (Addr × Obj)) (s':Shared) (σ':St) (H':Hp) (Q:Bool→Hp→Prop),Inv (X.blk sc cl C (lcG X xs js) s₂ H₂ fp) pins σ' H' s'→tt σ' H' Q →
      wpAny (model X.prog X.w) X.A (lcTests ifs (compEnvC sc cl C X.env)) (TP (X.blk sc cl C (lcG X xs js) s₂ H₂ fp) pins σ' Q) (fun _ _=>False) s')
    (he:PE (X.blk sc cl C (lcG X xs js) s₂ H₂ fp) elt te)
    (hlen:its.length < sizeLine) (hD0:s₂.heap.objs.size≤D) (hDC:D≠C) (hDc:∀ y c,cl.lookup y = some c→c≠D) (hDp:∀ p∈pl,p.1≠D)
    (h:g v (lcT σ0 js o0) H fun σ2 H1=>∃ o1,σ2 = lcT σ0 js o1∧o1.length = xs.length∧tt σ2 H1 fun b H2=>if b = true then te σ2 H2 Ny else Nn H2) :
    wpAny (model X.prog X.w) X.A (assign tg (compEnvC sc cl C X.env) u) (fun _ s2 =>
      wpAny (model X.prog X.w) X.A (lcTests ifs (compEnvC sc cl C X.env)) (fun ok s3 =>
        if ok = true then wpAny (model X.prog X.w) X.A (eval elt (compEnvC sc cl C X.env)) (fun y s4 =>
          wpAny (model X.prog X.w) X.A (call (.builtin "list.append") [.ref D,y]) (fun _ s5=>∃ z y' H5 o1,o1.length = xs.length∧Ny z H5∧RelV z y'∧Inv (X.blk sc cl C (lcG X xs js) s₂ H₂ fp) ((D,lstObj (its ++ [y']) (n + 1)) :: pl) (lcT σ0 js o1) H5 s5) E s4) E s3
        else ∃ H5 o1,o1.length = xs.length∧Nn H5∧Inv (X.blk sc cl C (lcG X xs js) s₂ H₂ fp) ((D,lstObj its n) :: pl) (lcT σ0 js o1) H5 s3) E s2) E s:=by
  refine wpAny_mono (hg _ s _ H v u _ I ru h) (fun _ s2 ⟨σ6,H6,I6,o1,e1,l1,h6⟩=>?_) fun _ _ z=>False.elim z
  subst e1
  refine wpAny_mono (ht _ s2 _ _ _ I6 h6) (fun ok s3 ⟨H7,I7,q7⟩=>?_) fun _ _ z=>False.elim z
  cases ok with
  | false =>
    rw [if_neg Bool.false_ne_true] at q7 ⊢
    exact ⟨H7,o1,l1,q7,I7⟩
  | true =>
    rw [if_pos rfl] at q7 ⊢
    refine wpAny_mono (he _ s3 _ H7 _ I7 q7) (fun y s4 ⟨z,H8,I8,r8,q8⟩=>?_) fun _ _ z=>False.elim z
    obtain ⟨p1,p2,p3,p4,p5⟩:=I8.pin (D,lstObj its n) (List.mem_append_right _ List.mem_cons_self)
    have p1':s4.heap.get? D = some { cls:=.type "list", data:=.seq its.toArray n }:=p1
    refine call_meets F.slot_list_append ⟨_,p1',rfl⟩ F.entry_list_append (F.args_list_append_2 _ _) (PySem.list_append D its.toArray n y (by rw [List.size_toArray]; omega)) ⟨p1',?_⟩
    have q:=PySem.IsL.update p1' (fun a=>a.push y)
    have sz:((its.toArray.push y).size == its.toArray.size) = false:=by simp
    have e3:(s4.heap.update D (Obj.mapSeq fun a=>a.push y)).get? D = some (lstObj (its ++ [y]) (n + 1)):=by
      have q':(s4.heap.update D (Obj.mapSeq fun a=>a.push y)).get? D = some { cls:=.type "list", data:=.seq (its.toArray.push y) (if ((its.toArray.push y).size == its.toArray.size) = true then n else n + 1) }:=q
      rw [q',sz,if_neg Bool.false_ne_true]
      simp
    have I9:Inv (X.blk sc cl C (lcG X xs js) s₂ H₂ fp) pl (lcT σ0 js o1) H8 s4:=I8.pins_of fun p hp=>I8.pin p (List.mem_append_right _ (List.mem_cons_of_mem _ hp))
    have oth:∀ b o,b≠D→s4.heap.get? b = some o→(s4.heap.update D (Obj.mapSeq fun a=>a.push y)).get? b = some o:=fun b o hb e=>(Heap.get?_update_other _ _ (Ne.symm hb)).trans e
    have I10:=I9.turned (t':=s4.toks) (h':=s4.heap.update D (Obj.mapSeq fun a=>a.push y)) (it:=D) oth p2 hDC (.inr hD0) hDc (fun p hp=>hDp p hp)
    refine ⟨z,y,H8,o1,l1,q8,r8,I10.pins_of fun p hp=>?_⟩
    rcases List.mem_cons.mp hp with e | e
    · subst e
      exact ⟨e3,p2,p3,p4,fun w hw=>by cases hw⟩
    · exact I10.pin p (List.mem_append_right _ e)
theorem lc_coreG {use:Option (Value→Sem Unit)} {QQ:Value→Shared→Prop} {Fin:List V→Hp→Prop} {pins:List (Addr × Obj)} {s:Shared} {σ:St} {H:Hp} (hosc:X.env.scope = osc) (L:LcOkG osc sc xs (js.map fun j=>X.N.getD j "")) {rd:Cx→Prop} (hc:∀ sc cl C N s H fp,rd (X.blk sc cl C N s H fp)) (hi:PIr rd X tg iter wi) (hg:∀ (cl:List (Str × Addr)) (C:Addr) (s₂:Shared) (H₂:Hp) (fp:List Addr),PG (X.blk sc cl C (lcG X xs js) s₂ H₂ fp) tg g) (hjs:∀ j∈js,j < X.N.length)
    (ht:∀ (cl:List (Str × Addr)) (C:Addr) (s₂:Shared) (H₂:Hp) (fp:List Addr) (pins:List (Addr × Obj)) (s':Shared) (σ':St) (H':Hp) (Q:Bool→Hp→Prop),Inv (X.blk sc cl C (lcG X xs js) s₂ H₂ fp) pins σ' H' s'→tt σ' H' Q →
      wpAny (model X.prog X.w) X.A (lcTests ifs (compEnvC sc cl C X.env)) (TP (X.blk sc cl C (lcG X xs js) s₂ H₂ fp) pins σ' Q) (fun _ _=>False) s')
    (he:∀ (cl:List (Str × Addr)) (C:Addr) (s₂:Shared) (H₂:Hp) (fp:List Addr),PE (X.blk sc cl C (lcG X xs js) s₂ H₂ fp) elt te)
    (hs:∀ x,foldedSetIterable iter X.env x = pure x) (I:Inv X pins σ H s)
    (h:wi σ H fun J H1=>∃ W:Nat→Nat→List V→Hp→Prop,(∃ m,W 0 m [] H1)∧∀ i m ys H,W i m ys H→(J.stop i H∧Fin ys H) ∨
      (J.go i H∧ys.length < sizeLine∧∀ x H',J.yld i H x H'→∀ o0:List (Option V),o0.length = xs.length→g x (lcT σ js o0) H' fun σ2 H1=>∃ o1,σ2 = lcT σ js o1∧o1.length = xs.length∧tt σ2 H1 fun b H2 =>
        if b = true then te σ2 H2 fun v H3=>∃ m',m' < m∧W (i + 1) m' (ys ++ [v]) H3 else ∃ m',m' < m∧W (i + 1) m' ys H2))
    (hfin:∀ (D C:Addr) (s5:Shared) (H5:Hp) (ys:List V) (its:List Value) (k:Nat) (m5:Str→Option Value),Inv X pins σ H5 s5→Own X pins H5 D→Own X pins H5 C→D≠C→s5.heap.get? D = some (lstObj its k)→Vals ys its→ys.length≤sizeLine→s5.heap.Ns C m5→Fin ys H5 →
      compPost (model X.prog X.w) X.A X.xe use QQ (.ref D) C (.ok .next) s5) :
    wpAny (model X.prog X.w) X.A (comprehension (.ListComp elt [⟨tg,iter,ifs,0⟩] sc pos) sc X.env (firstIterPos [⟨tg,iter,ifs,0⟩] pos) (newList []) false (eval iter X.env) use) QQ X.xe s:=by
  have hcl:closureFor sc X.env = pure (clo sc.names X.env.cells []):=closure_eq fun y hy=>by
    have ho:X.env.kindOf y = some .cell∨X.env.kindOf y = some .free:=by
      show X.env.scope.names.lookup y = _∨X.env.scope.names.lookup y = _
      rw [hosc]
      exact L.fr _ hy rfl
    obtain ⟨c,e⟩:=I.ok.has y ho
    rw [e]; rfl
  refine wpAny_comprehension_free (use:=use) rfl hs hcl L.kind L.names (thn (hi pins s σ H _ I h) fun v s1 h1=>thn h1 fun itv s2 h2=>?_)
  obtain ⟨it,fp,tn,J,H2,e,I2,T,st2,f2,W,⟨m0,w0⟩,turn⟩:=h2
  subst e
  refine wpAny_newObj_type (wpAny_newFunctionEnv L.nocell (by intro y hy; simp at hy) (fun h₁ hns₁ hsb₁=>?_) L.kind)
  dsimp only at hns₁ hsb₁ ⊢
  generalize hG:s2.heap.push { cls:=.type "list", dict:=none,data:=.seq ([]:List Value).toArray } = G at hns₁ hsb₁ ⊢
  have hGs:G.objs.size = s2.heap.objs.size + 1:=by rw [← hG,Heap.size_push]
  have hCle:s2.heap.objs.size≤G.objs.size:=by rw [hGs]; exact Nat.le_succ _
  have hDC:s2.heap.objs.size≠G.objs.size:=by rw [hGs]; exact Nat.ne_of_lt (Nat.lt_succ_self _)
  have old:∀ b o,s2.heap.get? b = some o→h₁.get? b = some o:=fun b o e=>by
    have lt:=Heap.lt_size e
    refine hsb₁.extBut b o (Nat.ne_of_lt (Nat.lt_of_lt_of_le lt hCle)) (Heap.get?_push_of_some _ ?_)
    rw [← hG]
    exact Heap.get?_push_of_some _ e
  have hacc:h₁.get? s2.heap.objs.size = some (lstObj [] 0):=by
    refine hsb₁.extBut _ _ hDC (Heap.get?_push_of_some _ ?_)
    rw [← hG]
    exact Heap.get?_push_size _ rfl
  have lt:∀ b∈fp,b < s2.heap.objs.size:=fun b hb=>by
    obtain ⟨o,e,_⟩:=T.obj _ _ st2 b hb
    exact Heap.lt_size e
  have clS:∀ y c,(clo sc.names X.env.cells []).lookup y = some c→X.env.cells.lookup y = some c:=clo_sound _ _ [] (fun _ _ e=>by simp at e)
  have clLt:∀ y c,(clo sc.names X.env.cells []).lookup y = some c→c < s2.heap.objs.size:=fun y c e=>by
    obtain ⟨v,o,q,_⟩:=I2.cell y c (clS y c e)
    exact Heap.lt_size q
  have Bok:(X.blk sc (clo sc.names X.env.cells []) G.objs.size (lcG X xs js) s2 H2 fp).Ok:=blk_okG I2 hosc L f2 lt hCle
  have fresh:∀ a,s2.heap.objs.size≤a→H2 a = none:=fun a ha=>I2.hok.fresh ha
  have frs_lt:∀ b∈frs X.stack,b < s2.heap.objs.size:=fun b hb=>by
    rcases List.mem_cons.mp (I2.stkSub b hb) with z | z
    · rw [z]; exact I2.lt
    · refine Nat.lt_of_not_le fun q=>I2.nofs q z
  have B0:Inv (X.blk sc (clo sc.names X.env.cells []) G.objs.size (lcG X xs js) s2 H2 fp) [(s2.heap.objs.size,lstObj [] 0)] (lcT σ js (List.replicate xs.length none)) H2 { s2 with heap:=h₁,toks:=s2.toks + ([]:List (Str × Value)).length }:=by
    refine ⟨Bok,rfl,I2.bare,Un.kept old,⟨_,hns₁,fun i y v e1 e2 e3=>?_⟩,fun y c e=>?_,fresh _ hCle,fun y c e=>I2.freeC y c (clS y c e),fun p hp=>?_,I2.hok.kept old,?_⟩
    · by_cases hlt:i < xs.length
      · exfalso
        have e2'':(List.replicate xs.length (none:Option V) ++ js.map fun j=>σ.getD j none)[i]? = some (some v):=e2
        rw [List.getElem?_append_left (by rw [List.length_replicate]; exact hlt),List.getElem?_replicate,if_pos hlt] at e2''
        cases e2''
      · have e1':(js.map fun j=>X.N.getD j "")[i - xs.length]? = some y:=by
          have z:(xs ++ js.map fun j=>X.N.getD j "")[i]? = some y:=e1
          rw [List.getElem?_append_right (by omega)] at z
          exact z
        have e2':(js.map fun j=>σ.getD j none)[i - xs.length]? = some (some v):=by
          have z:(List.replicate xs.length (none:Option V) ++ js.map fun j=>σ.getD j none)[i]? = some (some v):=e2
          rw [List.getElem?_append_right (by rw [List.length_replicate]; omega),List.length_replicate] at z
          exact z
        have e1s:=e1'
        rw [List.getElem?_map] at e1' e2'
        cases hj:js[i - xs.length]? with
        | none=>rw [hj] at e1'; cases e1'
        | some j =>
          rw [hj] at e1' e2'
          have e4:X.N.getD j "" = y:=Option.some.inj e1'
          have e5:σ.getD j none = some v:=Option.some.inj e2'
          have hjl:=hjs j (List.mem_of_getElem? hj)
          have e6:X.N[j]? = some y:=by
            rw [List.getD_eq_getElem?_getD,List.getElem?_eq_getElem hjl] at e4
            rw [List.getElem?_eq_getElem hjl]
            exact congrArg some e4
          have e7:σ[j]? = some (some v):=by
            rw [List.getD_eq_getElem?_getD] at e5
            cases hq:σ[j]? with
            | none=>rw [hq] at e5; cases e5
            | some w=>rw [hq] at e5; exact congrArg some e5
          obtain ⟨hm0,hk⟩:=L.fvs y (List.mem_of_getElem? e1s)
          have hm:(y,NameKind.free)∈sc.names:=PySem.mem_of_lookup hm0
          have hk':X.env.kindOf y = some .cell∨X.env.kindOf y = some .free:=by
            show X.env.scope.names.lookup y = _∨X.env.scope.names.lookup y = _
            rw [hosc]; exact hk
          have hv:Vis X.env.scope y:=by rcases hk' with z | z; exact .inr (.inl z); exact .inr (.inr z)
          obtain ⟨m,hn,hl⟩:=I2.loc
          obtain ⟨u,r,l⟩:=hl j y v e6 e7 hv
          refine ⟨u,r,.inr ?_⟩
          rcases l with ⟨z,_⟩ | ⟨_,c,hc1,hc2⟩
          · rw [z] at hk'; rcases hk' with q | q <;> cases q
          · have hs2:((clo sc.names X.env.cells []).lookup y).isSome = true:=clo_has _ _ [] y hm (by rw [hc1]; rfl)
            obtain ⟨c',hc'⟩:=Option.isSome_iff_exists.mp hs2
            have hcc:c' = c:=by have:=clS y c' hc'; rw [hc1] at this; exact (Option.some.inj this).symm
            subst hcc
            obtain ⟨o,ho,hd⟩:=hc2
            exact ⟨relabel_fv hm0,c',hc',o,old _ o ho,hd⟩
    · obtain ⟨v,o,q,d⟩:=I2.cell y c (clS y c e)
      exact ⟨v,o,old _ o q,d⟩
    · have e:p = (s2.heap.objs.size,lstObj [] 0):=by simpa using hp
      subst e
      exact ⟨hacc,fresh _ (Nat.le_refl _),hDC,fun z=>Nat.lt_irrefl _ (frs_lt _ z),fun w hw=>by cases hw⟩
    · show _ = (lcG X xs js).length
      simp
  have stat:∀ {H':Hp} {pl:List (Addr × Obj)},(∀ b∈fp,H' b = none)→(∀ p∈pl,p.1 = s2.heap.objs.size)→∀ b∈fp,FpOk (X.blk sc (clo sc.names X.env.cells []) G.objs.size (lcG X xs js) s2 H2 fp) pl H' b:=fun hn hp b hb =>
    ⟨hn b hb,(Bok.exf b hb).1,Bok.exfs b hb,.inl hb,(Bok.exf b hb).2,fun p hm=>by
      rw [hp p (by simpa using hm)]
      exact Ne.symm (Nat.ne_of_lt (lt b hb))⟩
  have loop:∀ s3:Shared,s3 = { s2 with heap:=h₁,toks:=s2.toks + ([]:List (Str × Value)).length } →
      codeAny (model X.prog X.w) X.A (.compLoop (.ListComp elt [⟨tg,iter,ifs,0⟩] sc pos) 0 (.ref it) (.ref s2.heap.objs.size) (compEnvC sc (clo sc.names X.env.cells []) G.objs.size X.env))
        (compPost (model X.prog X.w) X.A X.xe use QQ (.ref s2.heap.objs.size) G.objs.size) s3:=by
    rintro s3 rfl
    refine lc_loop (fun n s'=>∃ i ys its k o0 H',o0.length = xs.length∧Inv (X.blk sc (clo sc.names X.env.cells []) G.objs.size (lcG X xs js) s2 H2 fp) [(s2.heap.objs.size,lstObj its k)] (lcT σ js o0) H' s'∧tn i s'.heap∧(∀ b∈fp,H' b = none)∧Vals ys its∧ys.length≤sizeLine∧W i n ys H') ?_ m0
      ⟨0,[],[],0,List.replicate xs.length none,H2,List.length_replicate,B0,T.keep _ _ _ st2 fun b _ o e=>old b o e,fun b hb=>(f2 b hb).1,.nil,Nat.zero_le _,w0⟩
    rintro n s4 ⟨i,ys,its,k,o0,H4,lo0,I4,st4,fr4,vs4,z4,w4⟩
    have one:∀ p∈[(s2.heap.objs.size,lstObj its k)],p.1 = s2.heap.objs.size:=fun p hp=>by
      have e:p = (s2.heap.objs.size,lstObj its k):=by simpa using hp
      rw [e]
    rcases turn i n ys H4 w4 with ⟨stop,qn⟩ | ⟨go,zl,step⟩
    · refine thn (T.done (X.blk sc (clo sc.names X.env.cells []) G.objs.size (lcG X xs js) s2 H2 fp) rfl rfl rfl (hc _ _ _ _ _ _ _) i _ s4 _ H4 _ I4 (stat fr4 one) st4 stop) fun r s5 ⟨hr,I5⟩=>?_
      subst hr
      obtain ⟨m5,hn5,_⟩:=I5.loc
      obtain ⟨p1,p2,p3,p4,p5⟩:=I5.pin (s2.heap.objs.size,lstObj its k) (by simp)
      have ch:∀ b∈fp,(b∈X.ex∨X.s₀.heap.objs.size≤b)∧b≠X.env.locals∧(∀ x c,X.env.cells.lookup x = some c→c≠b)∧∀ p∈X.pn ++ pins,p.1≠b:=fun b hb =>
        ⟨(f2 b hb).2.2.2.1,(f2 b hb).2.1,(f2 b hb).2.2.2.2.1,(f2 b hb).2.2.2.2.2⟩
      have J1:Inv X pins σ H4 s5:=I2.call' I5.os I5.base I5.hok I5.bare ch
      have ltp:∀ p∈X.pn ++ pins,p.1 < s2.heap.objs.size:=fun p hp=>Heap.lt_size (I2.pin p hp).1
      have ltc:∀ y c,X.env.cells.lookup y = some c→c < s2.heap.objs.size:=fun y c e=>by
        obtain ⟨v,o,q,_⟩:=I2.cell y c e
        exact Heap.lt_size q
      have s0:X.s₀.heap.objs.size≤s2.heap.objs.size:=I2.sz
      have own:∀ a,s2.heap.objs.size≤a→H4 a = none→Own X pins H4 a:=fun a ha hn=>⟨hn,Ne.symm (Nat.ne_of_lt (Nat.lt_of_lt_of_le I2.lt ha)),Nat.le_trans s0 ha,fun y c e=>Nat.ne_of_lt (Nat.lt_of_lt_of_le (ltc y c e) ha),
        fun p hp=>Nat.ne_of_lt (Nat.lt_of_lt_of_le (ltp p hp) ha),I2.nofs ha⟩
      exact hfin _ _ s5 H4 ys its k m5 J1 (own _ (Nat.le_refl _) p2) (own _ hCle I5.free) hDC p1 vs4 z4 hn5 qn
    · refine thn (T.item (X.blk sc (clo sc.names X.env.cells []) G.objs.size (lcG X xs js) s2 H2 fp) rfl rfl rfl (hc _ _ _ _ _ _ _) i _ s4 _ H4 _ I4 (stat fr4 one) st4 go) fun r s5 ⟨u,hr,h5⟩=>?_
      subst hr
      refine wpAny_mono h5 (fun _ s5' ⟨v,H6,I6,r6,y6,st6,fr6⟩=>?_) fun _ _ z=>z
      have I7:=I6.pinned (stat fr6 one) (T.obj _ _ st6)
      have ndis:∀ p∈pinsAt fp s5'.heap,p.1≠s2.heap.objs.size:=fun p hp=>Nat.ne_of_lt (lt _ (of_pinsAt hp).1)
      have lenE:=vs4.length
      have back:∀ {its':List Value} {k':Nat} {H7:Hp} {s7:Shared} {ys':List V} {m':Nat} {o1:List (Option V)},o1.length = xs.length→Inv (X.blk sc (clo sc.names X.env.cells []) G.objs.size (lcG X xs js) s2 H2 fp) ((s2.heap.objs.size,lstObj its' k') :: pinsAt fp s5'.heap) (lcT σ js o1) H7 s7 →
          Vals ys' its'→ys'.length≤sizeLine→m' < n→W (i + 1) m' ys' H7→∃ m,m < n∧∃ i ys its k o0 H',o0.length = xs.length∧Inv (X.blk sc (clo sc.names X.env.cells []) G.objs.size (lcG X xs js) s2 H2 fp) [(s2.heap.objs.size,lstObj its k)] (lcT σ js o0) H' s7∧tn i s7.heap∧(∀ b∈fp,H' b = none)∧Vals ys its∧ys.length≤sizeLine∧W i m ys H':=by
        intro its' k' H7 s7 ys' m' o1 l1 J vs' z' hm w'
        refine ⟨m',hm,i + 1,ys',its',k',o1,H7,l1,J.pins_of fun p hp=>J.pin p (List.mem_append_right _ (by simp at hp; simp [hp])),?_,?_,vs',z',w'⟩
        · exact T.keep _ _ _ st6 fun b hb o e=>(J.pin (b,o) (List.mem_append_right _ (List.mem_cons_of_mem _ (mem_pinsAt hb e)))).1
        · intro b hb
          obtain ⟨o,e,_⟩:=T.obj _ _ st6 b hb
          exact (J.pin (b,o) (List.mem_append_right _ (List.mem_cons_of_mem _ (mem_pinsAt hb e)))).2.1
      refine wpAny_mono (lc_turnG (X:=X) (sc:=sc) (xs:=xs) (js:=js) (tg:=tg) (g:=g) (elt:=elt) (ifs:=ifs) (tt:=tt) (te:=te) (D:=s2.heap.objs.size) (its:=its) (n:=k) (pl:=pinsAt fp s5'.heap)
        (hg _ _ _ _ _) I7 r6 (ht _ _ _ _ _) (he _ _ _ _ _) (by omega) (Nat.le_refl _) hDC (fun y c e=>Nat.ne_of_lt (clLt y c e)) ndis (step v H6 y6 o0 lo0)) (fun _ s6 h6=>?_) fun _ _ z=>z
      refine wpAny_mono h6 (fun ok s7 h7=>?_) fun _ _ z=>z
      cases ok with
      | false =>
        rw [if_neg Bool.false_ne_true] at h7 ⊢
        obtain ⟨H7,o1,l1,⟨m',hm,w'⟩,J⟩:=h7
        exact back l1 J vs4 z4 hm w'
      | true =>
        rw [if_pos rfl] at h7 ⊢
        refine wpAny_mono h7 (fun y s8 h8=>?_) fun _ _ z=>z
        refine wpAny_mono h8 (fun _ s9 h9=>?_) fun _ _ z=>z
        obtain ⟨z,y',H9,o1,l1,⟨m',hm,w'⟩,rz,J⟩:=h9
        refine back l1 J (vs4.append (.cons rz .nil)) ?_ hm w'
        rw [List.length_append,List.length_singleton]
        omega
  exact codeAny_compStart_list (loop _ rfl) (T.self _ 0 _ _ _ (T.keep _ _ _ st2 fun b _ o e=>old b o e) (loop _ rfl))
end
section
variable {X:Cx} {sc osc:Scope} {x:Str} {js:List Nat} {elt iter:Expr} {px pos:Pos} {ifs:List Expr} {wi:TI} {tt:TT} {te:TE}
theorem lc_core {use:Option (Value→Sem Unit)} {QQ:Value→Shared→Prop} {Fin:List V→Hp→Prop} {pins:List (Addr × Obj)} {s:Shared} {σ:St} {H:Hp} (hosc:X.env.scope = osc) (L:LcOk osc sc x (js.map fun j=>X.N.getD j "")) {rd:Cx→Prop} (hc:∀ sc cl C N s H fp,rd (X.blk sc cl C N s H fp)) (hi:PIr rd X (.Name x px) iter wi) (hjs:∀ j∈js,j < X.N.length)
    (ht:∀ (cl:List (Str × Addr)) (C:Addr) (s₂:Shared) (H₂:Hp) (fp:List Addr) (pins:List (Addr × Obj)) (s':Shared) (σ':St) (H':Hp) (Q:Bool→Hp→Prop),Inv (X.blk sc cl C (lcN X x js) s₂ H₂ fp) pins σ' H' s'→tt σ' H' Q →
      wpAny (model X.prog X.w) X.A (lcTests ifs (compEnvC sc cl C X.env)) (TP (X.blk sc cl C (lcN X x js) s₂ H₂ fp) pins σ' Q) (fun _ _=>False) s')
    (he:∀ (cl:List (Str × Addr)) (C:Addr) (s₂:Shared) (H₂:Hp) (fp:List Addr),PE (X.blk sc cl C (lcN X x js) s₂ H₂ fp) elt te)
    (hs:∀ x,foldedSetIterable iter X.env x = pure x) (I:Inv X pins σ H s)
    (h:wi σ H fun J H1=>∃ W:Nat→Nat→List V→Hp→Prop,(∃ m,W 0 m [] H1)∧∀ i m ys H,W i m ys H→(J.stop i H∧Fin ys H) ∨
      (J.go i H∧ys.length < sizeLine∧∀ x H',J.yld i H x H'→tt (lcS σ js (some x)) H' fun b H2 =>
        if b = true then te (lcS σ js (some x)) H2 fun v H3=>∃ m',m' < m∧W (i + 1) m' (ys ++ [v]) H3 else ∃ m',m' < m∧W (i + 1) m' ys H2))
    (hfin:∀ (D C:Addr) (s5:Shared) (H5:Hp) (ys:List V) (its:List Value) (k:Nat) (m5:Str→Option Value),Inv X pins σ H5 s5→Own X pins H5 D→Own X pins H5 C→D≠C→s5.heap.get? D = some (lstObj its k)→Vals ys its→ys.length≤sizeLine→s5.heap.Ns C m5→Fin ys H5 →
      compPost (model X.prog X.w) X.A X.xe use QQ (.ref D) C (.ok .next) s5) :
    wpAny (model X.prog X.w) X.A (comprehension (.ListComp elt [⟨.Name x px,iter,ifs,0⟩] sc pos) sc X.env (firstIterPos [⟨.Name x px,iter,ifs,0⟩] pos) (newList []) false (eval iter X.env) use) QQ X.xe s:=by
  have e:(fun (J:It) (H1:Hp)=>∃ W:Nat→Nat→List V→Hp→Prop,(∃ m,W 0 m [] H1)∧∀ i m ys H,W i m ys H→(J.stop i H∧Fin ys H) ∨
      (J.go i H∧ys.length < sizeLine∧∀ x H',J.yld i H x H'→tt (lcS σ js (some x)) H' fun b H2 =>
        if b = true then te (lcS σ js (some x)) H2 fun v H3=>∃ m',m' < m∧W (i + 1) m' (ys ++ [v]) H3 else ∃ m',m' < m∧W (i + 1) m' ys H2)) =
      (fun (J:It) (H1:Hp)=>∃ W:Nat→Nat→List V→Hp→Prop,(∃ m,W 0 m [] H1)∧∀ i m ys H,W i m ys H→(J.stop i H∧Fin ys H) ∨
      (J.go i H∧ys.length < sizeLine∧∀ y H',J.yld i H y H'→∀ o0:List (Option V),o0.length = [x].length→gName 0 y (lcT σ js o0) H' fun σ2 H1=>∃ o1,σ2 = lcT σ js o1∧o1.length = [x].length∧tt σ2 H1 fun b H2 =>
        if b = true then te σ2 H2 fun v H3=>∃ m',m' < m∧W (i + 1) m' (ys ++ [v]) H3 else ∃ m',m' < m∧W (i + 1) m' ys H2)):=by
    funext J H1
    refine propext ⟨fun ⟨W,w0,w1⟩=>⟨W,w0,fun i m ys H hw=>?_⟩,fun ⟨W,w0,w1⟩=>⟨W,w0,fun i m ys H hw=>?_⟩⟩
    · rcases w1 i m ys H hw with a | ⟨a,b,c⟩
      · exact .inl a
      · refine .inr ⟨a,b,fun y H' hy o0 ho=>?_⟩
        match o0,ho with
        | [o],_=>exact ⟨[some y],rfl,rfl,c y H' hy⟩
    · rcases w1 i m ys H hw with a | ⟨a,b,c⟩
      · exact .inl a
      · refine .inr ⟨a,b,fun y H' hy=>?_⟩
        obtain ⟨o1,e1,e2,e3⟩:=c y H' hy [none] rfl
        exact e3
  rw [e] at h
  exact lc_coreG (xs:=[x]) (g:=gName 0) hosc ⟨L.kind,L.nocell,L.names,L.fr,L.fvs⟩ hc hi (fun cl C s₂ H₂ fp=>pg_name (X:=X.blk sc cl C (lcG X [x] js) s₂ H₂ fp) L.nd rfl (.inl (lookup_relabel_local L.hx)) (.inr (lookup_relabel_local L.hx))) hjs ht he hs I h hfin
theorem pe_lcTr (hosc:X.env.scope = osc) (L:LcOk osc sc x (js.map fun j=>X.N.getD j "")) {rd:Cx→Prop} (hc:∀ sc cl C N s H fp,rd (X.blk sc cl C N s H fp)) (hi:PIr rd X (.Name x px) iter wi) (hjs:∀ j∈js,j < X.N.length)
    (ht:∀ (cl:List (Str × Addr)) (C:Addr) (s₂:Shared) (H₂:Hp) (fp:List Addr) (pins:List (Addr × Obj)) (s':Shared) (σ':St) (H':Hp) (Q:Bool→Hp→Prop),Inv (X.blk sc cl C (lcN X x js) s₂ H₂ fp) pins σ' H' s'→tt σ' H' Q →
      wpAny (model X.prog X.w) X.A (lcTests ifs (compEnvC sc cl C X.env)) (TP (X.blk sc cl C (lcN X x js) s₂ H₂ fp) pins σ' Q) (fun _ _=>False) s')
    (he:∀ (cl:List (Str × Addr)) (C:Addr) (s₂:Shared) (H₂:Hp) (fp:List Addr),PE (X.blk sc cl C (lcN X x js) s₂ H₂ fp) elt te)
    (hs:∀ x,foldedSetIterable iter X.env x = pure x:=by intro _; rfl) :
    PE X (.ListComp elt [⟨.Name x px,iter,ifs,0⟩] sc pos) (tLC wi js tt te):=by
  intro pins s σ H Q I h
  rw [eval_ListComp]
  refine lc_core (use:=none) (Fin:=fun ys H=>∀ p,H p = none→Q (.ref p) (upd H p (.lst ys))) hosc L hc hi hjs ht he hs I h fun D C s5 H5 ys its k m5 J oD oC hDC p1 vs z hn fin=>?_
  refine ⟨m5,hn,fun h' hsb=>?_⟩
  have J2:Inv X pins σ H5 { s5 with heap:=h',toks:=s5.toks }:=J.turned (it:=C) (fun b o hb e=>hsb.extBut b o hb e) oC.free oC.loc (.inr oC.new) oC.cel oC.pin
  have p1':h'.get? D = some (lstObj its k):=hsb.extBut _ _ hDC p1
  have J3:Inv X pins σ (upd H5 D (.lst ys)) { s5 with heap:=h',toks:=s5.toks }:=J2.track oD.free oD.loc oD.new oD.cel oD.pin ⟨z,its,k,vs,p1'⟩
  exact ⟨.ref D,_,J3,rfl,fin D oD.free⟩
theorem pe_lcT (hosc:X.env.scope = osc) (L:LcOk osc sc x (js.map fun j=>X.N.getD j "")) (hc:X.calm = true) (hi:PI X (.Name x px) iter wi) (hjs:∀ j∈js,j < X.N.length)
    (ht:∀ (cl:List (Str × Addr)) (C:Addr) (s₂:Shared) (H₂:Hp) (fp:List Addr) (pins:List (Addr × Obj)) (s':Shared) (σ':St) (H':Hp) (Q:Bool→Hp→Prop),Inv (X.blk sc cl C (lcN X x js) s₂ H₂ fp) pins σ' H' s'→tt σ' H' Q →
      wpAny (model X.prog X.w) X.A (lcTests ifs (compEnvC sc cl C X.env)) (TP (X.blk sc cl C (lcN X x js) s₂ H₂ fp) pins σ' Q) (fun _ _=>False) s')
    (he:∀ (cl:List (Str × Addr)) (C:Addr) (s₂:Shared) (H₂:Hp) (fp:List Addr),PE (X.blk sc cl C (lcN X x js) s₂ H₂ fp) elt te)
    (hs:∀ x,foldedSetIterable iter X.env x = pure x:=by intro _; rfl) :
    PE X (.ListComp elt [⟨.Name x px,iter,ifs,0⟩] sc pos) (tLC wi js tt te) :=
  pe_lcTr hosc L (rd:=Calm) (fun _ _ _ _ _ _ _=>hc) hi hjs ht he hs
def sLC (i:Nat) (wi:TI) (js:List Nat) (tt:TT) (te:TE):TS:=fun D σ H=>tLC wi js tt te σ H fun v H1=>D.nx (σ.set i (some v)) H1
theorem ps_setLC {i:Nat} {y:Str} {py spos:Pos} (hN:X.N.Nodup) (hy:X.N[i]? = some y) (hl:Loc X.env.scope y) (hf:X.fn y = true∨X.env.scope.names.lookup y = some .local)
    (hosc:X.env.scope = osc) (L:LcOk osc sc x (js.map fun j=>X.N.getD j "")) (hc:X.calm = true) (hi:PI X (.Name x px) iter wi) (hjs:∀ j∈js,j < X.N.length)
    (ht:∀ (cl:List (Str × Addr)) (C:Addr) (s₂:Shared) (H₂:Hp) (fp:List Addr) (pins:List (Addr × Obj)) (s':Shared) (σ':St) (H':Hp) (Q:Bool→Hp→Prop),Inv (X.blk sc cl C (lcN X x js) s₂ H₂ fp) pins σ' H' s'→tt σ' H' Q →
      wpAny (model X.prog X.w) X.A (lcTests ifs (compEnvC sc cl C X.env)) (TP (X.blk sc cl C (lcN X x js) s₂ H₂ fp) pins σ' Q) (fun _ _=>False) s')
    (he:∀ (cl:List (Str × Addr)) (C:Addr) (s₂:Shared) (H₂:Hp) (fp:List Addr),PE (X.blk sc cl C (lcN X x js) s₂ H₂ fp) elt te)
    (hsw:swapsWith (.ListComp elt [⟨.Name x px,iter,ifs,0⟩] sc pos) (some (.Name y py)) spos.line X.env = pure true) (hs:∀ x,foldedSetIterable iter X.env x = pure x:=by intro _; rfl) :
    PS X (.Assign [.Name y py] (.ListComp elt [⟨.Name x px,iter,ifs,0⟩] sc pos) spos) (sLC i wi js tt te):=by
  intro pins s σ H D I h
  rw [exec_Assign_Name_used _ _ _ _ hsw]
  refine wpAny_bind (wpAny_standAt (wpAny_bind ?_))
  show wpAny _ _ (do let _ ← comprehension (.ListComp elt [⟨.Name x px,iter,ifs,0⟩] sc pos) sc X.env _ (newList []) false (eval iter X.env) (some (assign (.Name y py) X.env))) _ _ s
  have pg:=pg_name (X:=X) (i:=i) (x:=y) (pos:=py) hN hy hl hf
  refine wpAny_bind (wpAny_mono (lc_core (use:=some (assign (.Name y py) X.env)) (QQ:=fun _ z=>SP X pins D .next z) (Fin:=fun ys H=>∀ p,H p = none→D.nx (σ.set i (some (.ref p))) (upd H p (.lst ys))) hosc L (rd:=Calm) (fun _ _ _ _ _ _ _=>hc) hi hjs ht he hs I h fun A C s5 H5 ys its k m5 J oD oC hDC p1 vs z hn fin=>?_) (fun _ z hq=>wpAny_pure (wpAny_pure hq)) fun _ _ e=>e)
  have J1:Inv X pins σ (upd H5 A (.lst ys)) s5:=J.track oD.free oD.loc oD.new oD.cel oD.pin ⟨z,its,k,vs,p1⟩
  obtain ⟨oc,es,ep,hC,hd,hr⟩:=hn
  have nocell:∀ v,oc.data≠.cell v:=fun v q=>by rw [hd] at q; cases q
  have hCA:C≠A:=Ne.symm hDC
  have fC:(upd H5 A (.lst ys)) C = none:=by rw [upd_ne hCA]; exact oC.free
  have J2:Inv X (pins ++ [(C,oc)]) σ (upd H5 A (.lst ys)) s5:=J1.pins_of fun p hp=>(List.mem_append.mp hp).elim (fun q=>J1.pin p (List.mem_append_right _ q)) fun q=>by
    have e:p = (C,oc):=by simpa using q
    subst e
    exact ⟨hC,fC,oC.loc,oC.fs,nocell⟩
  refine wpAny_mono (pg _ s5 σ _ (.ref A) (.ref A) (fun σ6 H6=>σ6 = σ.set i (some (.ref A))∧H6 = upd H5 A (.lst ys)) J2 rfl ⟨rfl,rfl⟩) (fun _ s6 ⟨σ6,H6,I6,e1,e2⟩=>?_) fun _ _ e=>e
  subst e1 e2
  obtain ⟨c1,c2,_⟩:=I6.pin (C,oc) (List.mem_append_right _ (List.mem_append_right _ (by simp)))
  refine ⟨m5,⟨oc,es,ep,c1,hd,hr⟩,fun h' hsb=>?_⟩
  have J3:Inv X pins (σ.set i (some (.ref A))) (upd H5 A (.lst ys)) s6:=I6.pins_of fun p hp=>I6.pin p (List.mem_append_right _ (List.mem_append_left _ hp))
  have J4:Inv X pins (σ.set i (some (.ref A))) (upd H5 A (.lst ys)) { s6 with heap:=h',toks:=s6.toks }:=J3.turned (it:=C) (fun b o hb e=>hsb.extBut b o hb e) c2 oC.loc (.inr oC.new) oC.cel oC.pin
  exact ⟨_,_,J4,fin A oD.free⟩
end
end L2
namespace L2
open PySem PySem.Spec PyProof.Rows
section
variable {X:Cx}
def tYes:TT:=fun _ H Q=>Q true H
theorem pe_lc0 {sc osc:Scope} {x:Str} {js:List Nat} {elt iter:Expr} {px pos:Pos} {wi:TI} {te:TE} (hosc:X.env.scope = osc) (L:LcOk osc sc x (js.map fun j=>X.N.getD j "")) (hc:X.calm = true) (hi:PI X (.Name x px) iter wi) (hjs:∀ j∈js,j < X.N.length)
    (he:∀ (cl:List (Str × Addr)) (C:Addr) (s₂:Shared) (H₂:Hp) (fp:List Addr),PE (X.blk sc cl C (lcN X x js) s₂ H₂ fp) elt te)
    (hs:∀ x,foldedSetIterable iter X.env x = pure x:=by intro _; rfl) :
    PE X (.ListComp elt [⟨.Name x px,iter,[],0⟩] sc pos) (tLC wi js tYes te) :=
  pe_lcT hosc L hc hi hjs (fun cl C s₂ H₂ fp pins s' σ' H' Q I h=>wpAny_pure ⟨H',I,h⟩) he hs
theorem lc_list {K:PySem.W.Frag} {a:Addr} {xs:List V} {σ:St} {js:List Nat} {tt:TT} {te:TE} {H:Hp} {Qf:Addr→Hp→List V→Prop} (Pv:Nat→List V→Hp→Prop) (h0:Pv 0 [] H) (hz:xs.length≤sizeLine)
    (hl:∀ i ys H,i≤xs.length→Pv i ys H→SqL K H a xs∧ys.length≤i)
    (hs:∀ i x ys H,xs[i]? = some x→Pv i ys H→tt (lcS σ js (some x)) H fun b H2=>if b = true then te (lcS σ js (some x)) H2 fun v H3=>Pv (i + 1) (ys ++ [v]) H3 else Pv (i + 1) ys H2)
    (mt:∀ σ H Q Q',(∀ b H1,Q b H1→Q' b H1)→tt σ H Q→tt σ H Q') (me:∀ σ H Q Q',(∀ v H1,Q v H1→Q' v H1)→te σ H Q→te σ H Q')
    (hd:∀ ys H p,Pv xs.length ys H→H p = none→Qf p H ys) :
    ∃ W:Nat→Nat→List V→Hp→Prop,(∃ m,W 0 m [] H)∧∀ i m ys H,W i m ys H →
      ((Itl K a).stop i H∧∀ p,H p = none→Qf p H ys) ∨
      ((Itl K a).go i H∧ys.length < sizeLine∧∀ x H',(Itl K a).yld i H x H'→tt (lcS σ js (some x)) H' fun b H2 =>
        if b = true then te (lcS σ js (some x)) H2 fun v H3=>∃ m',m' < m∧W (i + 1) m' (ys ++ [v]) H3 else ∃ m',m' < m∧W (i + 1) m' ys H2):=by
  refine ⟨fun i m ys H=>m = xs.length - i∧i≤xs.length∧Pv i ys H,⟨xs.length,by simp,Nat.zero_le _,h0⟩,?_⟩
  rintro i m ys H ⟨rfl,hi,p⟩
  obtain ⟨q,hy⟩:=hl i ys H hi p
  by_cases hlt:i < xs.length
  · refine .inr ⟨⟨xs,xs[i],q,by simp [hlt]⟩,by omega,fun x H' y=>?_⟩
    obtain ⟨e,y⟩:=y
    subst e
    refine mt _ _ _ _ (fun b H2 h2=>?_) (hs i x ys _ (y xs q) p)
    cases b with
    | true =>
      rw [if_pos rfl] at h2 ⊢
      exact me _ _ _ _ (fun v H3 h3=>⟨_,by omega,rfl,hlt,h3⟩) h2
    | false =>
      rw [if_neg Bool.false_ne_true] at h2 ⊢
      exact ⟨_,by omega,rfl,hlt,h2⟩
  · have e:i = xs.length:=by omega
    subst e
    exact .inl ⟨⟨xs,q,Nat.le_refl _⟩,fun pp hp=>hd ys H pp p hp⟩
theorem lc_tup {K:PySem.W.Frag} {a:Addr} {xs:List V} {σ:St} {js:List Nat} {tt:TT} {te:TE} {H:Hp} {Qf:Addr→Hp→List V→Prop} (Pv:Nat→List V→Hp→Prop) (h0:Pv 0 [] H) (hz:xs.length≤sizeLine)
    (hl:∀ i ys H,i≤xs.length→Pv i ys H→SqT K H a xs∧ys.length≤i)
    (hs:∀ i x ys H,xs[i]? = some x→Pv i ys H→tt (lcS σ js (some x)) H fun b H2=>if b = true then te (lcS σ js (some x)) H2 fun v H3=>Pv (i + 1) (ys ++ [v]) H3 else Pv (i + 1) ys H2)
    (mt:∀ σ H Q Q',(∀ b H1,Q b H1→Q' b H1)→tt σ H Q→tt σ H Q') (me:∀ σ H Q Q',(∀ v H1,Q v H1→Q' v H1)→te σ H Q→te σ H Q')
    (hd:∀ ys H p,Pv xs.length ys H→H p = none→Qf p H ys) :
    ∃ W:Nat→Nat→List V→Hp→Prop,(∃ m,W 0 m [] H)∧∀ i m ys H,W i m ys H →
      ((Itt K a).stop i H∧∀ p,H p = none→Qf p H ys) ∨
      ((Itt K a).go i H∧ys.length < sizeLine∧∀ x H',(Itt K a).yld i H x H'→tt (lcS σ js (some x)) H' fun b H2 =>
        if b = true then te (lcS σ js (some x)) H2 fun v H3=>∃ m',m' < m∧W (i + 1) m' (ys ++ [v]) H3 else ∃ m',m' < m∧W (i + 1) m' ys H2):=by
  refine ⟨fun i m ys H=>m = xs.length - i∧i≤xs.length∧Pv i ys H,⟨xs.length,by simp,Nat.zero_le _,h0⟩,?_⟩
  rintro i m ys H ⟨rfl,hi,p⟩
  obtain ⟨q,hy⟩:=hl i ys H hi p
  by_cases hlt:i < xs.length
  · refine .inr ⟨⟨xs,xs[i],q,by simp [hlt]⟩,by omega,fun x H' y=>?_⟩
    obtain ⟨e,y⟩:=y
    subst e
    refine mt _ _ _ _ (fun b H2 h2=>?_) (hs i x ys _ (y xs q) p)
    cases b with
    | true =>
      rw [if_pos rfl] at h2 ⊢
      exact me _ _ _ _ (fun v H3 h3=>⟨_,by omega,rfl,hlt,h3⟩) h2
    | false =>
      rw [if_neg Bool.false_ne_true] at h2 ⊢
      exact ⟨_,by omega,rfl,hlt,h2⟩
  · have e:i = xs.length:=by omega
    subst e
    exact .inl ⟨⟨xs,q,Nat.le_refl _⟩,fun pp hp=>hd ys H pp p hp⟩
theorem idxOf_spec {x:V}:∀ {xs:List V} {us:List Value},Vals xs us→xs.all flatV = true→∀ {j:Nat},xs.findIdx? (fun y=>eqV y x) = some j →
    ∃ hj:j < us.length,eqU x us[j] = true∧∀ m (hm:m < us.length),m < j→eqU x us[m] = false
  | _,_,.nil,_,j,h=>by simp at h
  | y :: xs,u :: us,.cons r t,f,j,h=>by
    rw [List.all_cons,Bool.and_eq_true] at f
    rw [List.findIdx?_cons] at h
    by_cases hy:eqV y x = true
    · rw [if_pos hy] at h
      cases h
      refine ⟨by simp,?_,fun m hm hlt=>absurd hlt (Nat.not_lt_zero _)⟩
      show eqU x u = true
      rw [eqU_of r f.1]; exact hy
    · rw [if_neg hy] at h
      cases hq:xs.findIdx? (fun y=>eqV y x) with
      | none=>rw [hq] at h; cases h
      | some k =>
        rw [hq] at h
        have e:k + 1 = j:=Option.some.inj h
        subst e
        obtain ⟨hk,h1,h2⟩:=idxOf_spec t f.2 hq
        refine ⟨by rw [List.length_cons]; omega,h1,fun m hm hlt=>?_⟩
        cases m with
        | zero =>
          show eqU x u = false
          rw [eqU_of r f.1]; exact Bool.eq_false_iff.mpr hy
        | succ m=>exact h2 m (by rw [List.length_cons] at hm; omega) (by omega)
def rIndex (K:PySem.W.Frag):V→List V→Hp→VK→Prop:=fun x vs H Q=>∃ l xs y j,x = .ref l∧vs = [y]∧SqL K H l xs∧flatV y = true∧xs.all flatV = true∧xs.findIdx? (fun z=>eqV z y) = some j∧Q (.int (j:Nat)) H
theorem mt_index:MtM X "list.index" (rIndex X.K):=by
  intro pins s σ H x vs v us Q I rx rv h
  obtain ⟨l,xs,y,j,rfl,rfl,hq,fy,fs,hj,q⟩:=h
  cases rx
  obtain ⟨u,rfl,ru⟩:=rv.one
  obtain ⟨its,r,⟨o,n,e,hc,hd,hdat⟩,hz⟩:=I.list hq
  obtain ⟨cls,dd,dt,sl⟩:=o
  have hc':cls = .type "list" := hc
  have hdat':dt = .seq its.toArray n:=hdat
  subst hc' hdat'
  obtain ⟨h1,h2,h3⟩:=idxOf_spec r fs hj
  have hl:=r.length
  have hn:=line63
  refine call_meets F.slot_list_index ⟨_,e,rfl⟩ F.entry_list_index (F.args_list_index_2 _ _) (SeqAt.list_indexAt l its.toArray n dd sl u (eqU y) j (by simpa using h1) (by omega) (by simpa using h2) (fun m hm hlt=>by simpa using h3 m (by simpa using hm) hlt)) ⟨e,fun w hw=>mem_eqAt ru fy r fs w (by simpa using hw),?_⟩
  exact ⟨.int (j:Nat),H,I.tok _,⟨_,rfl⟩,q⟩
def rInsert:V→List V→Hp→VK→Prop:=fun x vs H Q=>∃ l xs i y,x = .ref l∧vs = [.int i,y]∧H l = some (.lst xs)∧0≤i∧i≤(xs.length:Int)∧xs.length < sizeLine∧Q .non (upd H l (.lst (xs.take i.toNat ++ y :: xs.drop i.toNat)))
theorem insert_run {A:Around} {s:Shared} {P:Program} {w:World} {E:Value→Shared→Prop} {Q:Value→Shared→Prop} {l:Addr} {its:List Value} {n:Nat} {i:Int} {t:Tok} {u:Value} (e:s.heap.get? l = some { cls:=.type "list", data:=.seq its.toArray n }) (h0:0≤i) (h1:i≤(its.length:Int)) (hz:its.length≤sizeLine)
    (h:∀ f:Array Value→Array Value,f its.toArray = (its.take i.toNat ++ u :: its.drop i.toNat).toArray→Q .none { s with heap:=s.heap.update l (Obj.mapSeq f),toks:=s.toks }):wpAny (model P w) A (call (.builtin "list.insert") [.ref l,.int i t,u]) Q E s:=by
  have hn:=line63
  have fit:¬ (!Builtin.List.listFitsIndex i) = true:=by
    rw [fitsIndex_both (k:=i) (Int.le_trans (by decide) h0) (by omega)]
    exact Bool.false_ne_true
  have hs3:its.toArray.size≤sizeLine:=by rw [List.size_toArray]; exact hz
  have M:=AutoSeq1.list_insert_list_int_val_1 l its.toArray n i t u fit hs3
  refine call_meets F.slot_list_insert ⟨_,e,rfl⟩ F.entry_list_insert (F.args_list_insert_3 _ _ _) M ⟨e,?_⟩
  refine h _ ?_
  have hk:(if i < 0 then (i + (its.toArray.size:Int)).toNat else min i.toNat its.toArray.size) = i.toNat:=by
    rw [if_neg (by omega),List.size_toArray]
    omega
  show (its.toArray.extract 0 (if i < 0 then (i + (its.toArray.size:Int)).toNat else min i.toNat its.toArray.size)).push u ++ its.toArray.extract (if i < 0 then (i + (its.toArray.size:Int)).toNat else min i.toNat its.toArray.size) = _
  rw [hk]
  apply Array.toList_inj.mp
  simp [List.take_of_length_le]
theorem mt_insert:MtM X "list.insert" rInsert:=by
  intro pins s σ H x vs v us Q I rx rv h
  obtain ⟨l,xs,i,y,rfl,rfl,hH,h0,h1,hz,q⟩:=h
  cases rx
  obtain ⟨u,w,rfl,⟨t,rfl⟩,rw'⟩:=rv.two
  obtain ⟨z,its,n,r,hl,e⟩:=I.lstM hH
  refine insert_run e h0 (by rw [← hl]; exact h1) (by omega) fun f hf=>?_
  refine ⟨.non,_,I.lset (its':=its.take i.toNat ++ w :: its.drop i.toNat) hH e hf ((r.take i.toNat).append (.cons rw' (r.drop i.toNat))) ?_,rfl,q⟩
  rw [List.length_append,List.length_cons,List.length_take,List.length_drop]
  omega
def rExtendT (K:PySem.W.Frag):V→List V→Hp→VK→Prop:=fun x vs H Q=>∃ l b xs zs,x = .ref l∧vs = [.ref b]∧H l = some (.lst xs)∧SqT K H b zs∧xs.length + zs.length≤sizeLine∧Q .non (upd H l (.lst (xs ++ zs)))
theorem extend_tuple_any (l:Addr) (its:Array Value) (n:Nat) (b:Addr) (its2:Array Value) (n2:Nat) (dd:Option Addr) (sl:Array (Option Value)) (h0:¬(!its.isEmpty && Builtin.List.listTooLong (its.size + its2.size)) = true) (h1:its.size≤sizeLine) (h2:its.size + its2.size≤sizeLine + 1) :
    Meets (Builtin.«list.extend» ⟨[.ref l,.ref b],[]⟩) (fun _ R s=>s.heap.get? l = some { cls:=.type "list", data:=.seq its n }∧s.heap.get? b = some { cls:=.type "tuple", dict:=dd,data:=.seq its2 n2,slots:=sl } ∧
      R (.ok (.ret Value.none)) { s with heap:=s.heap.update l (Obj.mapSeq fun x=>x ++ its2),toks:=s.toks }) :=
  .of_wp fun prog w A R s h=>by
    obtain ⟨hp,g,d,tk,os⟩:=s
    obtain ⟨hl,hb,h⟩:=h
    have g1:=AutoSeq1.idx_int
    have g2:=AutoSeq1.sub_tuple_tuple
    have g3:=AutoSeq1.sub_list_list
    have g4:=AutoSeq1.sub_tuple_list
    have g5:=AutoSeq1.sub_list_tuple
    have hz:(its ++ its2).size≤sizeLine + 1:=by rw [Array.size_append]; exact h2
    wp_walk using (wpAny_updateSeq hl rfl (hz:=h1) (_hz':=hz)),AutoSeq1.wpAny_loadPart' hl,AutoSeq1.wpAny_loadPart' hb
    exact ⟨_,rfl,h⟩
theorem mt_extendT:MtM X "list.extend" (rExtendT X.K):=by
  intro pins s σ H x vs v us Q I rx rv h
  obtain ⟨l,b,xs,zs,rfl,rfl,hH,hB,hz,q⟩:=h
  cases rx
  obtain ⟨u,rfl,ru⟩:=rv.one
  cases ru
  obtain ⟨z,its,n,r,hl,e⟩:=I.lstM hH
  obtain ⟨its2,r2,⟨o,e2,hc,n2,hd⟩,z2⟩:=I.tuple hB
  obtain ⟨cls,dd,dt,sl⟩:=o
  have hc':cls = .type "tuple" := hc
  have hd':dt = .seq its2.toArray n2:=hd
  subst hc' hd'
  have hl2:=r2.length
  have hsz:its.toArray.size + its2.toArray.size≤sizeLine:=by rw [List.size_toArray,List.size_toArray]; omega
  have hlong:¬ (!its.toArray.isEmpty && Builtin.List.listTooLong (its.toArray.size + its2.toArray.size)) = true:=by
    rw [notLongL hsz,Bool.and_false]
    exact Bool.false_ne_true
  refine call_meets F.slot_list_extend ⟨_,e,rfl⟩ F.entry_list_extend (F.args_list_extend_2 _ _)
    (extend_tuple_any l its.toArray n b its2.toArray n2 dd sl hlong (by rw [List.size_toArray]; omega) (by omega)) ⟨e,e2,?_⟩
  refine ⟨.non,_,I.lset (its':=its ++ its2) hH e (by simp) (r.append r2) ?_,rfl,q⟩
  rw [List.length_append]
  omega
theorem range_all_get (bs:List Bool):((List.range bs.length).all fun i=>(bs[i]?).getD true) = bs.all id:=by
  rw [Bool.eq_iff_iff,List.all_eq_true,List.all_eq_true]
  constructor
  · intro h b hb
    obtain ⟨i,hi,e⟩:=List.getElem_of_mem hb
    have q:=h i (List.mem_range.mpr hi)
    rw [List.getElem?_eq_getElem hi,Option.getD_some,e] at q
    exact q
  · intro h i hi
    have hi':=List.mem_range.mp hi
    rw [List.getElem?_eq_getElem hi',Option.getD_some]
    exact h _ (List.getElem_mem hi')
theorem call_all (hc:X.calm = true):CallR X (.builtin "all") (fun xs H Q=>∃ (p:Addr) (bs:List Bool),xs = [.ref p]∧SqL X.K H p (bs.map V.bl)∧Q (.bl (bs.all id)) H):=by
  intro pins s σ H xs us Q I r h
  obtain ⟨p,bs,rfl,hq,q⟩:=h
  obtain ⟨u,rfl,rx⟩:=vals1 r
  cases rx
  obtain ⟨its,r',pl,hz⟩:=I.list hq
  have hlen:bs.length = its.length:=by have:=r'.length; rw [List.length_map] at this; exact this
  have hlt:p < s.heap.objs.size:=by obtain ⟨_,e,_⟩:=pl.isList; exact Heap.lt_size e
  refine call_all_walk (wpAny_pyIter_list pl.isList ?_)
  refine ⟨s.heap.objs.size,[s.heap.objs.size,p],[s.heap.objs.size],its.toArray.size,_,_,fun i=>(bs[i]?).getD true,rfl,Walks.list (A:=X.A.in1) (I.ok.hd hc) _ p (Nat.ne_of_lt hlt) its.toArray,
    ⟨⟨_,Heap.get?_push_size _ rfl,rfl,rfl⟩,pl.isList.push _⟩,fun i v s' Q' E' hP hQ=>?_,fun h' tk hk=>?_⟩
  · have hP':its[i]? = some v:=by simpa using hP
    have hi:i < bs.length:=by
      have:=(List.getElem?_eq_some_iff.mp hP').1
      omega
    obtain ⟨w,hw,rw'⟩:=r'.get (i:=i) (x:=.bl bs[i]) (by rw [List.getElem?_map,List.getElem?_eq_getElem hi]; rfl)
    rw [hP'] at hw
    cases hw
    cases rw'
    simp only [List.getElem?_eq_getElem hi,Option.getD_some] at hQ
    exact wpAny_truthy_bool hQ
  · have kp:∀ b o,s.heap.get? b = some o→h'.get? b = some o:=fun b o e=>hk b o (fun hm=>by
      rw [List.mem_singleton.mp hm] at e
      exact Nat.lt_irrefl _ (Heap.lt_size e)) (Heap.get?_push_of_some _ e)
    refine ⟨.bl _,H,I.kept kp,rfl,?_⟩
    rw [List.size_toArray,← hlen,range_all_get]
    exact q
theorem call_isinst:CallR X (.builtin "isinstance") (fun xs H Q=>∃ x T t b,xs = [x,.ty T]∧TyOf X.K H x t∧PySem.W.kitOne X.K t (.type T) = some b∧Q (.bl b) H):=by
  intro pins s σ H xs us Q I r h
  obtain ⟨x,T,t,b,rfl,ty,e,q⟩:=h
  obtain ⟨u,w',rfl,rx,ry⟩:=vals2 r
  cases ry
  exact isinst_ok I rx ty e fun tk=>⟨.bl b,H,I.tok _,rfl,q⟩
end
end L2
namespace L2
open PySem PySem.Spec PyProof.Rows
def met (acc:List Str) (x:Str):List Str:=if acc.any (· == x) then acc else acc ++ [x]
def dd (xs:List Str):List Str:=xs.foldl met []
theorem dd_snoc (xs:List Str) (x:Str):dd (xs ++ [x]) = met (dd xs) x:=by
  unfold dd
  rw [List.foldl_append]
  rfl
theorem met_any (acc:List Str) (x k:Str):(met acc x).any (· == k) = (acc.any (· == k) || decide (k = x)):=by
  unfold met
  by_cases h:acc.any (· == x) = true
  · rw [if_pos h]
    by_cases e:k = x
    · subst e; rw [h]; simp
    · simp [e]
  · rw [if_neg h,List.any_append]
    by_cases e:k = x
    · subst e; simp
    · have hb:(x == k) = false:=by simpa [beq_iff_eq] using (fun z:x = k=>e z.symm)
      simp [hb,e]
theorem met_len (acc:List Str) (x:Str):(met acc x).length = if acc.any (· == x) = true then acc.length else acc.length + 1:=by
  unfold met
  split <;> simp
theorem dd_le (xs:List Str):(dd xs).length≤xs.length:=by
  suffices h:∀ acc:List Str,(xs.foldl met acc).length≤acc.length + xs.length by have:=h []; unfold dd; simpa using this
  induction xs with
  | nil=>intro acc; simp
  | cons x r ih =>
    intro acc
    rw [List.foldl_cons]
    have h1:=ih (met acc x)
    have h2:=met_len acc x
    rw [List.length_cons]
    split at h2 <;> omega
theorem dd_nodup {xs:List Str} (h:xs.Nodup):(dd xs).length = xs.length:=by
  suffices g:∀ acc:List Str,(∀ x∈xs,acc.any (· == x) = false)→(xs.foldl met acc).length = acc.length + xs.length by have:=g [] (fun _ _=>rfl); unfold dd; simpa using this
  induction xs with
  | nil=>intro acc _; simp
  | cons x r ih =>
    intro acc ha
    obtain ⟨hx,hr⟩:=List.nodup_cons.mp h
    rw [List.foldl_cons,ih hr (met acc x) (fun y hy=>?_),met_len,ha x List.mem_cons_self]
    · simp; omega
    · rw [met_any,ha y (List.mem_cons_of_mem _ hy)]
      have:y≠x:=fun e=>hx (e ▸ hy)
      simp [this]
theorem dd_dup {xs:List Str} (h:¬ xs.Nodup):(dd xs).length < xs.length:=by
  suffices g:∀ acc:List Str,¬ xs.Nodup→(xs.foldl met acc).length < acc.length + xs.length by have:=g [] h; unfold dd; simpa using this
  clear h
  have le:∀ (ys acc:List Str),(ys.foldl met acc).length≤acc.length + ys.length:=fun ys=>by
    induction ys with
    | nil=>intro acc; simp
    | cons x r ih =>
      intro acc
      rw [List.foldl_cons]
      have h1:=ih (met acc x)
      have h2:=met_len acc x
      rw [List.length_cons]
      split at h2 <;> omega
  have mem:∀ (ys acc:List Str) (x:Str),x∈ys→acc.any (· == x) = true→(ys.foldl met acc).length < acc.length + ys.length:=fun ys=>by
    induction ys with
    | nil=>intro acc x hx _; cases hx
    | cons y r ih =>
      intro acc x hx ha
      rw [List.foldl_cons,List.length_cons]
      rcases List.mem_cons.mp hx with e | hx
      · subst e
        have h1:=le r (met acc x)
        have h2:=met_len acc x
        rw [if_pos ha] at h2
        omega
      · have h1:=ih (met acc y) x hx (by rw [met_any,ha]; rfl)
        have h2:=met_len acc y
        split at h2 <;> omega
  induction xs with
  | nil=>intro acc h; exact absurd List.nodup_nil h
  | cons x r ih =>
    intro acc h
    rw [List.foldl_cons,List.length_cons]
    by_cases hx:x∈r
    · have h1:=mem r (met acc x) x hx (by rw [met_any]; simp)
      have h2:=met_len acc x
      split at h2 <;> omega
    · have h1:=ih (met acc x) (fun hr=>h (List.nodup_cons.mpr ⟨hx,hr⟩))
      have h2:=met_len acc x
      split at h2 <;> omega
abbrev setO (led:Bool):Obj:={ cls:=.type "set", dict:=none,data:=.set #[] 0 (.fresh 0 0 led) }
section
variable {P:Program} {w:World} {A:Around} {R:Result→Shared→Prop} {E:Value→Shared→Prop} {s:Shared}
theorem lay_strs {I:Addr} {fp wr:List Addr} {G:Array GenState→Array GenState→Prop} {n:Nat} {Pv:Nat→Value→Prop} {St:Nat→Shared→Prop} (W:WalksS P w A.in1 I fp wr G n Pv St) (S:Addr) (hS:S ∉ fp) (xs:List Str) (hn:xs.length = n)
    (hv:∀ i v,Pv i v→∃ t,v = .str (xs.getD i "") t) (hb:n + 1 < scanBound) :
    ∀ (k i:Nat) (z:Shared),n - i = k→i≤n→St i z→z.heap.SetOf (strKind P w) S (fun q=>(dd (xs.take i)).any (· == q)) (dd (xs.take i)).length →
      (∀ z',Moved (S :: wr) G z z'→z'.heap.SetOf (strKind P w) S (fun q=>(dd xs).any (· == q)) (dd xs).length→R (.ok (.ret .none)) z') →
      codeAny (model P w) A (.builtin "set.update.loop" ⟨[.ref S,.ref I],[]⟩) R z:=by
  have notw:S ∉ wr:=fun h=>hS (W.sub _ h)
  have more:∀ b∈wr,b∈S :: wr:=fun b h=>List.mem_cons_of_mem _ h
  intro k
  induction k with
  | zero =>
    intro i z hk hi st hset fin
    have ei:i = n:=by omega
    subst ei
    refine codeAny_builtin PyProof.Rows.F.entry_set_update_loop ?_
    rw [Around.under_plainId PyProof.Rows.F.plain_set_update_loop _]
    show wpAny _ A.in1 (pyNext (.ref I) >>= _) _ _ z
    refine wpAny_bind (W.done z _ _ st fun z' mv=>?_)
    show wpAny _ A.in1 (ret Value.none) _ _ z'
    refine wpAny_pure (fin z' (mv.mono more) ?_)
    rw [← hn,List.take_length] at hset
    obtain ⟨o,es,ep,t,ho,more'⟩:=hset
    exact ⟨o,es,ep,t,mv.heap S _ notw ho,more'⟩
  | succ k ih =>
    intro i z hk hi st hset fin
    have il:i < n:=by omega
    refine codeAny_builtin PyProof.Rows.F.entry_set_update_loop ?_
    rw [Around.under_plainId PyProof.Rows.F.plain_set_update_loop _]
    show wpAny _ A.in1 (pyNext (.ref I) >>= _) _ _ z
    refine wpAny_bind (W.item i z _ _ il st fun v z' pv st' mv=>?_)
    obtain ⟨t,rfl⟩:=hv i v pv
    have hset':z'.heap.SetOf (strKind P w) S (fun q=>(dd (xs.take i)).any (· == q)) (dd (xs.take i)).length:=by
      obtain ⟨o,es,ep,tb,ho,more'⟩:=hset
      exact ⟨o,es,ep,tb,mv.heap S _ notw ho,more'⟩
    show wpAny _ A.in1 (holding [Value.str (xs.getD i "") t] (setAdd S (.str (xs.getD i "") t)) >>= _) _ _ z'
    refine wpAny_bind (wpAny_holding ?_)
    unfold setAdd
    refine wpAny_holding ?_
    refine wpAny_bind ((strKind P w).pyHash (k:=xs.getD i "") (strKind_is _ _ _ _) ?_)
    have hroom:(dd (xs.take i)).length + 1 < scanBound:=by
      have:=dd_le (xs.take i)
      rw [List.length_take] at this
      omega
    have et:xs.take (i + 1) = xs.take i ++ [xs.getD i ""]:=by
      rw [List.take_succ,List.getD_eq_getElem?_getD,List.getElem?_eq_getElem (by omega)]
      rfl
    refine wpAny_setAddHashed_of (knd:=strKind P w) (s:={ z' with toks:=z'.toks + 1 }) (strKind_is _ _ _ _) rfl hset' hroom fun h' sb s2=>?_
    have hset2:h'.SetOf (strKind P w) S (fun q=>(dd (xs.take (i + 1))).any (· == q)) (dd (xs.take (i + 1))).length :=
      SetOf_congr s2 (fun q=>by rw [et,dd_snoc,met_any]) (by rw [et,dd_snoc,met_len])
    refine wpAny_pure ⟨plainId_quiet PyProof.Rows.F.plain_set_update_loop _,ih (i + 1) _ (by omega) il (W.frame _ z' _ _ st' (Nat.le_succ _) fun b hb' o e=>?_) hset2 fun z'' mv2 s3=>?_⟩
    · rw [sb.2 b (fun h:b = S=>hS (by rw [← h]; exact hb'))]; exact e
    · refine fin z'' (Moved.trans W.gtrans ((mv.mono more).then_heap (Nat.le_succ _) fun b o hb' e=>?_) mv2) s3
      rw [sb.2 b (fun h:b = S=>hb' (by rw [h]; exact List.mem_cons_self))]; exact e
theorem strs_at {xs:List Str}:∀ {us:List Value},Vals (xs.map V.str) us→∀ (i:Nat) (v:Value),us[i]? = some v→∃ t,v = .str (xs.getD i "") t:=by
  intro us r i v h
  have hl:=r.length
  rw [List.length_map] at hl
  have hi:i < xs.length:=by have:=(List.getElem?_eq_some_iff.mp h).1; omega
  obtain ⟨u,hu,t,e⟩:=r.get (i:=i) (x:=.str xs[i]) (by rw [List.getElem?_map,List.getElem?_eq_getElem hi]; rfl)
  rw [h] at hu
  cases hu
  refine ⟨t,?_⟩
  rw [e,List.getD_eq_getElem?_getD,List.getElem?_eq_getElem hi]
  rfl
set_option maxHeartbeats 8000000 in
theorem set_strs {l:Addr} {us:List Value} {xs:List Str} {Q:Value→Shared→Prop} (hh:A.handled = none) (hl:s.heap.IsList l us.toArray) (r:Vals (xs.map V.str) us) (hb:xs.length + 1 < scanBound)
    (h:∀ (h':Heap) (tk:Nat),h'.SetOf (strKind P w) s.heap.objs.size (fun q=>(dd xs).any (· == q)) (dd xs).length→(∀ b o,s.heap.get? b = some o→h'.get? b = some o)→Q (.ref s.heap.objs.size) { s with heap:=h',toks:=tk }) :
    wpAny (model P w) A (call (.type "set") [.ref l]) Q E s:=by
  have hlen:xs.length = us.toArray.size:=by have:=r.length; rw [List.length_map] at this; simpa using this
  obtain ⟨cc,tl,hmro⟩:=F.called_set.mro
  have made:=F.called_set.made
  have sub:=F.called_set.sub
  refine wpAny_call (codeAny_of_tree ?_)
  show wpAny _ _ (callAny (.type "set") _) _ _ _
  refine wpAny_pure ⟨Code.quiet_builtin _ (by decide +kernel),codeAny_builtin F.entry_type_call ?_⟩
  rw [Around.under_plain (weight_type_call_type "set" [.ref l] []) rfl]
  have a1:=F.called_set.notType
  have a2:=F.called_set.canCreate
  have a3:=F.typeCall_set_1 (.ref l)
  repeat (any_goals (first | assumption | wp_step))
  refine codeAny_mono (code_set_new_1 (.ref l) (E:=E) (Q₁:=fun ob z=>∃ led:Bool,ob = .ref s.heap.objs.size∧z = { s with heap:=s.heap.push { cls:=.type "set", dict:=none,data:=.set #[] 0 (.fresh 0 0 led) } }) fun led=>⟨led,rfl,rfl⟩) fun res z hres=>?_
  cases res with
  | error e=>exact hres
  | ok fl =>
    cases fl with
    | ret ob =>
      obtain ⟨led,rfl,rfl⟩:=hres
      have gS:(s.heap.push (setO led)).get? s.heap.objs.size = some (setO led):=Heap.get?_push_size _ rfl
      have tS:Shared.TypeIs { s with heap:=s.heap.push (setO led) } (.ref s.heap.objs.size) "set" := ⟨_,gS,rfl⟩
      have b1:=F.called_set.init.lookup
      have b2:=F.called_set.init.bind (.ref s.heap.objs.size)
      repeat (any_goals (first | assumption | wp_step))
      refine codeAny_mono (codeAny_call_builtin (R:=wants (fun v z=>v = .none∧∃ h' tk,z = { s with heap:=h',toks:=tk }∧h'.SetOf (strKind P w) s.heap.objs.size (fun q=>(dd xs).any (· == q)) (dd xs).length∧(∀ b o,s.heap.get? b = some o→h'.get? b = some o)) E)
        F.called_set.init.plain F.entry_set_init (check_set_init_1 tS ?_)) fun res2 z2 hres2=>?_
      · obtain ⟨ol,gl,cl,nl,dl⟩:=hl
        obtain ⟨ocls,odict,odata,oslots⟩:=ol
        have cl':ocls = .type "list" := cl
        have dl':odata = .seq us.toArray nl:=dl
        subst cl' dl'
        have gl':(s.heap.push (setO led)).get? l = some { cls:=.type "list", dict:=odict,data:=.seq us.toArray nl,slots:=oslots }:=Heap.get?_push_of_some _ gl
        have c1:=F.sub_list_set
        have c2:=F.sub_list_frozenset
        have c3:(Value.type "list" == Value.type "dict") = false:=by decide
        have isl:(s.heap.push (setO led)).IsList l us.toArray:=⟨_,gl',rfl,nl,rfl⟩
        unfold Builtin.«set.__init__» noKeywords Builtin.Frozenset.updateFrom
        generalize hit:pyIter = itf
        wp_walk
        subst hit
        refine wpAny_pyIter_list isl ?_
        refine wpAny_bind (wpAny_runValue ?_)
        have ltl:l < s.heap.objs.size:=Heap.lt_size gl
        have hd3:A.in1.in1.in1.handled = none:=by simp [hh]
        have sz1:(s.heap.push (setO led)).objs.size = s.heap.objs.size + 1:=Heap.size_push ..
        have nel:l≠(s.heap.push (setO led)).objs.size:=by rw [sz1]; exact Nat.ne_of_lt (Nat.lt_succ_of_lt ltl)
        have nin:s.heap.objs.size ∉ [(s.heap.push (setO led)).objs.size,l]:=by
          rw [sz1]
          simp only [List.mem_cons,List.not_mem_nil,or_false,not_or]
          exact ⟨Nat.ne_of_lt (Nat.lt_succ_self _),Nat.ne_of_gt ltl⟩
        refine lay_strs ((Walks.list hd3 _ l nel us.toArray).toS) s.heap.objs.size nin xs hlen (fun i v hv=>strs_at r i v (by simpa using hv)) (by rw [← hlen]; exact hb) (us.toArray.size - 0) 0 _ (by omega) (Nat.zero_le _)
          ⟨⟨_,Heap.get?_push_size _ rfl,rfl,rfl⟩,isl.push _⟩ ?s0 ?fin
        case s0 =>
          have gg:((s.heap.push (setO led)).push { cls:=.type "list_iterator", data:=.fields #[.ref l,.int 0 0] }).get? s.heap.objs.size = some (setO led):=Heap.get?_push_of_some _ gS
          exact SetOf_congr ((setObjOf_fresh (knd:=strKind P w) led).setOf gg (by unfold scanBound; omega)) (fun _=>rfl) rfl
        case fin =>
          intro z mv sz
          obtain ⟨h',g',d',tk',os'⟩:=z
          have e1:g' = s.gens:=mv.gens
          have e2:d' = s.drawn:=mv.drawn
          have e3:os' = s.os:=mv.os
          subst e1 e2 e3
          show wpAny _ _ _ _ _ _
          refine wpAny_pure ?_
          show wpAny _ _ (ret Value.none) _ _ _
          refine wpAny_pure ⟨rfl,h',tk',rfl,sz,fun b o e=>?_⟩
          have lb:=Heap.lt_size e
          have n1:b≠s.heap.objs.size:=Nat.ne_of_lt lb
          have n2:b≠(s.heap.push (setO led)).objs.size:=by rw [sz1]; exact Nat.ne_of_lt (Nat.lt_succ_of_lt lb)
          exact mv.heap b o (by simp only [List.mem_cons,List.not_mem_nil,or_false,not_or]; exact ⟨n1,n2⟩) (Heap.get?_push_of_some _ (Heap.get?_push_of_some _ e))
      · cases res2 with
        | error e=>exact hres2
        | ok fl2 =>
          cases fl2 with
          | ret v =>
            obtain ⟨rfl,h',tk,rfl,sS,kk⟩:=hres2
            repeat (any_goals (first | assumption | wp_step))
            exact h _ _ sS kk
          | _=>exact hres2.elim
    | _=>exact hres.elim
end
end L2
namespace L2
open PySem PySem.Spec PyProof.Rows
section
variable {X:Cx}
def SetN (P:Program) (w:World) (a:Addr) (n:Nat):HO:=.ext fun h=>∃ S,h.SetOf (strKind P w) a S n
theorem call_set (hc:X.calm = true):CallR X (.type "set") (fun xs H Q=>∃ (p:Addr) (ts:List Str),xs = [.ref p]∧SqL X.K H p (ts.map V.str)∧ts.length≤100∧∀ q,H q = none→Q (.ref q) (upd H q (SetN X.prog X.w q (dd ts).length))):=by
  intro pins s σ H xs us Q I r h
  obtain ⟨p,ts,rfl,hq,h100,q⟩:=h
  obtain ⟨u,rfl,rx⟩:=vals1 r
  cases rx
  obtain ⟨its,r',pl,hz⟩:=I.list hq
  refine set_strs (I.ok.hd hc) pl.isList r' (Nat.lt_of_le_of_lt (Nat.add_le_add_right h100 1) (by decide)) fun h' tk hS hk=>?_
  refine ⟨.ref s.heap.objs.size,_,I.laid hk (Nat.le_refl _) (o:=SetN X.prog X.w s.heap.objs.size (dd ts).length) ?_,rfl,q _ (I.hok.fresh (Nat.le_refl _))⟩
  refine ⟨⟨_,hS⟩,?_,?_⟩
  · obtain ⟨o,es,ep,t,ho,_⟩:=hS
    exact ⟨o,ho⟩
  · rintro h1 h2 ⟨S,o,es,ep,t,ho,rest⟩ k
    exact ⟨S,o,es,ep,t,k o ho,rest⟩
theorem call_len_set':CallR X (.builtin "len") (fun xs H Q=>∃ (p:Addr) (n:Nat),xs = [.ref p]∧H p = some (SetN X.prog X.w p n)∧Q (.int n) H):=by
  intro pins s σ H xs us Q I r h
  obtain ⟨p,n,rfl,hp,q⟩:=h
  obtain ⟨u,rfl,rx⟩:=vals1 r
  cases rx
  obtain ⟨⟨S,o,es,ep,t,ho,hex,hd,_,_,hb,hf,hn⟩,_⟩:=I.hok p _ hp
  have h63:(es.size:Int) < 2 ^ 63:=by
    have h1:scanBound < 2 ^ 63:=by decide
    omega
  refine call_len_set ho hex hd hf h63 ⟨.int n,H,I.tok _,⟨s.toks + 1,?_⟩,q⟩
  rw [hn]
def DicK (K:PySem.W.Frag) (P:Program) (w:World) (a:Addr) (kvs:List (Str × Value)):Prop:=(a == sysModules) = false∧∃ o,K.lookup a = some o∧o.IsDictOf (strKind P w) kvs
theorem ix_dicK {a:Addr} {kvs:List (Str × Value)} (hd:DicK X.K X.prog X.w a kvs):IxR X (fun x y H Q=>∃ k u v,x = .ref a∧y = .str k∧valueAt kvs k = some u∧RelV v u∧Q v H):=by
  intro value slice pins s σ H x y v u Q I rx ry h hs
  obtain ⟨k,z,vv,rfl,rfl,hv,rv,q⟩:=h
  cases rx
  obtain ⟨t,rfl⟩:=ry
  obtain ⟨_,o,hk,hdd⟩:=hd
  have D:s.heap.DictOf (strKind X.prog X.w) a kvs:=Heap.dictOf_iff.mpr ⟨o,I.kIn a o hk,hdd⟩
  exact tail_any D.typeIs slot_dict_getitem.lookup (wpAny_getItem_of (strKind_is _ _ k t) D.mapOf hv ⟨vv,H,I.tok _,rv,q⟩) hs
theorem op_notIn_dicK {a:Addr} {kvs:List (Str × Value)} (hd:DicK X.K X.prog X.w a kvs):OpR X (compareOp .NotIn) (fun x y H Q=>∃ k,x = .str k∧y = .ref a∧Q (.bl (!(valueAt kvs k).isSome)) H):=by
  intro pins s σ H x y v u Q I rx ry h
  obtain ⟨k,rfl,rfl,q⟩:=h
  cases ry
  obtain ⟨t,rfl⟩:=rx
  obtain ⟨hs,o,hk,hdd⟩:=hd
  have D:s.heap.DictOf (strKind X.prog X.w) a kvs:=Heap.dictOf_iff.mpr ⟨o,I.kIn a o hk,hdd⟩
  exact wpAny_notIn_of (strKind_is _ _ k t) hs D.mapOf ⟨.bl _,H,I.tok _,rfl,q⟩
end
end L2
namespace L2
open PySem PySem.Spec PyProof.Rows
theorem bt_len:bootBuiltins "len" = some (.builtin "len"):=by decide +kernel
theorem bt_all:bootBuiltins "all" = some (.builtin "all"):=by decide +kernel
theorem bt_isinstance:bootBuiltins "isinstance" = some (.builtin "isinstance"):=by decide +kernel
theorem bt_int:bootBuiltins "int" = some (.type "int"):=by decide +kernel
theorem bt_bool:bootBuiltins "bool" = some (.type "bool"):=by decide +kernel
theorem bt_str:bootBuiltins "str" = some (.type "str"):=by decide +kernel
theorem bt_tuple:bootBuiltins "tuple" = some (.type "tuple"):=by decide +kernel
theorem bt_list:bootBuiltins "list" = some (.type "list"):=by decide +kernel
theorem bt_set:bootBuiltins "set" = some (.type "set"):=by decide +kernel
theorem rel_of_abs {v:V} {u:Value} (h:absV u = some v):RelV v u:=by
  cases u <;> simp only [absV,Option.some.injEq,reduceCtorEq] at h <;> subst h <;> first | exact rfl | exact ⟨_,rfl⟩
theorem vals_of_abs:∀ {us:List Value} {xs:List V},us.map absV = xs.map some→Vals xs us
  | [],[],_=>.nil
  | u :: us,x :: xs,h=>by
    rw [List.map_cons,List.map_cons] at h
    injection h with h1 h2
    exact .cons (rel_of_abs h1) (vals_of_abs h2)
  | [],_ :: _,h=>by cases h
  | _ :: _,[],h=>by cases h
theorem sqT_K {K:PySem.W.Frag} {H:Hp} {p:Addr} {od:Option Addr} {it:Array Value} {n:Nat} {sl:Array (Option Value)} {xs:List V} (l:K.lookup p = some ⟨.type "tuple", od,.seq it n,sl⟩) (v:it.toList.map absV = xs.map some) (hz:xs.length≤1000):SqT K H p xs:=by
  have r:=vals_of_abs v
  refine .inr ⟨_,it,n,l,rfl,rfl,?_,r⟩
  have e:xs.length = it.size:=by have:=r.length; simpa using this
  rw [← e]
  exact Nat.le_of_lt (small1000 hz)
theorem dk_nil {P:Program} {w:World}:Pairs (strKind P w) [] []∧∀ e∈([]:List DictEntry),∃ k,(strKind P w).is k e.key = true∧e.hash = (strKind P w).hash k:=⟨.nil,fun _ h=>nomatch h⟩
theorem dk_cons {P:Program} {w:World} {k:Str} {t:Tok} {v:Value} {es:List DictEntry} {kvs:List (Str × Value)} (h:Pairs (strKind P w) es kvs∧∀ e∈es,∃ k,(strKind P w).is k e.key = true∧e.hash = (strKind P w).hash k) :
    Pairs (strKind P w) (⟨hashStr w k,.str k t,v⟩ :: es) ((k,v) :: kvs)∧∀ e∈(⟨hashStr w k,.str k t,v⟩ :: es:List DictEntry),∃ k,(strKind P w).is k e.key = true∧e.hash = (strKind P w).hash k:=by
  refine ⟨.cons (strKind_is _ _ k t) rfl h.1,fun e he=>?_⟩
  rcases List.mem_cons.mp he with z | z
  · subst z; exact ⟨k,strKind_is _ _ k t,rfl⟩
  · exact h.2 e z
theorem dicK_mk {P:Program} {w:World} {K:PySem.W.Frag} {p:Addr} {es:Array DictEntry} {ep:Nat} {el:List DictEntry} {kvs:List (Str × Value)} (l:K.lookup p = some ⟨.type "dict", none,.dict es ep,#[]⟩) (e:es.toList = el) (s:(p == sysModules) = false)
    (h:Pairs (strKind P w) el kvs∧∀ e∈el,∃ k,(strKind P w).is k e.key = true∧e.hash = (strKind P w).hash k) (nd:(kvs.map (·.1)).Nodup):DicK K P w p kvs:=by
  subst e
  exact ⟨s,_,l,es,ep,⟨rfl,rfl,rfl⟩,rfl,fun x hx=>h.2 x (by simpa using hx),h.1,nd⟩
theorem vals_none {kvs:List (Str × Value)} {k:Str} (h:∀ e∈kvs,e.1≠k):valueAt kvs k = none:=by
  unfold valueAt
  rw [List.find?_eq_none.mpr fun e he=>by simpa using h e he]
  rfl
end L2
namespace Sen
open PySem
inductive Sn where
  | c0 (y:Bool)
  | mk (x:Str)
  | nt (s:Sn)
  | b2 (o:Fin 4) (s t:Sn)
  | q1 (o:Bool) (x:Str) (s:Sn)
def w2:Fin 4→Str
  | 0 => "and"
  | 1 => "or"
  | 2 => "either"
  | 3 => "if"
namespace Sn
def word:Sn→Str
  | c0 true => "yes"
  | c0 false => "no"
  | mk _ => "mark"
  | nt _ => "not"
  | b2 o _ _=>w2 o
  | q1 true _ _ => "some"
  | q1 false _ _ => "each"
def letters:Sn→List Str
  | mk x=>[x]
  | q1 _ x _=>[x]
  | _=>[]
def parts:Sn→List Sn
  | nt s=>[s]
  | b2 _ s t=>[s,t]
  | q1 _ _ s=>[s]
  | _=>[]
def count:Sn→Nat
  | nt s=>1 + s.count
  | b2 _ s t=>1 + (s.count + t.count)
  | q1 _ _ s=>1 + s.count
  | _=>1
def depth:Sn→Nat
  | nt s=>1 + s.depth
  | b2 _ s t=>1 + max s.depth t.depth
  | q1 _ _ s=>1 + s.depth
  | _=>1
def inO (os:List Str):Sn→Prop
  | c0 _=>True
  | mk x=>x∈os
  | nt s=>s.inO os
  | b2 _ s t=>s.inO os∧t.inO os
  | q1 _ x s=>x∈os∧s.inO os
def op2:Fin 4→Bool→Bool→Bool
  | 0,a,b=>a && b
  | 1,a,b=>a || b
  | 2,a,b=>a != b
  | 3,a,b=>!a || b
def val:Sn→(Str→Bool)→Bool
  | c0 y,_=>y
  | mk x,e=>e x
  | nt s,e=>!s.val e
  | b2 o s t,e=>op2 o (s.val e) (t.val e)
  | q1 true x s,e=>s.val (fun y=>if y = x then true else e y) || s.val (fun y=>if y = x then false else e y)
  | q1 false x s,e=>s.val (fun y=>if y = x then true else e y) && s.val (fun y=>if y = x then false else e y)
theorem val_congr {os:List Str}:∀ (s:Sn) {e e':Str→Bool},s.inO os→(∀ x∈os,e x = e' x)→s.val e = s.val e'
  | c0 _,_,_,_,_=>rfl
  | mk x,_,_,h,q=>q x h
  | nt s,_,_,h,q=>by unfold val; rw [val_congr s h q]
  | b2 o s t,_,_,h,q=>by unfold val; rw [val_congr s h.1 q,val_congr t h.2 q]
  | q1 o x s,e,e',h,q=>by
    have k:∀ b:Bool,s.val (fun y=>if y = x then b else e y) = s.val (fun y=>if y = x then b else e' y):=fun b=>val_congr s h.2 fun y hy=>by
      by_cases hx:y = x
      · rw [if_pos hx,if_pos hx]
      · rw [if_neg hx,if_neg hx,q y hy]
    cases o <;> (unfold val; rw [k,k])
theorem depth_pos:∀ s:Sn,1≤s.depth
  | c0 _=>Nat.le_refl _
  | mk _=>Nat.le_refl _
  | nt _=>by unfold depth; omega
  | b2 _ _ _=>by unfold depth; omega
  | q1 _ _ _=>by unfold depth; omega
theorem count_parts:∀ s:Sn,s.count = 1 + (s.parts.map count).sum
  | c0 _=>rfl
  | mk _=>rfl
  | nt _=>by simp [count,parts]
  | b2 _ _ _=>by simp [count,parts]
  | q1 _ _ _=>by simp [count,parts]
theorem depth_parts:∀ (s:Sn),∀ t∈s.parts,t.depth + 1≤s.depth
  | c0 _,t,h=>by simp [parts] at h
  | mk _,t,h=>by simp [parts] at h
  | nt s,t,h=>by simp [parts] at h; subst h; show t.depth + 1≤1 + t.depth; omega
  | b2 _ s u,t,h=>by
    simp [parts] at h
    rcases h with h | h
    · subst h; show t.depth + 1≤1 + max t.depth u.depth; omega
    · subst h; show t.depth + 1≤1 + max s.depth t.depth; omega
  | q1 _ _ s,t,h=>by simp [parts] at h; subst h; show t.depth + 1≤1 + t.depth; omega
theorem inO_parts {os:List Str}:∀ (s:Sn),s.inO os→∀ t∈s.parts,t.inO os
  | c0 _,_,t,h=>by simp [parts] at h
  | mk _,_,t,h=>by simp [parts] at h
  | nt s,q,t,h=>by simp [parts] at h; subst h; exact q
  | b2 _ s u,q,t,h=>by
    simp [parts] at h
    rcases h with h | h <;> subst h
    · exact q.1
    · exact q.2
  | q1 _ _ s,q,t,h=>by simp [parts] at h; subst h; exact q.2
theorem inO_letters {os:List Str}:∀ (s:Sn),s.inO os→∀ x∈s.letters,x∈os
  | c0 _,_,t,h=>by simp [letters] at h
  | mk _,q,t,h=>by simp [letters] at h; subst h; exact q
  | nt s,q,t,h=>by simp [letters] at h
  | b2 _ s u,q,t,h=>by simp [letters] at h
  | q1 _ _ s,q,t,h=>by simp [letters] at h; subst h; exact q.1
end Sn
theorem tb_add_same (b p:Nat):(b + 2 ^ p).testBit p = !b.testBit p:=by rw [Nat.add_comm]; exact Nat.testBit_two_pow_add_eq b p
theorem tb_add_lt {b p j:Nat} (h:j < p):(b + 2 ^ p).testBit j = b.testBit j:=by rw [Nat.add_comm]; exact Nat.testBit_two_pow_add_gt h b
theorem bit0_mod {b p:Nat} (h:b.testBit p = false):b % 2 ^ (p + 1) < 2 ^ p:=by
  have e:b % 2 ^ (p + 1) = b % 2 ^ p + 2 ^ p * (b / 2 ^ p % 2):=by
    rw [Nat.pow_succ]; exact Nat.mod_mul
  have z:b / 2 ^ p % 2 = 0:=by
    rw [Nat.testBit_eq_decide_div_mod_eq] at h
    have:=of_decide_eq_false h
    omega
  rw [e,z,Nat.mul_zero,Nat.add_zero]
  exact Nat.mod_lt b (Nat.two_pow_pos p)
theorem tb_div (x i j:Nat):x.testBit (i + j) = (x / 2 ^ i).testBit j:=by
  rw [Nat.testBit_div_two_pow,Nat.add_comm]
theorem tb_add_gt {b p j:Nat} (h:p < j) (h0:b.testBit p = false):(b + 2 ^ p).testBit j = b.testBit j:=by
  obtain ⟨k,rfl⟩:∃ k,j = (p + 1) + k:=⟨j - (p + 1),by omega⟩
  rw [tb_div,tb_div]
  have hm:=bit0_mod h0
  have e:(b + 2 ^ p) / 2 ^ (p + 1) = b / 2 ^ (p + 1):=by
    have hp:2 ^ (p + 1) = 2 ^ p + 2 ^ p:=by rw [Nat.pow_succ]; omega
    have d:=Nat.div_add_mod b (2 ^ (p + 1))
    have pos:=Nat.two_pow_pos (p + 1)
    rw [Nat.div_eq_iff pos]
    have c:b / 2 ^ (p + 1) * 2 ^ (p + 1) = 2 ^ (p + 1) * (b / 2 ^ (p + 1)):=Nat.mul_comm _ _
    rw [c]
    omega
  rw [e]
def putBit (b p:Nat) (v:Bool):Nat:=if b.testBit p = v then b else if v then b + 2 ^ p else b - 2 ^ p
theorem ge_of_bit {b p:Nat} (h:b.testBit p = true):2 ^ p≤b:=Nat.ge_two_pow_of_testBit h
theorem putBit_bit (b p j:Nat) (v:Bool):(putBit b p v).testBit j = if j = p then v else b.testBit j:=by
  unfold putBit
  by_cases h:b.testBit p = v
  · rw [if_pos h]
    by_cases hj:j = p
    · rw [if_pos hj,hj,h]
    · rw [if_neg hj]
  · rw [if_neg h]
    cases v with
    | true =>
      have h0:b.testBit p = false:=by simpa using h
      rw [if_pos rfl]
      by_cases hj:j = p
      · subst hj; rw [if_pos rfl,tb_add_same,h0]; rfl
      · rw [if_neg hj]
        rcases Nat.lt_or_gt_of_ne hj with q | q
        · exact tb_add_lt q
        · exact tb_add_gt q h0
    | false =>
      have h1:b.testBit p = true:=by simpa using h
      rw [if_neg Bool.false_ne_true]
      have ge:=ge_of_bit h1
      obtain ⟨c,hc⟩:∃ c,b = c + 2 ^ p:=⟨b - 2 ^ p,by omega⟩
      have h0:c.testBit p = false:=by
        rw [hc,tb_add_same] at h1
        simpa using h1
      have e:b - 2 ^ p = c:=by omega
      rw [e,hc]
      by_cases hj:j = p
      · subst hj; rw [if_pos rfl,h0]
      · rw [if_neg hj]
        rcases Nat.lt_or_gt_of_ne hj with q | q
        · exact (tb_add_lt q).symm
        · exact (tb_add_gt q h0).symm
theorem putBit_lt {b p n:Nat} {v:Bool} (hb:b < 2 ^ n) (hp:p < n):putBit b p v < 2 ^ n:=by
  refine Nat.lt_pow_two_of_testBit _ fun i hi=>?_
  rw [putBit_bit,if_neg (by omega)]
  exact Nat.testBit_lt_two_pow (Nat.lt_of_lt_of_le hb (Nat.pow_le_pow_right (by decide) hi))
def IsTab (n:Nat) (N:Nat) (f:Nat→Bool):Prop:=∀ b,N.testBit b = (decide (b < 2 ^ n) && f b)
theorem tab_all (n:Nat):IsTab n (2 ^ 2 ^ n - 1) (fun _=>true):=fun b=>by
  rw [Nat.testBit_two_pow_sub_one,Bool.and_true]
theorem tab_zero (n:Nat):IsTab n 0 (fun _=>false):=fun b=>by simp
theorem tab_xor {n N M:Nat} {f g:Nat→Bool} (h:IsTab n N f) (k:IsTab n M g):IsTab n (N ^^^ M) (fun b=>f b != g b):=fun b=>by
  rw [Nat.testBit_xor,h b,k b]
  show _ = (decide (b < 2 ^ n) && (f b != g b))
  cases decide (b < 2 ^ n) <;> cases f b <;> cases g b <;> rfl
theorem tab_and {n N M:Nat} {f g:Nat→Bool} (h:IsTab n N f) (k:IsTab n M g):IsTab n (N &&& M) (fun b=>f b && g b):=fun b=>by
  rw [Nat.testBit_and,h b,k b]
  show _ = (decide (b < 2 ^ n) && (f b && g b))
  cases decide (b < 2 ^ n) <;> cases f b <;> cases g b <;> rfl
theorem tab_or {n N M:Nat} {f g:Nat→Bool} (h:IsTab n N f) (k:IsTab n M g):IsTab n (N ||| M) (fun b=>f b || g b):=fun b=>by
  rw [Nat.testBit_or,h b,k b]
  show _ = (decide (b < 2 ^ n) && (f b || g b))
  cases decide (b < 2 ^ n) <;> cases f b <;> cases g b <;> rfl
theorem tab_congr {n N:Nat} {f g:Nat→Bool} (h:IsTab n N f) (e:∀ b,b < 2 ^ n→f b = g b):IsTab n N g:=fun b=>by
  rw [h b]
  by_cases hb:b < 2 ^ n
  · rw [e b hb]
  · rw [decide_eq_false hb]; rfl
theorem tab_lt {n N:Nat} {f:Nat→Bool} (h:IsTab n N f):N < 2 ^ 2 ^ n:=Nat.lt_pow_two_of_testBit _ fun i hi=>by
  rw [h i,decide_eq_false (by omega)]; rfl
theorem tab_block (p:Nat):IsTab (p + 1) ((2 ^ 2 ^ p - 1) * 2 ^ 2 ^ p) (fun b=>b.testBit p):=fun b=>by
  rw [Nat.testBit_mul_two_pow,Nat.testBit_two_pow_sub_one]
  show _ = (decide (b < 2 ^ (p + 1)) && b.testBit p)
  have hp:2 ^ (p + 1) = 2 ^ p + 2 ^ p:=by rw [Nat.pow_succ]; omega
  by_cases h1:2 ^ p≤b
  · by_cases h2:b < 2 ^ (p + 1)
    · have e:b.testBit p = true:=by
        obtain ⟨c,rfl⟩:∃ c,b = c + 2 ^ p:=⟨b - 2 ^ p,by omega⟩
        rw [tb_add_same,Nat.testBit_lt_two_pow (by omega)]
        rfl
      rw [e]
      simp [h1,h2]
      omega
    · simp [h2]
      intro _
      omega
  · have e:b.testBit p = false:=Nat.testBit_lt_two_pow (by omega)
    rw [e]
    simp [h1]
theorem tab_double {p m N:Nat} (hp:p < m) (h:IsTab m N (fun b=>b.testBit p)):IsTab (m + 1) (N ||| N * 2 ^ 2 ^ m) (fun b=>b.testBit p):=fun b=>by
  rw [Nat.testBit_or,Nat.testBit_mul_two_pow,h b,h (b - 2 ^ m)]
  show (_ || (_ && (_ && (b - 2 ^ m).testBit p))) = (decide (b < 2 ^ (m + 1)) && b.testBit p)
  have hm:2 ^ (m + 1) = 2 ^ m + 2 ^ m:=by rw [Nat.pow_succ]; omega
  by_cases h1:b < 2 ^ m
  · have h2:b < 2 ^ (m + 1):=by omega
    have h3:¬ 2 ^ m≤b:=by omega
    simp [h1,h2,h3]
  · have h3:2 ^ m≤b:=by omega
    have e:(b - 2 ^ m).testBit p = b.testBit p:=by
      obtain ⟨c,rfl⟩:∃ c,b = c + 2 ^ m:=⟨b - 2 ^ m,by omega⟩
      rw [tb_add_lt hp,Nat.add_sub_cancel]
    rw [e]
    by_cases h2:b < 2 ^ (m + 1)
    · have h4:b - 2 ^ m < 2 ^ m:=by omega
      simp [h1,h2,h3,h4]
    · have h4:¬ b - 2 ^ m < 2 ^ m:=by omega
      simp [h1,h2,h3,h4]
theorem tab_flip {n p N R:Nat} {f:Nat→Bool} (hp:p < n) (h:IsTab n N f) (r:IsTab n R (fun b=>b.testBit p)) :
    IsTab n ((N &&& R) / 2 ^ 2 ^ p ||| (N ^^^ (N &&& R)) * 2 ^ 2 ^ p) (fun b=>f (putBit b p (!b.testBit p))):=fun b=>by
  have o:=tab_and h r
  have z:=tab_xor h o
  have pp:=Nat.two_pow_pos p
  rw [Nat.testBit_or,Nat.testBit_mul_two_pow,Nat.testBit_div_two_pow,o,z]
  dsimp only
  by_cases hb:b < 2 ^ n
  · cases hbit:b.testBit p with
    | false =>
      have e:putBit b p (!false) = b + 2 ^ p:=by
        unfold putBit
        rw [hbit,if_neg (by decide),if_pos (by decide)]
      have lt:b + 2 ^ p < 2 ^ n:=by rw [← e]; exact putBit_lt hb hp
      rw [e,tb_add_same,hbit]
      by_cases h1:2 ^ p≤b
      · have e2:(b - 2 ^ p).testBit p = true:=by
          obtain ⟨c,rfl⟩:∃ c,b = c + 2 ^ p:=⟨b - 2 ^ p,by omega⟩
          rw [tb_add_same] at hbit
          rw [Nat.add_sub_cancel]
          simpa using hbit
        rw [e2]
        have h4:b - 2 ^ p < 2 ^ n:=by omega
        simp [hb,lt,h1,h4]
      · simp [hb,lt,h1]
    | true =>
      have ge:=ge_of_bit hbit
      have e:putBit b p (!true) = b - 2 ^ p:=by
        unfold putBit
        rw [hbit,if_neg (by decide),if_neg (by decide)]
      have e2:(b - 2 ^ p).testBit p = false:=by
        obtain ⟨c,rfl⟩:∃ c,b = c + 2 ^ p:=⟨b - 2 ^ p,by omega⟩
        rw [tb_add_same] at hbit
        rw [Nat.add_sub_cancel]
        simpa using hbit
      rw [e,tb_add_same,hbit,e2]
      have h4:b - 2 ^ p < 2 ^ n:=by omega
      simp [hb,ge,h4]
  · have h3:¬ b + 2 ^ p < 2 ^ n:=by omega
    have h5:(decide (2 ^ p≤b) && (decide (b - 2 ^ p < 2 ^ n) && (f (b - 2 ^ p) != (f (b - 2 ^ p) && (b - 2 ^ p).testBit p)))) = false:=by
      by_cases h1:2 ^ p≤b
      · by_cases h4:b - 2 ^ p < 2 ^ n
        · -- b lies at or beyond 2 ^ n,less 2 ^ p below it: its bit p is 1
          have e:(b - 2 ^ p).testBit p = true:=by
            cases q:(b - 2 ^ p).testBit p with
            | true=>rfl
            | false =>
              exfalso
              have l:=putBit_lt (v:=true) h4 hp
              unfold putBit at l
              rw [q,if_neg (by decide),if_pos rfl] at l
              omega
          rw [e]
          cases f (b - 2 ^ p) <;> simp
        · simp [h4]
      · simp [h1]
    rw [h5]
    simp [hb,h3]
end Sen
namespace Sen
open PySem
theorem tb0 (a:Nat):a % 2 = (a.testBit 0).toNat:=by
  rw [Nat.testBit_zero]
  have:=Nat.mod_two_eq_zero_or_one a
  rcases this with h | h <;> rw [h] <;> rfl
theorem xor_add:∀ (n a b:Nat),a≤n→(a ^^^ b) + 2 * (a &&& b) = a + b
  | 0,a,b,h=>by
    have:a = 0:=by omega
    subst this; simp
  | n + 1,a,b,h=>by
    by_cases h0:a = 0
    · subst h0; simp
    · have ih:=xor_add n (a / 2) (b / 2) (by omega)
      have e1:(a ^^^ b) / 2 = a / 2 ^^^ b / 2:=Nat.xor_div_two
      have e2:(a &&& b) / 2 = a / 2 &&& b / 2:=Nat.and_div_two
      have d1:=Nat.div_add_mod (a ^^^ b) 2
      have d2:=Nat.div_add_mod (a &&& b) 2
      have d3:=Nat.div_add_mod a 2
      have d4:=Nat.div_add_mod b 2
      rw [e1] at d1
      rw [e2] at d2
      cases ha:a.testBit 0 <;> cases hb:b.testBit 0
      · have m1:(a ^^^ b) % 2 = 0:=by rw [tb0,Nat.testBit_xor,ha,hb]; rfl
        have m2:(a &&& b) % 2 = 0:=by rw [tb0,Nat.testBit_and,ha,hb]; rfl
        have m3:a % 2 = 0:=by rw [tb0,ha]; rfl
        have m4:b % 2 = 0:=by rw [tb0,hb]; rfl
        omega
      · have m1:(a ^^^ b) % 2 = 1:=by rw [tb0,Nat.testBit_xor,ha,hb]; rfl
        have m2:(a &&& b) % 2 = 0:=by rw [tb0,Nat.testBit_and,ha,hb]; rfl
        have m3:a % 2 = 0:=by rw [tb0,ha]; rfl
        have m4:b % 2 = 1:=by rw [tb0,hb]; rfl
        omega
      · have m1:(a ^^^ b) % 2 = 1:=by rw [tb0,Nat.testBit_xor,ha,hb]; rfl
        have m2:(a &&& b) % 2 = 0:=by rw [tb0,Nat.testBit_and,ha,hb]; rfl
        have m3:a % 2 = 1:=by rw [tb0,ha]; rfl
        have m4:b % 2 = 0:=by rw [tb0,hb]; rfl
        omega
      · have m1:(a ^^^ b) % 2 = 0:=by rw [tb0,Nat.testBit_xor,ha,hb]; rfl
        have m2:(a &&& b) % 2 = 1:=by rw [tb0,Nat.testBit_and,ha,hb]; rfl
        have m3:a % 2 = 1:=by rw [tb0,ha]; rfl
        have m4:b % 2 = 1:=by rw [tb0,hb]; rfl
        omega
theorem or_add:∀ (n a b:Nat),a≤n→(a ||| b) + (a &&& b) = a + b
  | 0,a,b,h=>by
    have:a = 0:=by omega
    subst this; simp
  | n + 1,a,b,h=>by
    by_cases h0:a = 0
    · subst h0; simp
    · have ih:=or_add n (a / 2) (b / 2) (by omega)
      have e1:(a ||| b) / 2 = a / 2 ||| b / 2:=Nat.or_div_two
      have e2:(a &&& b) / 2 = a / 2 &&& b / 2:=Nat.and_div_two
      have d1:=Nat.div_add_mod (a ||| b) 2
      have d2:=Nat.div_add_mod (a &&& b) 2
      have d3:=Nat.div_add_mod a 2
      have d4:=Nat.div_add_mod b 2
      rw [e1] at d1
      rw [e2] at d2
      cases ha:a.testBit 0 <;> cases hb:b.testBit 0
      · have m1:(a ||| b) % 2 = 0:=by rw [tb0,Nat.testBit_or,ha,hb]; rfl
        have m2:(a &&& b) % 2 = 0:=by rw [tb0,Nat.testBit_and,ha,hb]; rfl
        have m3:a % 2 = 0:=by rw [tb0,ha]; rfl
        have m4:b % 2 = 0:=by rw [tb0,hb]; rfl
        omega
      · have m1:(a ||| b) % 2 = 1:=by rw [tb0,Nat.testBit_or,ha,hb]; rfl
        have m2:(a &&& b) % 2 = 0:=by rw [tb0,Nat.testBit_and,ha,hb]; rfl
        have m3:a % 2 = 0:=by rw [tb0,ha]; rfl
        have m4:b % 2 = 1:=by rw [tb0,hb]; rfl
        omega
      · have m1:(a ||| b) % 2 = 1:=by rw [tb0,Nat.testBit_or,ha,hb]; rfl
        have m2:(a &&& b) % 2 = 0:=by rw [tb0,Nat.testBit_and,ha,hb]; rfl
        have m3:a % 2 = 1:=by rw [tb0,ha]; rfl
        have m4:b % 2 = 0:=by rw [tb0,hb]; rfl
        omega
      · have m1:(a ||| b) % 2 = 1:=by rw [tb0,Nat.testBit_or,ha,hb]; rfl
        have m2:(a &&& b) % 2 = 1:=by rw [tb0,Nat.testBit_and,ha,hb]; rfl
        have m3:a % 2 = 1:=by rw [tb0,ha]; rfl
        have m4:b % 2 = 1:=by rw [tb0,hb]; rfl
        omega
theorem andI (a b:Nat):Builtin.bitAnd (a:Int) (b:Int) = ((a &&& b:Nat):Int):=by
  unfold Builtin.bitAnd
  rw [decide_eq_true (Int.natCast_nonneg a),decide_eq_true (Int.natCast_nonneg b)]
  simp
theorem orI (a b:Nat):Builtin.bitOr (a:Int) (b:Int) = ((a ||| b:Nat):Int):=by
  rw [PyProof.Rows.bitOr_and,andI]
  have:=or_add a a b (Nat.le_refl _)
  omega
theorem xorI (a b:Nat):Builtin.bitXor (a:Int) (b:Int) = ((a ^^^ b:Nat):Int):=by
  rw [PyProof.Rows.bitXor_and,andI]
  have:=xor_add a a b (Nat.le_refl _)
  omega
theorem powI (n:Nat):(2:Int) ^ n = ((2 ^ n:Nat):Int):=by simp
end Sen
namespace L2
open PySem PySem.Spec PyProof.Rows Sen
section
variable {X:Cx}
def rShlN:R2:=fun x y H Q=>∃ a n:Nat,x = .int a∧y = .int n∧a < 2 ^ 10000∧n≤10000∧Q (.int (a * 2 ^ n:Nat)) H
theorem op_shlN:OpR X (binaryOp .LShift) rShlN:=by
  intro pins s σ H x y v u Q I rx ry h
  obtain ⟨a,n,rfl,rfl,ha,hn,q⟩:=h
  obtain ⟨t,rfl⟩:=rx
  obtain ⟨t',rfl⟩:=ry
  have hb:Builtin.Int.intBits (a:Int)≤10000:=intBits_le (by simpa using ha)
  refine lshift_int (Int.natCast_nonneg n) ?_ ?_
  · have e:(2:Int) ^ 27 = 134217728:=by decide
    rw [e]; omega
  · rw [Int.toNat_natCast]
    have e:(a:Int) * 2 ^ n = ((a * 2 ^ n:Nat):Int):=by rw [powI,Int.natCast_mul]
    rw [e]
    exact ⟨.int (a * 2 ^ n:Nat),H,I.tok _,⟨_,rfl⟩,q⟩
def rShrN:R2:=fun x y H Q=>∃ a n:Nat,x = .int a∧y = .int n∧Q (.int (a / 2 ^ n:Nat)) H
theorem op_shrN:OpR X (binaryOp .RShift) rShrN:=by
  intro pins s σ H x y v u Q I rx ry h
  obtain ⟨a,n,rfl,rfl,q⟩:=h
  refine op_shr pins s σ H _ _ v u Q I rx ry ⟨_,_,rfl,rfl,Int.natCast_nonneg n,?_⟩
  show Q (.int ((a:Int) / 2 ^ (n:Int).toNat)) H
  rw [Int.toNat_natCast,powI,← Int.natCast_ediv]
  exact q
def rN2 (g:Nat→Nat→Nat):R2:=fun x y H Q=>∃ a b:Nat,x = .int a∧y = .int b∧Q (.int (g a b:Nat)) H
theorem op_andN:OpR X (binaryOp .BitAnd) (rN2 (· &&& ·)):=by
  intro pins s σ H x y v u Q I rx ry h
  obtain ⟨a,b,rfl,rfl,q⟩:=h
  exact op_and pins s σ H _ _ v u Q I rx ry ⟨_,_,rfl,rfl,by show Q (.int (Builtin.bitAnd a b)) H; rw [andI]; exact q⟩
theorem op_orN:OpR X (binaryOp .BitOr) (rN2 (· ||| ·)):=by
  intro pins s σ H x y v u Q I rx ry h
  obtain ⟨a,b,rfl,rfl,q⟩:=h
  exact op_or pins s σ H _ _ v u Q I rx ry ⟨_,_,rfl,rfl,by show Q (.int (Builtin.bitOr a b)) H; rw [orI]; exact q⟩
theorem op_xorN:OpR X (binaryOp .BitXor) (rN2 (· ^^^ ·)):=by
  intro pins s σ H x y v u Q I rx ry h
  obtain ⟨a,b,rfl,rfl,q⟩:=h
  exact op_xor pins s σ H _ _ v u Q I rx ry ⟨_,_,rfl,rfl,by show Q (.int (Builtin.bitXor a b)) H; rw [xorI]; exact q⟩
end
end L2
namespace L2
open PySem PySem.Spec PyProof.Rows
def strsOf:List Expr→Option (List Str)
  | []=>some []
  | .Constant (.str x) _ _ :: r=>(strsOf r).map (x :: ·)
  | _=>none
theorem strsOf_cons {e:Expr} {r:List Expr} {xs:List Str} (h:strsOf (e :: r) = some xs):∃ x j p ys,e = .Constant (.str x) j p∧strsOf r = some ys∧xs = x :: ys:=by
  cases e with
  | Constant c j p =>
    cases c with
    | str x =>
      have h':(strsOf r).map (x :: ·) = some xs:=h
      cases hr:strsOf r with
      | none=>rw [hr] at h'; cases h'
      | some ys =>
        rw [hr] at h'
        exact ⟨x,j,p,ys,rfl,rfl,(Option.some.inj h').symm⟩
    | _=>cases h
  | _=>cases h
def tStrs (xs:List Str):TA:=fun _ H Q=>Q (xs.map V.str) H
def tStrL (xs:List Str):TE:=fun _ H Q=>xs.length≤sizeLine∧∀ p,H p = none→Q (.ref p) (upd H p (.lst (xs.map V.str)))
section
variable {X:Cx}
theorem pa_strs {es:List Expr}:∀ {xs:List Str},strsOf es = some xs→PA X es (tStrs xs):=by
  induction es with
  | nil =>
    intro xs h
    cases h
    exact fun pos pins s σ H Q I q=>pa_nil pos pins s σ H Q I q
  | cons e r ih =>
    intro xs h
    obtain ⟨x,j,p,ys,rfl,hr,rfl⟩:=strsOf_cons h
    exact fun pos pins s σ H Q I q=>pa_cons (pe_str (x:=x) (j:=j) (pos:=p)) (ih hr) rfl pos pins s σ H Q I q
theorem pe_strs {es:List Expr} {pos:Pos} {xs:List Str} (h:strsOf es = some xs):PE X (.List es pos) (tStrL xs):=by
  intro pins s σ H Q I q
  refine pe_lst (pa_strs h) pins s σ H Q I ⟨?_,q.2⟩
  rw [List.length_map]; exact q.1
def litAsg:Stmt→Option (Str × List Str)
  | .Assign [.Name x _] (.List es _) _=>(strsOf es).map (x,·)
  | _=>none
theorem litAsg_shape {st:Stmt} {x:Str} {xs:List Str} (h:litAsg st = some (x,xs)):∃ p es q r,st = .Assign [.Name x p] (.List es q) r∧strsOf es = some xs:=by
  unfold litAsg at h
  split at h
  · rename_i y p es q r
    cases hs:strsOf es with
    | none=>rw [hs] at h; cases h
    | some ys =>
      rw [hs] at h
      cases h
      exact ⟨_,_,_,_,rfl,hs⟩
  · cases h
theorem ps_litL {i:Nat} {x:Str} {xs:List Str} {st:Stmt} (h:litAsg st = some (x,xs)) (hN:X.N.Nodup) (hi:X.N[i]? = some x) (hx:Loc X.env.scope x) (hf:X.fn x = true∨X.env.scope.names.lookup x = some .local):PS X st (tAsg (tStrL xs) (gName i)):=by
  obtain ⟨p,es,q,r,rfl,hs⟩:=litAsg_shape h
  exact ps_set hN hi hx (pe_strs hs) rfl hf
end
end L2
set_option exponentiation.threshold 20000
namespace Sen
open PySem L2
section
variable {K:PySem.W.Frag}
theorem lt10k {a k:Nat} (h:a < 2 ^ k) (hk:k≤10000):a < 2 ^ 10000:=Nat.lt_of_lt_of_le h (Nat.pow_le_pow_right (by decide) hk)
theorem two8 {n:Nat} (hn:n≤8):2 ^ n≤256:=Nat.pow_le_pow_right (n:=2) (by decide) hn
def spAllRows:Sp:=fun vs H Q _=>∃ n:Nat,vs = [.int n]∧n≤8∧Q (.int ((2 ^ 2 ^ n - 1:Nat):Int)) H
def spRowsWith:Sp:=fun vs H Q _=>∃ p n:Nat,vs = [.int p,.int n]∧p < n∧n≤8∧∀ R:Nat,IsTab n R (fun b=>b.testBit p)→Q (.int R) H
def spFlipped:Sp:=fun vs H Q _=>∃ (N p n:Nat) (f:Nat→Bool),vs = [.int N,.int p,.int n]∧p < n∧n≤8∧IsTab n N f∧∀ R:Nat,IsTab n R (fun b=>f (putBit b p (!b.testBit p)))→Q (.int R) H
abbrev rowV (r:List Bool):List V:=r.map fun b=>V.int (b.toNat:Nat)
theorem same_new {H:Hp} {p:Addr} (h:H p = none) (o:HO):Same H (upd H p o):=fun b u q=>by rw [upd_ne (ne_of_none q h)]; exact q
def spCellAt (K:PySem.W.Frag):Sp:=fun vs H Q _=>∃ (l:Addr) (ns:List Int) (i:Int),vs = [.ref l,.int i]∧SqL K H l (ns.map V.int)∧0≤i∧∀ v:Int,Q (.int v) H
def spWhole:Sp:=fun vs H Q _=>∃ i:Int,vs = [.int i]∧Q (.bl true) H
def spDraw:Sp:=fun vs H Q _=>∃ (c:Int) (k:Nat) (b:Int),vs = [.int c,.int k,.int b]∧k≤40∧0 < b∧b < 1073741824∧∀ r:Int,0≤r→r < b→Q (.int r) H
def letts:List Str:=["a", "b", "c", "d", "e", "f", "g", "h"]
structure IsOrd (os:List Str):Prop where
  nd:os.Nodup
  mem:∀ x∈os,x∈letts
  pos:0 < os.length
theorem nodup_le {α:Type} [DecidableEq α]:∀ {xs ys:List α},xs.Nodup→(∀ x∈xs,x∈ys)→xs.length≤ys.length
  | [],_,_,_=>Nat.zero_le _
  | x :: xs,ys,nd,h=>by
    obtain ⟨h1,h2⟩:=List.nodup_cons.mp nd
    have hx:=h x List.mem_cons_self
    have ih:=nodup_le (xs:=xs) (ys:=ys.erase x) h2 fun y hy=>(List.mem_erase_of_ne (fun e:y = x=>h1 (by rw [← e]; exact hy))).mpr (h y (List.mem_cons_of_mem _ hy))
    rw [List.length_erase_of_mem hx] at ih
    have:=List.length_pos_of_mem hx
    rw [List.length_cons]
    omega
theorem lett_at {i:Nat} (h:i < 8):∃ c,atI (Str.ofString "abcdefgh").cps.toList (i:Int) = some c∧letts[i]? = some ⟨#[c]⟩:=by
  match i,h with
  | 0,_=>exact ⟨97,by decide +kernel,by decide +kernel⟩
  | 1,_=>exact ⟨98,by decide +kernel,by decide +kernel⟩
  | 2,_=>exact ⟨99,by decide +kernel,by decide +kernel⟩
  | 3,_=>exact ⟨100,by decide +kernel,by decide +kernel⟩
  | 4,_=>exact ⟨101,by decide +kernel,by decide +kernel⟩
  | 5,_=>exact ⟨102,by decide +kernel,by decide +kernel⟩
  | 6,_=>exact ⟨103,by decide +kernel,by decide +kernel⟩
  | 7,_=>exact ⟨104,by decide +kernel,by decide +kernel⟩
theorem letts_nodup:letts.Nodup:=by decide +kernel
theorem lett_new {i:Nat} {y:Str} (h:letts[i]? = some y):y ∉ letts.take i:=fun hm=>by
  obtain ⟨j,hj⟩:=List.getElem?_of_mem hm
  have hlt:j < i:=by
    have:=(List.getElem?_eq_some_iff.mp hj).1
    rw [List.length_take] at this
    omega
  rw [List.getElem?_take_of_lt hlt] at hj
  have h1:=(List.getElem?_eq_some_iff.mp hj)
  have h2:=(List.getElem?_eq_some_iff.mp h)
  obtain ⟨l1,e1⟩:=h1
  obtain ⟨l2,e2⟩:=h2
  have:=(List.getElem_inj letts_nodup).mp (e1.trans e2.symm)
  omega
theorem IsOrd.le {os:List Str} (h:IsOrd os):os.length≤8:=nodup_le h.nd h.mem
def spOrder:Sp:=fun vs H Q _=>∃ (c:Int) (n:Nat),vs = [.int c,.int n]∧0 < n∧n≤8∧∀ (l:Addr) (H':Hp) (os:List Str),Same H H'→H' l = some (.lst (os.map V.str))→IsOrd os→os.length≤n→Q (.ref l) H'
def IsS (H:Hp):Sn→Addr→Prop
  | .c0 y,p=>H p = some (.tup [.str (Sn.word (.c0 y))])
  | .mk x,p=>H p = some (.tup [.str "mark", .str x])
  | .nt s,p=>∃ q,H p = some (.tup [.str "not", .ref q])∧IsS H s q
  | .b2 o s t,p=>∃ q r,H p = some (.tup [.str (w2 o),.ref q,.ref r])∧IsS H s q∧IsS H t r
  | .q1 o x s,p=>∃ q,H p = some (.tup [.str (if o then "some" else "each"),.str x,.ref q])∧IsS H s q
def Tups (H H':Hp):Prop:=∀ b xs,H b = some (.tup xs)→H' b = some (.tup xs)
theorem Tups.trans {H H1 H2:Hp} (a:Tups H H1) (b:Tups H1 H2):Tups H H2:=fun c o h=>b c o (a c o h)
theorem Tups.of {H H':Hp} (g:Same H H'):Tups H H':=fun b xs h=>g b _ h
theorem Tups.new {H:Hp} {p:Addr} (h:H p = none) (o:HO):Tups H (upd H p o):=fun b u q=>by rw [upd_ne (ne_of_none q h)]; exact q
theorem Tups.lst {H:Hp} {p:Addr} {xs:List V} (h:H p = some (.lst xs)) (o:HO):Tups H (upd H p o):=fun b u q=>by rw [upd_ne (ne_of q h (fun z=>nomatch z))]; exact q
theorem IsS.mono {H H':Hp} (g:Tups H H'):∀ {s:Sn} {p:Addr},IsS H s p→IsS H' s p
  | .c0 y,p,h=>g _ _ h
  | .mk x,p,h=>g _ _ h
  | .nt s,p,⟨q,h,k⟩=>⟨q,g _ _ h,k.mono g⟩
  | .b2 o s t,p,⟨q,r,h,k,l⟩=>⟨q,r,g _ _ h,k.mono g,l.mono g⟩
  | .q1 o x s,p,⟨q,h,k⟩=>⟨q,g _ _ h,k.mono g⟩
theorem q1_word (o:Bool) (x:Str) (s:Sn):Sn.word (.q1 o x s) = if o then Str.ofString "some" else Str.ofString "each" := by cases o <;> rfl
theorem IsS.shape {H:Hp}:∀ {s:Sn} {p:Addr},IsS H s p→∃ qs:List Addr,H p = some (.tup (.str s.word :: (s.letters.map V.str ++ qs.map V.ref)))∧Paired (IsS H) s.parts qs
  | .c0 y,p,h=>⟨[],h,.nil⟩
  | .mk x,p,h=>⟨[],h,.nil⟩
  | .nt s,p,⟨q,h,k⟩=>⟨[q],h,.cons k .nil⟩
  | .b2 o s t,p,⟨q,r,h,k,l⟩=>⟨[q,r],h,.cons k (.cons l .nil)⟩
  | .q1 o x s,p,⟨q,h,k⟩=>⟨[q],by rw [q1_word]; exact h,.cons k .nil⟩
theorem atI_has {α:Type} {xs:List α} {i:Int} (h0:-(xs.length:Int)≤i) (h1:i < xs.length):∃ (j:Nat) (v:α),atI xs i = some v∧xs[j]? = some v:=by
  by_cases h:0≤i
  · have hj:i.toNat < xs.length:=by omega
    have q:=atI_nat (xs:=xs) (j:=i.toNat) (List.getElem?_eq_getElem hj)
    have e:((i.toNat:Nat):Int) = i:=by omega
    rw [e] at q
    exact ⟨_,_,q,List.getElem?_eq_getElem hj⟩
  · have hj:(i + xs.length).toNat < xs.length:=by omega
    refine ⟨_,_,?_,List.getElem?_eq_getElem hj⟩
    unfold atI ixN
    rw [if_neg h,if_pos h0]
    show xs[(i + xs.length).toNat]? = _
    exact List.getElem?_eq_getElem hj
def kindsS:List Str:=["mark", "mark", "not", "and", "or", "either", "if", "and", "or", "some", "each", "yes", "no", "mark"]
structure Made (H0 H:Hp) (os:List Str) (m kd:Addr) (ps:List Addr) (d:Nat):Prop where
  old:Same H0 H
  mad:H m = some (.lst (ps.map V.ref))
  kin:H kd = some (.lst (kindsS.map V.str))
  ne:ps≠[]
  all:∀ p∈ps,∃ s,IsS H s p∧s.inO os∧s.depth≤d
theorem Made.push {H0 H:Hp} {os:List Str} {m kd p:Addr} {ps:List Addr} {d:Nat} {xs:List V} (M:Made H0 H os m kd ps d) (fm:H0 m = none) (hp:H p = none) {s:Sn} (hs:IsS (upd H p (.tup xs)) s p) (ho:s.inO os) (hd:s.depth≤d + 1) (hk:m≠kd) :
    Made H0 (upd (upd H p (.tup xs)) m (.lst ((ps ++ [p]).map V.ref))) os m kd (ps ++ [p]) (d + 1):=by
  have hm:m≠p:=ne_of_none M.mad hp
  have hkp:kd≠p:=ne_of_none M.kin hp
  have mad':(upd H p (.tup xs)) m = some (.lst (ps.map V.ref)):=by rw [upd_ne hm]; exact M.mad
  have t1:Tups H (upd H p (.tup xs)):=Tups.new hp _
  have t2:Tups (upd H p (.tup xs)) (upd (upd H p (.tup xs)) m (.lst ((ps ++ [p]).map V.ref))):=Tups.lst mad' _
  refine ⟨fun b o h=>?_,upd_same,?_,by simp,fun q hq=>?_⟩
  · have h1:=M.old b o h
    rw [upd_ne (ne_of_none h fm),upd_ne (ne_of_none h1 hp)]
    exact h1
  · rw [upd_ne (Ne.symm hk),upd_ne hkp]; exact M.kin
  · rcases List.mem_append.mp hq with z | z
    · obtain ⟨s',q1,q2,q3⟩:=M.all q z
      exact ⟨s',(q1.mono t1).mono t2,q2,by omega⟩
    · have z':q = p:=by simpa using z
      subst z'
      exact ⟨s,hs.mono t2,ho,hd⟩
def spSentence (K:PySem.W.Frag):Sp:=fun vs H Q _=>∃ (sc ol:Addr) (ns:List Int) (t m:Nat) (os:List Str),vs = [.ref sc,.int t,.int m,.ref ol]∧SqL K H sc (ns.map V.int)∧SqL K H ol (os.map V.str)∧0 < os.length∧os.length≤8∧0 < m∧m≤40∧t≤60 ∧
  ∀ (p:Addr) (H':Hp) (s:Sn),Same H H'→IsS H' s p→s.inO os→s.depth≤m→Q (.ref p) H'
theorem pick_letter {os:List Str} (h0:0 < os.length) (r:Int):∃ x,x∈os∧atI (os.map V.str) (r % ((os.map V.str).length:Nat)) = some (.str x):=by
  have e:(os.map V.str).length = os.length:=List.length_map _
  have m0:0≤r % ((os.map V.str).length:Nat):=Int.emod_nonneg _ (by omega)
  have m1:r % ((os.map V.str).length:Nat) < ((os.map V.str).length:Nat):=Int.emod_lt_of_pos _ (by omega)
  obtain ⟨j,v,q1,q2⟩:=atI_has (xs:=os.map V.str) (i:=r % ((os.map V.str).length:Nat)) (by omega) m1
  rw [List.getElem?_map] at q2
  cases hx:os[j]? with
  | none=>rw [hx] at q2; cases q2
  | some x =>
    rw [hx] at q2
    cases q2
    exact ⟨x,List.mem_of_getElem? hx,q1⟩
theorem pick_made {ps:List Addr} {i:Int} (h0:-(ps.length:Int)≤i) (h1:i < ps.length):∃ p,p∈ps∧atI (ps.map V.ref) i = some (.ref p):=by
  have e:(ps.map V.ref).length = ps.length:=List.length_map _
  obtain ⟨j,v,q1,q2⟩:=atI_has (xs:=ps.map V.ref) (i:=i) (by omega) (by omega)
  rw [List.getElem?_map] at q2
  cases hx:ps[j]? with
  | none=>rw [hx] at q2; cases q2
  | some x =>
    rw [hx] at q2
    cases q2
    exact ⟨x,List.mem_of_getElem? hx,q1⟩
end
end Sen
namespace L2
open PySem
section
variable {α β:Type} {R S:α→β→Prop}
theorem pd_app:∀ {xs ys:List α} {us ws:List β},Paired R xs us→Paired R ys ws→Paired R (xs ++ ys) (us ++ ws)
  | _,_,_,_,.nil,s=>s
  | _,_,_,_,.cons r t,s=>.cons r (pd_app t s)
theorem pd_imp (f:∀ a b,R a b→S a b):∀ {xs:List α} {us:List β},Paired R xs us→Paired S xs us
  | _,_,.nil=>.nil
  | _,_,.cons r t=>.cons (f _ _ r) (pd_imp f t)
theorem pd_len:∀ {xs:List α} {us:List β},Paired R xs us→xs.length = us.length
  | _,_,.nil=>rfl
  | _,_,.cons _ t=>by rw [List.length_cons,List.length_cons,pd_len t]
theorem pd_at:∀ {xs:List α} {us:List β} {i:Nat} {x:α},Paired R xs us→xs[i]? = some x→∃ u,us[i]? = some u∧R x u
  | _,_,_,_,.nil,e=>by simp at e
  | _,_,0,_,.cons r _,e=>by simp at e; subst e; exact ⟨_,rfl,r⟩
  | _,_,i + 1,x,.cons _ t,e=>by
    obtain ⟨u,h1,h2⟩:=pd_at (i:=i) (x:=x) t (by simpa using e)
    exact ⟨u,by simpa using h1,h2⟩
theorem pd_ta:∀ {xs:List α} {us:List β} {i:Nat} {u:β},Paired R xs us→us[i]? = some u→∃ x,xs[i]? = some x∧R x u
  | _,_,_,_,.nil,e=>by simp at e
  | _,_,0,_,.cons r _,e=>by simp at e; subst e; exact ⟨_,rfl,r⟩
  | _,_,i + 1,x,.cons _ t,e=>by
    obtain ⟨u,h1,h2⟩:=pd_ta (i:=i) (u:=x) t (by simpa using e)
    exact ⟨u,by simpa using h1,h2⟩
theorem take_next {α:Type} {xs:List α} {i:Nat} {x:α} (h:xs[i]? = some x):xs.take (i + 1) = xs.take i ++ [x]:=by
  rw [List.take_succ,h]
  rfl
theorem Same.seqT {K:PySem.W.Frag} {H H':Hp} {a:Addr} {xs:List V} (e:Same H H') (h:SqT K H a xs):SqT K H' a xs:=by
  rcases h with (h | ⟨o,h⟩) | h
  · exact .inl (.inl (e _ _ h))
  · exact .inl (.inr ⟨o,e _ _ h⟩)
  · exact .inr h
theorem Same.new {H:Hp} {p:Addr} (h:H p = none) (o:HO):Same H (upd H p o):=fun b u q=>by rw [upd_ne (ne_of_none q h)]; exact q
theorem Same.over {H H':Hp} {p:Addr} (g:Same H H') (h:H p = none) (o:HO):Same H (upd H' p o):=fun b u q=>by rw [upd_ne (ne_of_none q h)]; exact g b u q
theorem at0 {α:Type} {x:α} {xs:List α}:atI (x :: xs) 0 = some x:=atI_nat (j:=0) rfl
theorem at1 {α:Type} {x y:α} {xs:List α}:atI (x :: y :: xs) 1 = some y:=atI_nat (j:=1) rfl
end
section
variable {K:PySem.W.Frag} {a:Addr} {xs:List V} {σ:St} {js:List Nat} {te:TE} {H:Hp} {Qf:Addr→Hp→List V→Prop}
theorem lc_relL (R:V→V→Prop) (hq:SqL K H a xs) (hz:xs.length≤sizeLine)
    (hs:∀ (i:Nat) x H',xs[i]? = some x→Same H H'→te (lcS σ js (some x)) H' fun v H3=>R x v∧Same H H3)
    (me:∀ σ H Q Q',(∀ v H1,Q v H1→Q' v H1)→te σ H Q→te σ H Q')
    (hd:∀ ys H' p,Paired R xs ys→Same H H'→H' p = none→Qf p H' ys) :
    ∃ W:Nat→Nat→List V→Hp→Prop,(∃ m,W 0 m [] H)∧∀ i m ys H,W i m ys H →
      ((Itl K a).stop i H∧∀ p,H p = none→Qf p H ys) ∨
      ((Itl K a).go i H∧ys.length < sizeLine∧∀ x H',(Itl K a).yld i H x H'→tYes (lcS σ js (some x)) H' fun b H2 =>
        if b = true then te (lcS σ js (some x)) H2 fun v H3=>∃ m',m' < m∧W (i + 1) m' (ys ++ [v]) H3 else ∃ m',m' < m∧W (i + 1) m' ys H2):=by
  refine lc_list (fun i ys H'=>Same H H'∧Paired R (xs.take i) ys) ⟨Same.refl _,.nil⟩ hz ?_ ?_ (fun _ _ _ _ h q=>h _ _ q) me ?_
  · rintro i ys H' hi ⟨g,r⟩
    have:=pd_len r
    rw [List.length_take] at this
    exact ⟨g.seq hq,by omega⟩
  · rintro i x ys H' hx ⟨g,r⟩
    show te (lcS σ js (some x)) H' fun v H3=>Same H H3∧Paired R (xs.take (i + 1)) (ys ++ [v])
    refine me _ _ _ _ (fun v H3 h3=>⟨h3.2,?_⟩) (hs i x H' hx g)
    rw [take_next hx]
    exact pd_app r (.cons h3.1 .nil)
  · rintro ys H' p ⟨g,r⟩ hp
    rw [List.take_length] at r
    exact hd ys H' p r g hp
theorem lc_relT (R:V→V→Prop) (hq:SqT K H a xs) (hz:xs.length≤sizeLine)
    (hs:∀ (i:Nat) x H',xs[i]? = some x→Same H H'→te (lcS σ js (some x)) H' fun v H3=>R x v∧Same H H3)
    (me:∀ σ H Q Q',(∀ v H1,Q v H1→Q' v H1)→te σ H Q→te σ H Q')
    (hd:∀ ys H' p,Paired R xs ys→Same H H'→H' p = none→Qf p H' ys) :
    ∃ W:Nat→Nat→List V→Hp→Prop,(∃ m,W 0 m [] H)∧∀ i m ys H,W i m ys H →
      ((Itt K a).stop i H∧∀ p,H p = none→Qf p H ys) ∨
      ((Itt K a).go i H∧ys.length < sizeLine∧∀ x H',(Itt K a).yld i H x H'→tYes (lcS σ js (some x)) H' fun b H2 =>
        if b = true then te (lcS σ js (some x)) H2 fun v H3=>∃ m',m' < m∧W (i + 1) m' (ys ++ [v]) H3 else ∃ m',m' < m∧W (i + 1) m' ys H2):=by
  refine lc_tup (fun i ys H'=>Same H H'∧Paired R (xs.take i) ys) ⟨Same.refl _,.nil⟩ hz ?_ ?_ (fun _ _ _ _ h q=>h _ _ q) me ?_
  · rintro i ys H' hi ⟨g,r⟩
    have:=pd_len r
    rw [List.length_take] at this
    exact ⟨g.seqT hq,by omega⟩
  · rintro i x ys H' hx ⟨g,r⟩
    show te (lcS σ js (some x)) H' fun v H3=>Same H H3∧Paired R (xs.take (i + 1)) (ys ++ [v])
    refine me _ _ _ _ (fun v H3 h3=>⟨h3.2,?_⟩) (hs i x H' hx g)
    rw [take_next hx]
    exact pd_app r (.cons h3.1 .nil)
  · rintro ys H' p ⟨g,r⟩ hp
    rw [List.take_length] at r
    exact hd ys H' p r g hp
theorem pd_map {f:V→V}:∀ {xs ys:List V},Paired (fun x v=>v = f x) xs ys→ys = xs.map f
  | _,_,.nil=>rfl
  | _,_,.cons r t=>by rw [List.map_cons,r,pd_map t]
end
section
variable {X:Cx} {K:PySem.W.Frag} {a:Expr} {ta:TE}
theorem call_isinstK (h:X.K = K):CallR X (.builtin "isinstance") (fun xs H Q=>∃ x T t b,xs = [x,.ty T]∧TyOf K H x t∧PySem.W.kitOne K t (.type T) = some b∧Q (.bl b) H):=by subst h; exact call_isinst
theorem ix_listK (h:X.K = K):IxR X (rIxL K):=by subst h; exact ix_list
theorem pt_truthK (h:X.K = K) (ha:PE X a ta) (he:∀ whole,isTrue a X.env whole = (do let v ← whole; standAt a.pos; holding [v] (truthy v))):PT X a (fun σ H Q=>ta σ H fun x H'=>∃ k,TruV K x H' k∧Q k H'):=by subst h; exact pt_truth ha he
def SpMono (sp:Sp):Prop:=∀ vs H Q Q' E,(∀ v H1,Q v H1→Q' v H1)→sp vs H Q E→sp vs H Q' E
theorem mono1 {sp:Sp} (m:SpMono sp):∀ σ H Q Q',(∀ v H1,Q v H1→Q' v H1)→tCall sp [] E0 (tCons (tVar 0) tNil) σ H Q→tCall sp [] E0 (tCons (tVar 0) tNil) σ H Q' :=
  fun σ H Q Q' h ⟨v,e,q⟩=>⟨v,e,m _ _ _ _ _ h q⟩
theorem inV_strs (x:Str) (ts:List Str):inV (.str x) (ts.map V.str) = decide (x∈ts):=by
  induction ts with
  | nil=>rfl
  | cons t r ih =>
    have e:inV (.str x) ((t :: r).map V.str) = ((t == x) || inV (.str x) (r.map V.str)):=rfl
    rw [e,ih]
    by_cases h:t = x
    · subst h; simp
    · have h':¬ x = t:=fun z=>h z.symm
      simp [h,h']
theorem flat_strs (ts:List Str):(ts.map V.str).all flatV = true:=by
  rw [List.all_map,List.all_eq_true]
  exact fun _ _=>rfl
theorem cut_fore {w:V} {rest:List V} {m n:Nat} (h:rest.length = m + n):cutV (w :: rest) (some 1) (some (1 + (m:Int))) = rest.take m:=by
  have e1:HT.sIx (w :: rest).length 0 (some 1) = min 1 (w :: rest).length:=HT.sIx_nat _ _ 1
  have e2:HT.sIx (w :: rest).length (w :: rest).length (some (1 + (m:Int))) = min (1 + m) (w :: rest).length:=by
    have z:(1:Int) + (m:Int) = ((1 + m:Nat):Int):=by omega
    rw [z]; exact HT.sIx_nat _ _ _
  have l:(w :: rest).length = m + n + 1:=by rw [List.length_cons,h]
  unfold cutV
  rw [e1,e2,l,Nat.min_eq_left (by omega),Nat.min_eq_left (by omega),List.drop_one,List.tail_cons]
  congr 1
  omega
theorem cut_rear {w:V} {rest:List V} {m n:Nat} (h:rest.length = m + n):cutV (w :: rest) (some (1 + (m:Int))) none = rest.drop m:=by
  have e2:HT.sIx (w :: rest).length 0 (some (1 + (m:Int))) = min (1 + m) (w :: rest).length:=by
    have z:(1:Int) + (m:Int) = ((1 + m:Nat):Int):=by omega
    rw [z]; exact HT.sIx_nat _ _ _
  have l:(w :: rest).length = m + n + 1:=by rw [List.length_cons,h]
  unfold cutV
  rw [e2,HT.sIx_none,l,Nat.min_eq_left (by omega),Nat.add_comm 1 m,List.drop_succ_cons,List.take_of_length_le]
  rw [List.length_drop,h]
  omega
theorem not_whole1 {w:V} {rest:List V} {i:Int} {o:Option Int} (h:1≤i):¬ (HT.sIx (w :: rest).length 0 (some i) = 0∧HT.sIx (w :: rest).length (w :: rest).length o = (w :: rest).length):=by
  rintro ⟨h1,_⟩
  have e:HT.sIx (w :: rest).length 0 (some i) = min i.toNat (w :: rest).length:=by
    have z:=HT.sIx_nat (w :: rest).length 0 i.toNat
    have z2:((i.toNat:Nat):Int) = i:=by omega
    rw [z2] at z
    exact z
  rw [e,List.length_cons] at h1
  omega
end
end L2
namespace Sen
open PySem L2
section
variable {K:PySem.W.Frag}
def Sn.all:Sn→List Str
  | .c0 _=>[]
  | .mk x=>[x]
  | .nt s=>s.all
  | .b2 _ s t=>s.all ++ t.all
  | .q1 _ x s=>x :: s.all
theorem Sn.all_iff:∀ (s:Sn) (x:Str),x∈s.all↔x∈s.letters∨∃ t∈s.parts,x∈t.all
  | .c0 _,x=>by simp [Sn.all,Sn.letters,Sn.parts]
  | .mk y,x=>by simp [Sn.all,Sn.letters,Sn.parts]
  | .nt s,x=>by simp [Sn.all,Sn.letters,Sn.parts]
  | .b2 _ s t,x=>by simp [Sn.all,Sn.letters,Sn.parts]
  | .q1 _ y s,x=>by simp [Sn.all,Sn.letters,Sn.parts]
theorem Sn.inO_iff {os:List Str}:∀ (s:Sn),s.inO os↔∀ x∈s.all,x∈os
  | .c0 _=>by simp [Sn.all,Sn.inO]
  | .mk y=>by simp [Sn.all,Sn.inO]
  | .nt s=>by simp only [Sn.all,Sn.inO]; exact Sn.inO_iff s
  | .b2 _ s t=>by
    simp only [Sn.all,Sn.inO,List.mem_append]
    rw [Sn.inO_iff s,Sn.inO_iff t]
    exact ⟨fun h x hx=>hx.elim (h.1 x) (h.2 x),fun h=>⟨fun x hx=>h x (.inl hx),fun x hx=>h x (.inr hx)⟩⟩
  | .q1 _ y s=>by
    simp only [Sn.all,Sn.inO,List.mem_cons]
    rw [Sn.inO_iff s]
    exact ⟨fun h x hx=>hx.elim (fun e=>by rw [e]; exact h.1) (h.2 x),fun h=>⟨h y (.inl rfl),fun x hx=>h x (.inr hx)⟩⟩
theorem Sn.parts_le:∀ s:Sn,s.parts.length≤2
  | .c0 _=>by simp [Sn.parts]
  | .mk _=>by simp [Sn.parts]
  | .nt _=>by simp [Sn.parts]
  | .b2 _ _ _=>by simp [Sn.parts]
  | .q1 _ _ _=>by simp [Sn.parts]
theorem Sn.letters_le:∀ s:Sn,s.letters.length≤1
  | .c0 _=>by simp [Sn.letters]
  | .mk _=>by simp [Sn.letters]
  | .nt _=>by simp [Sn.letters]
  | .b2 _ _ _=>by simp [Sn.letters]
  | .q1 _ _ _=>by simp [Sn.letters]
def cnt (ss:List Sn):Nat:=(ss.map Sn.count).sum
theorem cnt_cons (s:Sn) (ss:List Sn):cnt (s :: ss) = s.count + cnt ss:=rfl
theorem cnt_app (ss ts:List Sn):cnt (ss ++ ts) = cnt ss + cnt ts:=by
  unfold cnt; rw [List.map_append,List.sum_append]
theorem cnt_parts:∀ ss:List Sn,cnt ss = ss.length + cnt (ss.flatMap Sn.parts)
  | []=>rfl
  | s :: ss=>by
    rw [cnt_cons,List.flatMap_cons,cnt_app,cnt_parts ss,Sn.count_parts s,List.length_cons]
    show 1 + cnt s.parts + _ = _
    omega
theorem cnt_len (ss:List Sn):ss.length≤cnt ss:=by rw [cnt_parts]; omega
theorem mem_level {ss:List Sn} {t:Sn}:t∈ss.flatMap Sn.parts↔∃ s∈ss,t∈s.parts:=List.mem_flatMap
def spIsMark:Sp:=fun vs H Q _=>∃ x:Str,vs = [.str x]∧Q (.bl (decide (x∈letts))) H
theorem mono_isMark:SpMono spIsMark:=fun vs H Q Q' E h ⟨x,e,q⟩=>⟨x,e,h _ _ q⟩
def ordB (os:List Str):Bool:=decide (0 < os.length) && (os.all (fun x=>decide (x∈letts)) && decide os.Nodup)
theorem ordB_of {os:List Str} (h:IsOrd os):ordB os = true:=by
  unfold ordB
  rw [decide_eq_true h.pos,decide_eq_true h.nd,List.all_eq_true.mpr fun x hx=>decide_eq_true (h.mem x hx)]
  rfl
def spIsOrder (K:PySem.W.Frag):Sp:=fun vs H Q _=>∃ (l:Addr) (os:List Str),vs = [.ref l]∧SqL K H l (os.map V.str)∧os.length≤100∧∀ H',Same H H'→Q (.bl (ordB os)) H'
def tb_SHAPES:List (Str × Int × Int):=[("yes", 0,0),("no", 0,0),("mark", 1,0),("not", 0,1),("and", 0,2),("or", 0,2),("either", 0,2),("if", 0,2),("some", 1,1),("each", 1,1)]
theorem shape_in (s:Sn):(s.word,((s.letters.length:Nat):Int),((s.parts.length:Nat):Int))∈tb_SHAPES:=by
  cases s with
  | c0 y =>
    cases y
    · show ((Str.ofString "no", (0:Int),(0:Int)):Str × Int × Int)∈tb_SHAPES
      decide +kernel
    · show ((Str.ofString "yes", (0:Int),(0:Int)):Str × Int × Int)∈tb_SHAPES
      decide +kernel
  | mk x =>
    show ((Str.ofString "mark", (1:Int),(0:Int)):Str × Int × Int)∈tb_SHAPES
    decide +kernel
  | nt s =>
    show ((Str.ofString "not", (0:Int),(1:Int)):Str × Int × Int)∈tb_SHAPES
    decide +kernel
  | b2 o s t =>
    show ((w2 o,(0:Int),(2:Int)):Str × Int × Int)∈tb_SHAPES
    revert o
    decide +kernel
  | q1 o x s =>
    cases o
    · show ((Str.ofString "each", (1:Int),(1:Int)):Str × Int × Int)∈tb_SHAPES
      decide +kernel
    · show ((Str.ofString "some", (1:Int),(1:Int)):Str × Int × Int)∈tb_SHAPES
      decide +kernel
def spLettersOf:Sp:=fun vs H Q _=>∃ (p:Addr) (x:Str) (m n:Nat) (rest:List V),vs = [.ref p]∧H p = some (.tup (.str x :: rest))∧(x,(m:Int),(n:Int))∈tb_SHAPES∧rest.length = m + n∧∀ q,H q = none→Q (.ref q) (upd H q (.tup (rest.take m)))
def spPartsOf:Sp:=fun vs H Q _=>∃ (p:Addr) (x:Str) (m n:Nat) (rest:List V),vs = [.ref p]∧H p = some (.tup (.str x :: rest))∧(x,(m:Int),(n:Int))∈tb_SHAPES∧rest.length = m + n∧∀ q,H q = none→Q (.ref q) (upd H q (.tup (rest.drop m)))
theorem sen_cut {H:Hp} {s:Sn} {p:Addr} (h:IsS H s p):∃ qs:List Addr,H p = some (.tup (.str s.word :: (s.letters.map V.str ++ qs.map V.ref)))∧Paired (IsS H) s.parts qs ∧
    (s.letters.map V.str ++ qs.map V.ref).length = s.letters.length + s.parts.length∧(s.letters.map V.str ++ qs.map V.ref).take s.letters.length = s.letters.map V.str∧(s.letters.map V.str ++ qs.map V.ref).drop s.letters.length = qs.map V.ref:=by
  obtain ⟨qs,h1,h2⟩:=h.shape
  have l:=pd_len h2
  refine ⟨qs,h1,h2,by simp [l],?_,?_⟩
  · rw [List.take_append_of_le_length (by simp),List.take_of_length_le (by simp)]
  · rw [List.drop_append_of_le_length (by simp),List.drop_of_length_le (by simp)]
    rfl
def spPartsOfAll (K:PySem.W.Frag):Sp:=fun vs H Q _=>∃ (l:Addr) (ss:List Sn) (ps:List Addr),vs = [.ref l]∧SqL K H l (ps.map V.ref)∧Paired (IsS H) ss ps∧ss.length≤400 ∧
  ∀ (l':Addr) (H':Hp) (ps':List Addr),Same H H'→H l' = none→H' l' = some (.lst (ps'.map V.ref))→Paired (IsS H') (ss.flatMap Sn.parts) ps'→Q (.ref l') H'
def spShaped:Sp:=fun vs H Q _=>∃ (p:Addr) (s:Sn),vs = [.ref p]∧IsS H s p∧(∀ x∈s.letters,x∈letts)∧∀ H',Same H H'→Q (.bl true) H'
theorem mono_shaped:SpMono spShaped:=fun vs H Q Q' E h ⟨p,s,e,h1,h2,q⟩=>⟨p,s,e,h1,h2,fun H' g=>h _ _ (q H' g)⟩
abbrev VC (sn:Sn) (zs:List Addr):List V:=V.str sn.word :: (sn.letters.map V.str ++ zs.map V.ref)
def spIsSen:Sp:=fun vs H Q _=>∃ (p:Addr) (s:Sn),vs = [.ref p]∧IsS H s p∧s.inO letts∧s.count≤200∧s.depth≤24∧∀ H',Same H H'→Q (.bl true) H'
def spMustOrder (K:PySem.W.Frag):Sp:=fun vs H Q _=>∃ (l:Addr) (os:List Str),vs = [.ref l]∧SqL K H l (os.map V.str)∧IsOrd os∧∀ H',Same H H'→Q .non H'
def spMustSen:Sp:=fun vs H Q _=>∃ (p:Addr) (s:Sn),vs = [.ref p]∧IsS H s p∧s.inO letts∧s.count≤200∧s.depth≤24∧∀ H',Same H H'→Q .non H'
def spTuplesIn:Sp:=fun vs H Q _=>∃ (p:Addr) (s:Sn),vs = [.ref p]∧IsS H s p∧s.count≤400∧∀ (l:Addr) (H':Hp) (ts:List Sn) (ps:List Addr),Same H H'→H l = none→H' l = some (.lst (ps.map V.ref))→Paired (IsS H') ts ps →
  ts.length = s.count→(∀ x,(∃ t∈ts,x∈t.letters)↔x∈s.all)→Q (.ref l) H'
def spLettersIn:Sp:=fun vs H Q _=>∃ (p:Addr) (s:Sn),vs = [.ref p]∧IsS H s p∧s.count≤400∧∀ (l:Addr) (H':Hp) (xs:List Str),Same H H'→H l = none→H' l = some (.lst (xs.map V.str))→(∀ x,x∈xs↔x∈s.all)→xs.length≤400→Q (.ref l) H'
def spMustMark (K:PySem.W.Frag):Sp:=fun vs H Q _=>∃ (l:Addr) (x:Str) (os:List Str),vs = [.ref l,.str x]∧SqL K H l (os.map V.str)∧x∈os∧Q .non H
def spMustMarks (K:PySem.W.Frag):Sp:=fun vs H Q _=>∃ (l p:Addr) (os:List Str) (s:Sn),vs = [.ref l,.ref p]∧SqL K H l (os.map V.str)∧IsS H s p∧s.count≤400∧s.inO os∧∀ H',Same H H'→Q .non H'
end
end Sen
namespace L2
open PySem
section
variable {K:PySem.W.Frag} {a:Addr} {xs:List V} {σ:St} {js:List Nat} {te:TE} {H:Hp} {Qf:Addr→Hp→List V→Prop}
theorem lc_idxT (R:Nat→V→Prop) (hq:SqT K H a xs) (hz:xs.length≤sizeLine)
    (hs:∀ (i:Nat) x H',xs[i]? = some x→Same H H'→te (lcS σ js (some x)) H' fun v H3=>R i v∧Same H H3)
    (me:∀ σ H Q Q',(∀ v H1,Q v H1→Q' v H1)→te σ H Q→te σ H Q')
    (hd:∀ ys H' p,ys.length = xs.length→(∀ (j:Nat) v,ys[j]? = some v→R j v)→Same H H'→H' p = none→Qf p H' ys) :
    ∃ W:Nat→Nat→List V→Hp→Prop,(∃ m,W 0 m [] H)∧∀ i m ys H,W i m ys H →
      ((Itt K a).stop i H∧∀ p,H p = none→Qf p H ys) ∨
      ((Itt K a).go i H∧ys.length < sizeLine∧∀ x H',(Itt K a).yld i H x H'→tYes (lcS σ js (some x)) H' fun b H2 =>
        if b = true then te (lcS σ js (some x)) H2 fun v H3=>∃ m',m' < m∧W (i + 1) m' (ys ++ [v]) H3 else ∃ m',m' < m∧W (i + 1) m' ys H2):=by
  refine lc_tup (fun i ys H'=>Same H H'∧ys.length = i∧∀ (j:Nat) v,ys[j]? = some v→R j v) ⟨Same.refl _,rfl,fun j v h=>by simp at h⟩ hz ?_ ?_ (fun _ _ _ _ h q=>h _ _ q) me ?_
  · rintro i ys H' hi ⟨g,e,r⟩
    exact ⟨g.seqT hq,by omega⟩
  · rintro i x ys H' hx ⟨g,e,r⟩
    show te (lcS σ js (some x)) H' fun v H3=>Same H H3∧(ys ++ [v]).length = i + 1∧∀ (j:Nat) u,(ys ++ [v])[j]? = some u→R j u
    refine me _ _ _ _ (fun v H3 h3=>⟨h3.2,by rw [List.length_append,e]; rfl,fun j u hj=>?_⟩) (hs i x H' hx g)
    by_cases hlt:j < ys.length
    · rw [List.getElem?_append_left hlt] at hj
      exact r j u hj
    · rw [List.getElem?_append_right (by omega)] at hj
      have hj0:j - ys.length = 0:=by
        have:=(List.getElem?_eq_some_iff.mp hj).1
        rw [List.length_singleton] at this
        omega
      rw [hj0] at hj
      have ev:v = u:=Option.some.inj hj
      have ej:j = i:=by omega
      rw [← ev,ej]
      exact h3.1
  · rintro ys H' p ⟨g,e,r⟩ hp
    exact hd ys H' p e r g hp
theorem mono2 {sp:Sp} (m:SpMono sp):∀ σ H Q Q',(∀ v H1,Q v H1→Q' v H1)→tCall sp [] E0 (tCons (tVar 0) (tCons (tVar 1) tNil)) σ H Q→tCall sp [] E0 (tCons (tVar 0) (tCons (tVar 1) tNil)) σ H Q' :=
  fun σ H Q Q' h ⟨v,e,u,e',q⟩=>⟨v,e,u,e',m _ _ _ _ _ h q⟩
theorem ne_str {x y:Str} (h:x≠y):¬ decide (V.str x = V.str y) = true:=fun z=>h (by have:=of_decide_eq_true z; injection this)
theorem len1 {α:Type} {ys:List α} (h:ys.length = 1):∃ v,ys = [v]:=by
  match ys,h with
  | [v],_=>exact ⟨v,rfl⟩
theorem len2 {α:Type} {ys:List α} (h:ys.length = 2):∃ v u,ys = [v,u]:=by
  match ys,h with
  | [v,u],_=>exact ⟨v,u,rfl⟩
end
end L2
namespace Sen
open PySem L2
section
variable {K:PySem.W.Frag}
def ix (os:List Str) (x:Str):Nat:=os.findIdx (· == x)
theorem ix_spec:∀ {os:List Str} {x:Str},x∈os→(os.map V.str).findIdx? (fun z=>eqV z (.str x)) = some (ix os x)∧ix os x < os.length∧os[ix os x]? = some x
  | t :: r,x,h=>by
    unfold ix
    rw [List.map_cons,List.findIdx?_cons,List.findIdx_cons]
    show (if (t == x) = true then some 0 else _) = _∧_
    by_cases e:t = x
    · subst e
      simp
    · have hb:(t == x) = false:=by simpa using e
      have hr:x∈r:=by
        rcases List.mem_cons.mp h with z | z
        · exact absurd z.symm e
        · exact z
      obtain ⟨h1,h2,h3⟩:=ix_spec hr
      rw [hb,h1]
      unfold ix at h2 h3 ⊢
      refine ⟨rfl,?_,?_⟩
      · show (r.findIdx (· == x)) + 1 < (t :: r).length
        rw [List.length_cons]; omega
      · show (t :: r)[(r.findIdx (· == x)) + 1]? = some x
        rw [List.getElem?_cons_succ]; exact h3
theorem ix_inj {os:List Str} {x y:Str} (hx:x∈os) (hy:y∈os):ix os y = ix os x↔y = x:=by
  constructor
  · intro e
    have h1:=(ix_spec hx).2.2
    have h2:=(ix_spec hy).2.2
    rw [e,h1] at h2
    exact (Option.some.inj h2).symm
  · intro e; rw [e]
def envB (os:List Str) (b:Nat):Str→Bool:=fun x=>b.testBit (ix os x)
theorem val_put {os:List Str} {s:Sn} {x:Str} (hs:s.inO os) (hx:x∈os) (b:Nat) (v:Bool):s.val (fun y=>if y = x then v else envB os b y) = s.val (envB os (putBit b (ix os x) v)):=by
  refine Sn.val_congr s hs fun y hy=>?_
  show _ = (putBit b (ix os x) v).testBit (ix os y)
  rw [putBit_bit]
  by_cases e:y = x
  · rw [if_pos e,if_pos ((ix_inj hx hy).mpr e)]
  · rw [if_neg e,if_neg (fun z=>e ((ix_inj hx hy).mp z))]
    rfl
theorem putBit_self (b p:Nat):putBit b p (b.testBit p) = b:=by unfold putBit; rw [if_pos rfl]
theorem val_some {os:List Str} {s:Sn} {x:Str} (hs:s.inO os) (hx:x∈os) (b:Nat):(Sn.q1 true x s).val (envB os b) = (s.val (envB os b) || s.val (envB os (putBit b (ix os x) (!b.testBit (ix os x))))):=by
  show (s.val (fun y=>if y = x then true else envB os b y) || s.val (fun y=>if y = x then false else envB os b y)) = _
  rw [val_put hs hx,val_put hs hx]
  have z:=putBit_self b (ix os x)
  cases hb:b.testBit (ix os x)
  · rw [hb] at z; rw [z]; exact Bool.or_comm _ _
  · rw [hb] at z; rw [z]; rfl
theorem val_each {os:List Str} {s:Sn} {x:Str} (hs:s.inO os) (hx:x∈os) (b:Nat):(Sn.q1 false x s).val (envB os b) = (s.val (envB os b) && s.val (envB os (putBit b (ix os x) (!b.testBit (ix os x))))):=by
  show (s.val (fun y=>if y = x then true else envB os b y) && s.val (fun y=>if y = x then false else envB os b y)) = _
  rw [val_put hs hx,val_put hs hx]
  have z:=putBit_self b (ix os x)
  cases hb:b.testBit (ix os x)
  · rw [hb] at z; rw [z]; exact Bool.and_comm _ _
  · rw [hb] at z; rw [z]; rfl
def TabOf (os:List Str) (s:Sn) (N:Nat):Prop:=IsTab os.length N (fun b=>s.val (envB os b))
theorem w2_no:∀ o,w2 o≠Str.ofString "no" := by decide +kernel
theorem w2_yes:∀ o,w2 o≠Str.ofString "yes" := by decide +kernel
theorem w2_mark:∀ o,w2 o≠Str.ofString "mark" := by decide +kernel
theorem w2_not:∀ o,w2 o≠Str.ofString "not" := by decide +kernel
theorem w2_some:∀ o,w2 o≠Str.ofString "some" := by decide +kernel
theorem w2_each:∀ o,w2 o≠Str.ofString "each" := by decide +kernel
theorem fin4 (o:Fin 4):o = 0∨o = 1∨o = 2∨o = 3:=by
  match o with
  | 0=>exact .inl rfl
  | 1=>exact .inr (.inl rfl)
  | 2=>exact .inr (.inr (.inl rfl))
  | 3=>exact .inr (.inr (.inr rfl))
def spTwo:Sp:=fun vs H Q _=>∃ (o:Fin 4) (N M n:Nat) (f g:Nat→Bool),vs = [.str (w2 o),.int N,.int M,.int ((2 ^ 2 ^ n - 1:Nat):Int)]∧IsTab n N f∧IsTab n M g∧∀ R:Nat,IsTab n R (fun b=>Sn.op2 o (f b) (g b))→Q (.int R) H
def spTable (K:PySem.W.Frag) (d:Nat):Sp:=fun vs H Q _=>∃ (p l:Addr) (s:Sn) (os:List Str),vs = [.ref p,.ref l]∧IsS H s p∧SqL K H l (os.map V.str)∧s.inO os∧os.length≤8∧s.depth≤d∧∀ (N:Nat) (H':Hp),Same H H'→TabOf os s N→Q (.int N) H'
theorem mono_table (d:Nat):SpMono (spTable K d):=fun vs H Q Q' E h ⟨p,l,s,os,e,h1,h2,h3,h4,h5,q⟩=>⟨p,l,s,os,e,h1,h2,h3,h4,h5,fun N H' g z=>h _ _ (q N H' g z)⟩
end
end Sen
namespace L2
open PySem
end L2
namespace Sen
open PySem L2
section
variable {K:PySem.W.Frag}
def spLaw (K:PySem.W.Frag):Sp:=fun vs H Q _=>∃ (a:Addr) (ns:List Int),vs = [.ref a]∧SqL K H a (ns.map V.int)∧ns.length≤63∧∀ H',Q (.bl true) H'
end
end Sen
namespace L2
open PySem PySem.Spec PyProof.Rows
section
variable {κ:Type} [DecidableEq κ]
def valV (kvs:List (κ × V)) (k:κ):Option V:=(kvs.find? fun kv=>decide (kv.1 = k)).map (·.2)
def putK (kvs:List (κ × V)) (k:κ) (v:V):List (κ × V) :=
  if (kvs.any fun kv=>decide (kv.1 = k)) = true then kvs.map (fun kv=>if kv.1 = k then (kv.1,v) else kv) else kvs ++ [(k,v)]
theorem valV_pos {p:κ × V} {r:List (κ × V)} {k:κ} (e:p.1 = k):valV (p :: r) k = some p.2:=by simp [valV,List.find?_cons,e]
theorem valV_neg {p:κ × V} {r:List (κ × V)} {k:κ} (e:¬ p.1 = k):valV (p :: r) k = valV r k:=by simp [valV,List.find?_cons,e]
theorem valV_any (k:κ):∀ kvs:List (κ × V),(kvs.any fun kv=>decide (kv.1 = k)) = (valV kvs k).isSome
  | []=>rfl
  | p :: r=>by
    rw [List.any_cons]
    by_cases e:p.1 = k
    · simp only [valV_pos e,decide_eq_true e,Bool.true_or,Option.isSome_some]
    · rw [valV_neg e,decide_eq_false e,Bool.false_or]; exact valV_any k r
theorem valV_map (k j:κ) (y:V):∀ kvs:List (κ × V),valV (kvs.map fun kv=>if kv.1 = k then (kv.1,y) else kv) j = (valV kvs j).map fun x=>if j = k then y else x
  | []=>rfl
  | p :: r=>by
    have ih:=valV_map k j y r
    rw [List.map_cons]
    by_cases h:p.1 = k
    · rw [if_pos h]
      by_cases e:p.1 = j
      · rw [valV_pos (p:=(p.1,y)) e,valV_pos e,Option.map_some,if_pos (e.symm.trans h)]
      · rw [valV_neg (p:=(p.1,y)) e,valV_neg e,ih]
    · rw [if_neg h]
      by_cases e:p.1 = j
      · rw [valV_pos (p:=p) e,valV_pos e,Option.map_some,if_neg (fun z=>h (e.trans z))]
      · rw [valV_neg (p:=p) e,valV_neg e,ih]
theorem valV_snoc (k j:κ) (y:V):∀ kvs:List (κ × V),valV kvs k = none→valV (kvs ++ [(k,y)]) j = if j = k then some y else valV kvs j
  | [],_=>by
    by_cases e:k = j
    · rw [if_pos e.symm]; exact valV_pos (p:=(k,y)) e
    · rw [if_neg (fun z=>e z.symm)]; exact valV_neg (p:=(k,y)) e
  | p :: r,hn=>by
    rw [List.cons_append]
    have hk:¬ p.1 = k:=fun z=>by rw [valV_pos z] at hn; cases hn
    rw [valV_neg hk] at hn
    have ih:=valV_snoc k j y r hn
    by_cases e:p.1 = j
    · rw [valV_pos e,valV_pos e,if_neg (fun z=>hk (e.trans z))]
    · rw [valV_neg e,valV_neg e,ih]
theorem valV_put (kvs:List (κ × V)) (k j:κ) (y:V):valV (putK kvs k y) j = if j = k then some y else valV kvs j:=by
  unfold putK
  by_cases a:(kvs.any fun kv=>decide (kv.1 = k)) = true
  · rw [if_pos a,valV_map]
    rw [valV_any] at a
    by_cases e:j = k
    · obtain ⟨x,hx⟩:=Option.isSome_iff_exists.mp a
      rw [if_pos e,e,hx,Option.map_some,if_pos rfl]
    · rw [if_neg e]
      cases valV kvs j with
      | none=>rfl
      | some x=>rw [Option.map_some,if_neg e]
  · rw [if_neg a]
    refine valV_snoc k j y kvs ?_
    rw [valV_any] at a
    cases q:valV kvs k with
    | none=>rfl
    | some x=>rw [q] at a; exact (a rfl).elim
theorem length_putK (kvs:List (κ × V)) (k:κ) (v:V):(putK kvs k v).length≤kvs.length + 1:=by
  unfold putK
  split
  · rw [List.length_map]; omega
  · rw [List.length_append,List.length_cons,List.length_nil]; omega
theorem RelO.isSome_eq {o:Option V} {u:Option Value} (r:RelO o u):o.isSome = u.isSome:=by
  cases o with
  | none=>cases u with
    | none=>rfl
    | some _=>exact (show False from r).elim
  | some _=>cases u with
    | none=>exact (show False from r).elim
    | some _=>rfl
theorem KV.val {kvs:List (κ × V)} {vs:List (κ × Value)} (r:KV kvs vs) (k:κ):RelO (valV kvs k) (valueAt vs k):=by
  unfold KV at r
  induction r with
  | nil=>exact True.intro
  | @cons p q ps qs h t ih =>
    obtain ⟨h1,h2⟩:=h
    by_cases e:p.1 = k
    · have e':q.1 = k:=h1.symm.trans e
      have b:valueAt (q :: qs) k = some q.2:=by simp [valueAt,List.find?_cons,e']
      rw [valV_pos e,b]; exact h2
    · have e':¬ q.1 = k:=fun z=>e (h1.trans z)
      have b:valueAt (q :: qs) k = valueAt qs k:=by simp [valueAt,List.find?_cons,e']
      rw [valV_neg e,b]; exact ih
theorem KV.any {kvs:List (κ × V)} {vs:List (κ × Value)} (r:KV kvs vs) (k:κ):(kvs.any fun kv=>decide (kv.1 = k)) = vs.any fun kv=>decide (kv.1 = k):=by
  unfold KV at r
  induction r with
  | nil=>rfl
  | cons h t ih=>rw [List.any_cons,List.any_cons,ih,h.1]
theorem KV.repl {kvs:List (κ × V)} {vs:List (κ × Value)} (r:KV kvs vs) (k:κ) {y:V} {u:Value} (ry:RelV y u) :
    KV (kvs.map fun kv=>if kv.1 = k then (kv.1,y) else kv) (vs.map fun kv=>if kv.1 = k then (kv.1,u) else kv):=by
  unfold KV at r ⊢
  induction r with
  | nil=>exact .nil
  | @cons p q ps qs h t ih =>
    rw [List.map_cons,List.map_cons]
    refine .cons ?_ ih
    obtain ⟨h1,h2⟩:=h
    by_cases e:p.1 = k
    · rw [if_pos e,if_pos (h1.symm.trans e)]; exact ⟨h1,ry⟩
    · rw [if_neg e,if_neg (fun z=>e (h1.trans z))]; exact ⟨h1,h2⟩
theorem KV.put {kvs:List (κ × V)} {vs:List (κ × Value)} (r:KV kvs vs) (k:κ) {y:V} {u:Value} (ry:RelV y u):KV (putK kvs k y) (stored vs k u):=by
  unfold putK stored
  rw [r.any k]
  by_cases e:(vs.any fun kv=>decide (kv.1 = k)) = true
  · rw [if_pos e,if_pos e]; exact r.repl k ry
  · rw [if_neg e,if_neg e]; exact Paired.snoc r ⟨rfl,ry⟩
theorem KV.length {kvs:List (κ × V)} {vs:List (κ × Value)} (r:KV kvs vs):kvs.length = vs.length:=Paired.length r
end
theorem kV_is {P:Program} {w:World} {k:Key} {u:Value} (r:RelV (kV k) u):(mixKind P w).is k u = true:=by
  cases k with
  | inl i=>obtain ⟨t,e⟩:=(show ∃ t,u = Value.int i t from r); subst e; exact mixKind_int P w i t
  | inr x=>obtain ⟨t,e⟩:=(show ∃ t,u = Value.str x t from r); subst e; exact mixKind_str P w x t
theorem items_are {P:Program} {w:World}:∀ {ks:List Key} {us:List Value},Vals (ks.map kV) us→ItemsAre (mixKind P w) ks us
  | [],_,r=>by rw [List.map_nil] at r; cases r; exact .nil
  | k :: ks,_,r=>by
    rw [List.map_cons] at r
    cases r with
    | cons h t=>exact .cons (kV_is h) (items_are t)
abbrev KT (H:Hp):List (List Key × V)→List (List Key × Addr × Value)→Prop:=Paired fun p q=>p.1 = q.1∧H q.2.1 = some (.tup (p.1.map kV))∧RelV p.2 q.2.2
theorem KT.val {H:Hp} {kvs:List (List Key × V)} {xs:List (List Key × Addr × Value)} (r:KT H kvs xs) (k:List Key):RelO (valV kvs k) ((atKey xs k).map (·.2)):=by
  induction r with
  | nil=>exact True.intro
  | @cons p q ps qs h t ih =>
    obtain ⟨h1,_,h2⟩:=h
    by_cases e:p.1 = k
    · have e':q.1 = k:=h1.symm.trans e
      have b:atKey (q :: qs) k = some q.2:=by simp [atKey,List.find?_cons,e']
      rw [valV_pos e,b]; exact h2
    · have e':¬ q.1 = k:=fun z=>e (h1.trans z)
      have b:atKey (q :: qs) k = atKey qs k:=by simp [atKey,List.find?_cons,e']
      rw [valV_neg e,b]; exact ih
theorem KT.repl {H:Hp} {kvs:List (List Key × V)} {xs:List (List Key × Addr × Value)} (r:KT H kvs xs) (k:List Key) {y:V} {u:Value} (ry:RelV y u) :
    KT H (kvs.map fun kv=>if kv.1 = k then (kv.1,y) else kv) (xs.map (putAt k u)):=by
  induction r with
  | nil=>exact .nil
  | @cons p q ps qs h t ih =>
    rw [List.map_cons,List.map_cons]
    refine .cons ?_ ih
    obtain ⟨h1,h2,h3⟩:=h
    unfold putAt
    by_cases e:p.1 = k
    · rw [if_pos e,if_pos (h1.symm.trans e)]; exact ⟨h1,h2,ry⟩
    · rw [if_neg e,if_neg (fun z=>e (h1.trans z))]; exact ⟨h1,h2,h3⟩
theorem KT.put {H:Hp} {kvs:List (List Key × V)} {xs:List (List Key × Addr × Value)} (r:KT H kvs xs) (k:List Key) {b:Addr} {y:V} {u:Value} (hb:H b = some (.tup (k.map kV))) (ry:RelV y u) :
    KT H (putK kvs k y) (storedH xs k b u):=by
  have e:(kvs.any fun kv=>decide (kv.1 = k)) = (atKey xs k).isSome:=by
    rw [valV_any,(r.val k).isSome_eq,Option.isSome_map]
  unfold putK storedH
  rw [e]
  by_cases q:(atKey xs k).isSome = true
  · rw [if_pos q,if_pos q]; exact r.repl k ry
  · rw [if_neg q,if_neg q]; exact Paired.snoc r ⟨rfl,hb,ry⟩
theorem KT.keeps {H H':Hp} {kvs:List (List Key × V)} {xs:List (List Key × Addr × Value)} (r:KT H kvs xs) (ht:∀ b ys,H b = some (.tup ys)→H' b = some (.tup ys)):KT H' kvs xs :=
  Paired.mapP r fun _ _ z=>⟨z.1,ht _ _ z.2.1,z.2.2⟩
section
variable {P:Program} {w:World} {H:Hp} {h:Heap} {a:Addr}
theorem rd_of {u:HO} (ok:HOk P w H h) (e:Rd H a u):ObjOk P w H h a u:=e.ok ok
theorem dk_rd {kvs:List (Key × V)} (ok:HOk P w H h) (e:Rd H a (.dK kvs)):kvs.length≤sizeLine∧(a == sysModules) = false∧∃ vs,KV kvs vs∧h.DictOf (mixKind P w) a vs :=
  show ObjOk P w H h a (.dK kvs) from rd_of ok e
theorem dk_of {kvs:List (Key × V)} (ok:HOk P w H h) (e:H a = some (.dK kvs)):kvs.length≤sizeLine∧(a == sysModules) = false∧∃ vs,KV kvs vs∧h.DictOf (mixKind P w) a vs:=dk_rd ok (.inl e)
theorem key_of {ks:List Key} (ok:HOk P w H h) (e:H a = some (.tup (ks.map kV))):(tupleKind (mixKind P w)).is h ks a:=by
  obtain ⟨_,its,r,o,h1,h2,n,h3⟩:=(show ObjOk P w H h a (.tup (ks.map kV)) from ok a _ e)
  exact ⟨o,its.toArray,n,h1,h2,h3,by simpa using items_are r⟩
theorem dt_rd {kvs:List (List Key × V)} (ok:HOk P w H h) (e:Rd H a (.dT kvs)):kvs.length≤sizeLine∧(a == sysModules) = false ∧
    ∃ xs,KT H kvs xs∧h.DictOfH (tupleKind (mixKind P w)) a xs:=by
  obtain ⟨z,y,xs,r,o,es,ep,h1,h2,h3,h4,h5⟩:=(show ObjOk P w H h a (.dT kvs) from rd_of ok e)
  refine ⟨z,y,xs,r,o,es,ep,h1,h2,h3,h4,fun x hx=>?_,h5⟩
  have all:∀ {l:List (List Key × V)} {m:List (List Key × Addr × Value)},KT H l m→∀ x∈m,(tupleKind (mixKind P w)).is h x.1 x.2.1:=by
    intro l m q
    induction q with
    | nil=>intro x hx; exact nomatch hx
    | @cons p q ps qs hq t ih =>
      intro x hx
      rcases List.mem_cons.mp hx with e | hx
      · subst e
        exact key_of ok (by rw [← hq.1]; exact hq.2.1)
      · exact ih x hx
  exact all r x hx
theorem dt_of {kvs:List (List Key × V)} (ok:HOk P w H h) (e:H a = some (.dT kvs)):kvs.length≤sizeLine∧(a == sysModules) = false ∧
    ∃ xs,KT H kvs xs∧h.DictOfH (tupleKind (mixKind P w)) a xs:=dt_rd ok (.inl e)
end
def DGet (H:Hp) (a:Addr) (y:V) (r:Option V):Prop :=
  (∃ kvs k,Rd H a (.dK kvs)∧y = kV k∧r = valV kvs k)∨∃ kvs k b,Rd H a (.dT kvs)∧y = .ref b∧H b = some (.tup (k.map kV))∧r = valV kvs k
def DPut (H:Hp) (a:Addr) (y v:V) (H':Hp):Prop :=
  (∃ kvs k,H a = some (.dK kvs)∧y = kV k∧kvs.length < sizeLine∧H' = upd H a (.dK (putK kvs k v))) ∨
  ∃ kvs k b,H a = some (.dT kvs)∧y = .ref b∧H b = some (.tup (k.map kV))∧kvs.length < sizeLine∧H' = upd H a (.dT (putK kvs k v))
theorem DGet.k {H:Hp} {a:Addr} {kvs:List (Key × V)} {k:Key} (e:H a = some (.dK kvs)):DGet H a (kV k) (valV kvs k):=.inl ⟨kvs,k,.inl e,rfl,rfl⟩
theorem DPut.k {H:Hp} {a:Addr} {kvs:List (Key × V)} {k:Key} {v:V} (e:H a = some (.dK kvs)) (hl:kvs.length < sizeLine):DPut H a (kV k) v (upd H a (.dK (putK kvs k v))):=.inl ⟨kvs,k,e,rfl,hl,rfl⟩
section
variable {X:Cx} {pins:List (Addr × Obj)} {σ:St} {H:Hp} {s:Shared} {a:Addr} {y v:V} {u r:Value} {o:Option V} {A:Around} {E:Value→Shared→Prop}
theorem Inv.big (I:Inv X pins σ H s):sysModules < s.heap.objs.size:=by
  have h:mainGlobals < s.heap.objs.size:=(I.mod.glob.keeps I.bk).lt
  exact Nat.lt_trans (by decide) h
theorem d_getItem {Q:Value→Shared→Prop} (hu:A.units + 1 < cLine) (I:Inv X pins σ H s) (g:DGet H a y (some v)) (ry:RelV y u) (h:∀ w' s',Inv X pins σ H s'→RelV v w'→Q w' s') :
    wpAny (model X.prog X.w) A (getItem (.ref a) u) Q E s:=by
  rcases g with ⟨kvs,k,e,ey,l⟩ | ⟨kvs,k,b,e,ey,eb,l⟩
  · subst ey
    obtain ⟨z,hd,vs,rel,dd⟩:=dk_rd I.hok e
    obtain ⟨w',hw,rw'⟩:=RelO.some_of (v:=v) (o:=valueAt vs k) (by rw [l]; exact rel.val k)
    exact wpAny_getItem_of (kV_is ry) dd.mapOf hw (h w' _ (I.tok _) rw')
  · subst ey
    cases (show u = Value.ref b from ry)
    obtain ⟨z,hd,xs,rel,dd⟩:=dt_rd I.hok e
    obtain ⟨w',hw,rw'⟩:=RelO.some_of (v:=v) (o:=(atKey xs k).map (·.2)) (by rw [l]; exact rel.val k)
    obtain ⟨p,hp,hp2⟩:=Option.map_eq_some_iff.mp hw
    refine wpAny_getItem_heap (tupleKind_room_in1 hu) (key_of I.hok eb) dd hp ?_
    rw [hp2]
    exact h w' _ (I.tok _) rw'
theorem d_notIn {Q:Value→Shared→Prop} (hu:A.units + 1 < cLine) (I:Inv X pins σ H s) (g:DGet H a y o) (ry:RelV y u) (h:∀ s',Inv X pins σ H s'→Q (.bool (!o.isSome)) s') :
    wpAny (model X.prog X.w) A (compareOp .NotIn u (.ref a)) Q E s:=by
  rcases g with ⟨kvs,k,e,ey,l⟩ | ⟨kvs,k,b,e,ey,eb,l⟩
  · subst ey
    obtain ⟨z,hd,vs,rel,dd⟩:=dk_rd I.hok e
    refine wpAny_notIn_of (kV_is ry) hd dd.mapOf ?_
    rw [← (rel.val k).isSome_eq,← l]
    exact h _ (I.tok _)
  · subst ey
    cases (show u = Value.ref b from ry)
    obtain ⟨z,hd,xs,rel,dd⟩:=dt_rd I.hok e
    refine wpAny_notIn_heap (tupleKind_room_in1 hu) (key_of I.hok eb) hd dd ?_
    have q:=(rel.val k).isSome_eq
    rw [Option.isSome_map] at q
    rw [← q,← l]
    exact h _ (I.tok _)
theorem d_write {h':Heap} {t':Nat} {ob:HO} (I:Inv X pins σ H s) (mu:Mut (H a)) (hs:Heap.SameBut a s.heap h') (he:∃ q,h'.get? a = some q) (new:ObjOk X.prog X.w (upd H a ob) h' a ob) :
    Inv X pins σ (upd H a ob) { s with heap:=h',toks:=t' } :=
  I.write (x:=a) (e:=a) mu (.inl rfl) (fun b q hb z=>(hs.2 b hb).trans z) he new
theorem dk_new {P:Program} {w:World} {H':Hp} {h':Heap} {kvs:List (Key × V)} {vs:List (Key × Value)} (z:kvs.length≤sizeLine) (hd:(a == sysModules) = false) (rel:KV kvs vs) (dd:h'.DictOf (mixKind P w) a vs) :
    ObjOk P w H' h' a (.dK kvs):=⟨z,hd,vs,rel,dd⟩
theorem d_setItem {H':Hp} {Q:Unit→Shared→Prop} (hu:A.units + 1 < cLine) (I:Inv X pins σ H s) (g:DPut H a y v H') (ry:RelV y u) (rv:RelV v r) (h:∀ s',Inv X pins σ H' s'→Q () s') :
    wpAny (model X.prog X.w) A (setItem (.ref a) u r) Q E s:=by
  rcases g with ⟨kvs,k,e,ey,l,eH⟩ | ⟨kvs,k,b,e,ey,eb,l,eH⟩
  · subst ey eH
    obtain ⟨z,hd,vs,rel,dd⟩:=dk_of I.hok e
    have hz:vs.length≤sizeLine:=by rw [← rel.length]; exact z
    have hl:(putK kvs k v).length≤sizeLine:=by have:=length_putK kvs k v; omega
    refine wpAny_setItem_pairs (hsz:=hz) (kV_is ry) dd fun h' dd' hs=>h _ ?_
    have he:∃ q,h'.get? a = some q:=let ⟨q,_,_,hq,_⟩:=dd'; ⟨q,hq⟩
    exact d_write I (by rw [e]; exact True.intro) hs he (dk_new hl hd (rel.put k rv) dd')
  · subst ey eH
    cases (show u = Value.ref b from ry)
    obtain ⟨z,hd,xs,rel,dd⟩:=dt_of I.hok e
    have hz:xs.length≤sizeLine:=by rw [← Paired.length rel]; exact z
    have hl:(putK kvs k v).length≤sizeLine:=by have:=length_putK kvs k v; omega
    refine wpAny_setItem_heap (hsz:=hz) (tupleKind_room_in1 hu) (key_of I.hok eb) dd fun h' dd' hs=>h _ ?_
    obtain ⟨q,es,ep,hq,h2,h3,h4,_,h5⟩:=dd'
    refine d_write I (by rw [e]; exact True.intro) hs ⟨q,hq⟩ ⟨hl,hd,_,(rel.put k eb rv).keeps fun c ys ec=>?_,q,es,ep,hq,h2,h3,h4,h5⟩
    rw [upd_ne (ne_of ec e (fun z=>nomatch z))]
    exact ec
end
section
variable {X:Cx} {pins:List (Addr × Obj)} {σ:St} {H:Hp} {s:Shared} {a:Addr} {kvs:List (Key × V)} {k:Key} {u:Value} {A:Around} {E:Value→Shared→Prop}
end
def NoSl (i:Expr):Prop:=∀ ov iv,subscripted i false ov iv = operate [ov,iv] (getItem ov iv)
theorem subD_of {prog:Program} {w:World} {A:Around} {E:Value→Shared→Prop} {s:Shared} {env:Env} {value slice:Expr} {pos:Pos} {T id:String} {Q:Value→Shared→Prop}
    (hl:typeLookup (.type T) "__getitem__" = pure (some (.builtin id))) (hs:NoSl slice)
    (h:wpAny (model prog w) A (eval value env) (fun o s₁=>wpAny (model prog w) A (eval slice env) (fun i s₂=>s₂.TypeIs o T∧wpAny (model prog w) A (getItem o i) Q E s₂) E s₁) E s) :
    wpAny (model prog w) A (eval (.Subscript value slice pos) env) Q E s:=by
  refine Subscript_ (wpAny_mono h (fun o s₁ h₁=>wpAny_mono h₁ (fun i s₂ h₂=>?_) fun _ _ x=>x) fun _ _ x=>x)
  obtain ⟨hT,h₂⟩:=h₂
  unfold subscriptTail
  refine wpAny_bind ?_
  rw [getitemInPython_of_ne hT.not_modules]
  refine wpAny_bind (wpAny_specialOf hT hl ?_)
  have fin:wpAny (model prog w) A (subscripted slice false o i) (fun r s₃=>wpAny (model prog w) A (letTemporaryGo value o r >>= fun _=>pure r) Q E s₃) E s₂:=by
    rw [hs o i]
    exact wpAny_operating (wpAny_mono h₂ (fun r s₃ h₃=>wpAny_bind (wpAny_letTemporaryGo (wpAny_pure h₃))) fun _ _ x=>x)
  first
    | exact wpAny_pure (wpAny_bind fin)
    | exact wpAny_bind (wpAny_pure (wpAny_bind fin))
    | exact wpAny_bind fin
theorem dict_typeIs {X:Cx} {pins:List (Addr × Obj)} {σ:St} {H:Hp} {s:Shared} {a:Addr} {y:V} {o:Option V} (I:Inv X pins σ H s) (g:DGet H a y o):s.TypeIs (.ref a) "dict" := by
  rcases g with ⟨kvs,k,e,_,_⟩ | ⟨kvs,k,b,e,_,_,_⟩
  · obtain ⟨_,_,vs,_,dd⟩:=dk_rd I.hok e
    exact dd.typeIs
  · obtain ⟨_,_,xs,_,dd⟩:=dt_rd I.hok e
    exact dd.typeIs
def tDGet (td ty:TE):TE:=fun σ H Q=>td σ H fun x H1=>ty σ H1 fun y H2=>∃ a v,x = .ref a∧DGet H2 a y (some v)∧Q v H2
def tDNotIn (ty td:TE):TE:=fun σ H Q=>ty σ H fun y H1=>td σ H1 fun x H2=>∃ a o,x = .ref a∧DGet H2 a y o∧Q (.bl (!o.isSome)) H2
def sDPut (td ty tv:TE):TS:=fun D σ H=>tv σ H fun v H1=>td σ H1 fun x H2=>ty σ H2 fun y H3=>∃ a H4,x = .ref a∧DPut H3 a y v H4∧D.nx σ H4
section
variable {X:Cx} {o i e value:Expr} {pos pos' tpos:Pos} {td ty tv:TE}
theorem pe_dget (hu:X.A.units + 1 < cLine) (ho:PE X o td) (hi:PE X i ty) (hs:NoSl i):PE X (.Subscript o i pos) (tDGet td ty):=by
  intro pins s σ H Q I h
  refine subD_of PySem.F.slot_dict_getitem.lookup hs (thn (ho pins s σ H _ I h) fun u s1 ⟨x,H1,I1,rx,q1⟩=>thn (hi pins s1 σ H1 _ I1 q1) fun iv s2 ⟨y,H2,I2,ry,a,v,ex,g,q2⟩=>?_)
  subst ex
  obtain rfl:u = Value.ref a:=rx
  exact ⟨dict_typeIs I2 g,d_getItem hu I2 g ry fun w' s3 I3 rw'=>⟨v,H2,I3,rw',q2⟩⟩
theorem pc_dnotin (hu:X.A.units + 1 < cLine) (hi:PE X i ty) (ho:PE X o td):PC X .NotIn i o (tDNotIn ty td):=by
  intro pins s σ H Q I h
  refine thn (hi pins s σ H _ I h) fun iv s1 ⟨y,H1,I1,ry,q1⟩=>thn (ho pins s1 σ H1 _ I1 q1) fun u s2 ⟨x,H2,I2,rx,a,ov,ex,g,q2⟩=>?_
  subst ex
  obtain rfl:u = Value.ref a:=rx
  exact d_notIn hu I2 g ry fun s3 I3=>⟨.bl (!ov.isSome),H2,I3,rfl,q2⟩
theorem ps_dput (hu:X.A.units + 1 < cLine) (ho:PE X o td) (hi:PE X i ty) (hv:PE X value tv) (hs:swapsWith value (some (.Subscript o i pos')) pos.line X.env = pure false) :
    PS X (.Assign [.Subscript o i pos'] value pos) (sDPut td ty tv):=by
  intro pins s σ H D I h
  refine wpAny_Assign_Subscript (thn (hv pins s σ H _ I h) fun r s1 ⟨v,H1,I1,rv,q1⟩=>thn (ho pins s1 σ H1 _ I1 q1) fun u s2 ⟨x,H2,I2,rx,q2⟩=>thn (hi pins s2 σ H2 _ I2 q2) fun iv s3 ⟨y,H3,I3,ry,a,H4,ex,g,q3⟩=>?_) hs
  subst ex
  obtain rfl:u = Value.ref a:=rx
  exact d_setItem hu I3 g ry rv fun s4 I4=>⟨σ,H4,I4,q3⟩
end
theorem dk_empty {P:Program} {w:World} {H:Hp} (h:Heap) (hb:sysModules < h.objs.size):ObjOk P w H (h.push { cls:=.type "dict", data:=.dict #[] }) h.objs.size (.dK []) :=
  ⟨Nat.zero_le _,beq_eq_false_iff_ne.mpr (Ne.symm (Nat.ne_of_lt hb)),[],.nil,Heap.DictOf.new h⟩
def tDNewK:TE:=fun _ H Q=>∀ p,H p = none→Q (.ref p) (upd H p (.dK []))
section
variable {X:Cx} {pos:Pos}
theorem pe_dnewK:PE X (.Dict [] [] pos) tDNewK:=fun pins s σ H Q I h =>
  wpAny_Dict_empty ⟨.ref s.heap.objs.size,_,I.laid (a:=s.heap.objs.size) (o:=.dK []) (t':=s.toks) (fun _ _ q=>Heap.get?_push_of_some _ q) (Nat.le_refl _) (dk_empty s.heap I.big),rfl,h _ (I.hok.fresh (Nat.le_refl _))⟩
end
def tPairs:List (TE × TE)→St→Hp→(List (V × V)→Hp→Prop)→Prop
  | [],_,H,Q=>Q [] H
  | (tk,tv) :: r,σ,H,Q=>tk σ H fun x H1=>tv σ H1 fun y H2=>tPairs r σ H2 fun ps H3=>Q ((x,y) :: ps) H3
abbrev VV:List (V × V)→List (Value × Value)→Prop:=Paired fun p q=>RelV p.1 q.1∧RelV p.2 q.2
def PPs (X:Cx) (pos:Pos) (keys:List (Option Expr)) (values:List Expr) (trs:List (TE × TE)):Prop :=
  ∀ (pins:List (Addr × Obj)) (s:Shared) (σ:St) (H:Hp) (Q:List (V × V)→Hp→Prop),Inv X pins σ H s→tPairs trs σ H Q →
    wpAny (model X.prog X.w) X.A (evalPairs (pairTrees keys values X.env pos)) (fun vs s'=>∃ ps H',Inv X pins σ H' s'∧VV ps vs∧Q ps H') X.xe s
theorem pps_nil {X:Cx} {pos:Pos}:PPs X pos [] [] []:=fun pins s σ H Q I h=>pairTrees_nil_walk ⟨[],H,I,.nil,h⟩
theorem pps_cons {X:Cx} {pos:Pos} {k v:Expr} {ks:List (Option Expr)} {vs:List Expr} {tk tv:TE} {trs:List (TE × TE)} (hk:PE X k tk) (hv:PE X v tv) (hr:PPs X pos ks vs trs) :
    PPs X pos (some k :: ks) (v :: vs) ((tk,tv) :: trs):=fun pins s σ H Q I h =>
  pairTrees_cons_walk (thn (hk pins s σ H _ I h) fun u s1 ⟨x,H1,I1,rx,q1⟩=>thn (hv pins s1 σ H1 _ I1 q1) fun w2 s2 ⟨y,H2,I2,ry,q2⟩ =>
    thn (hr pins s2 σ H2 _ I2 q2) fun ws s3 ⟨ps,H3,I3,rel,q3⟩=>⟨(x,y) :: ps,H3,I3,.cons ⟨rx,ry⟩ rel,q3⟩)
def mergeK (kvs more:List (Key × V)):List (Key × V):=more.foldl (fun acc kv=>putK acc kv.1 kv.2) kvs
theorem KV.merge:∀ {more:List (Key × V)} {rs:List (Key × Value)} {kvs:List (Key × V)} {vs:List (Key × Value)},KV more rs→KV kvs vs→KV (mergeK kvs more) (merged vs rs):=by
  intro more rs kvs vs r
  unfold KV at r
  induction r generalizing kvs vs with
  | nil=>intro q; exact q
  | @cons p q ps qs h t ih =>
    intro r0
    have e:KV (putK kvs p.1 p.2) (stored vs q.1 q.2):=by
      have:=r0.put p.1 h.2
      rw [← h.1]; exact this
    exact ih e
theorem length_mergeK:∀ (more kvs:List (Key × V)),(mergeK kvs more).length≤kvs.length + more.length
  | [],kvs=>by show kvs.length≤kvs.length + 0; omega
  | p :: r,kvs=>by
    have h1:=length_mergeK r (putK kvs p.1 p.2)
    have h2:=length_putK kvs p.1 p.2
    show (mergeK (putK kvs p.1 p.2) r).length≤_
    rw [List.length_cons]; omega
theorem carries_of {P:Program} {w:World}:∀ {kvs:List (Key × V)} {ws:List (Value × Value)},VV (kvs.map fun kv=>(kV kv.1,kv.2)) ws→∃ rs,Carries (mixKind P w) ws rs∧KV kvs rs
  | [],_,r=>by rw [List.map_nil] at r; cases r; exact ⟨[],True.intro,.nil⟩
  | p :: kvs,_,r=>by
    rw [List.map_cons] at r
    cases r with
    | @cons a b as bs h t =>
      obtain ⟨rs,c,q⟩:=carries_of (P:=P) (w:=w) t
      obtain ⟨b1,b2⟩:=b
      exact ⟨(p.1,b2) :: rs,⟨kV_is h.1,rfl,c⟩,.cons ⟨rfl,h.2⟩ q⟩
def tDisp (trs:List (TE × TE)):TE:=fun σ H Q=>∀ p,H p = none→tPairs trs σ (upd H p (.dK [])) fun ps H2=>H2 p = some (.dK [])∧∃ kvs:List (Key × V),ps = kvs.map (fun kv=>(kV kv.1,kv.2))∧kvs.length≤15∧Q (.ref p) (upd H2 p (.dK (mergeK [] kvs)))
theorem pe_disp {X:Cx} {pos:Pos} {keys:List (Option Expr)} {values:List Expr} {trs:List (TE × TE)} (h:PPs X pos keys values trs) (hall:keys.all (·.isSome) = true) (hl:keys.length = values.length) (h0:keys≠[])
    (h15:keys.length≤15):PE X (.Dict keys values pos) (tDisp trs):=by
  intro pins s σ H Q I q
  have hn:=I.hok.fresh (Nat.le_refl s.heap.objs.size)
  have I1:=I.laid (a:=s.heap.objs.size) (o:=.dK []) (h':=s.heap.push { cls:=.type "dict", data:=.dict #[] }) (t':=s.toks) (fun _ _ q=>Heap.get?_push_of_some _ q) (Nat.le_refl _) (dk_empty s.heap I.big)
  refine wpAny_Dict_walk (knd:=mixKind X.prog X.w) hall hl h0 h15 (thn (h pins _ σ _ _ I1 (q _ hn)) fun ws s2 ⟨ps,H2,I2,rel,e,kvs,ep,lk,q2⟩=>?_)
  subst ep
  obtain ⟨rs,c,rk⟩:=carries_of (P:=X.prog) (w:=X.w) rel
  obtain ⟨z,hd,vs0,r0,dd⟩:=dk_of I2.hok e
  cases r0
  refine ⟨rs,c,dd,fun h' dd' hs=>⟨.ref s.heap.objs.size,_,?_,rfl,q2⟩⟩
  have hz:(mergeK [] kvs).length≤sizeLine:=by
    have h1:=length_mergeK kvs []
    rw [List.length_nil] at h1
    rw [sizeLine_eq]; omega
  have he:∃ q,h'.get? s.heap.objs.size = some q:=let ⟨q,_,_,hq,_⟩:=dd'; ⟨q,hq⟩
  exact d_write I2 (by rw [e]; exact True.intro) hs he (dk_new hz hd (rk.merge .nil) dd')
section
variable {X:Cx} {pins:List (Addr × Obj)} {σ:St} {H:Hp} {s:Shared} {a:Addr} {y d:V} {u r:Value} {o:Option V} {A:Around} {E:Value→Shared→Prop}
end
section
variable {X:Cx} {o e f:Expr} {apos cpos:Pos} {td ty tx:TE}
end
section
variable {X:Cx} {pins:List (Addr × Obj)} {σ:St} {H:Hp} {s:Shared} {a:Addr} {kvs:List (Key × V)} {A:Around} {E:Value→Shared→Prop}
end
section
variable {X:Cx} {pins:List (Addr × Obj)} {σ:St} {H:Hp} {s:Shared} {a:Addr} {y:V} {u:Value} {A:Around} {E:Value→Shared→Prop}
end
end L2
namespace L2
open PySem PySem.Spec PyProof.Rows
section
variable {κ:Type} [DecidableEq κ]
end
end L2
namespace L2
open PySem PySem.Spec PyProof.Rows
inductive EqD (K:PySem.W.Frag) (H:Hp):Nat→V→V→Bool→Prop
  | flat {n:Nat} {x y:V} (fx:flatV x = true) (fy:flatV y = true):EqD K H n x y (eqV x y)
  | tt {n:Nat} {p q:Addr} {xs ys:List V} {e:Nat→Bool} (hp:SqT K H p xs) (hq:SqT K H q ys) (h:∀ (j:Nat) x y,xs[j]? = some x→ys[j]? = some y→EqD K H n x y (e j)) :
      EqD K H (n + 1) (.ref p) (.ref q) ((List.range (min xs.length ys.length)).all e && xs.length == ys.length)
  | ll {n:Nat} {p q:Addr} {xs ys:List V} {e:Nat→Bool} (hp:SqL K H p xs) (hq:SqL K H q ys) (hl:xs.length = ys.length) (h:∀ (j:Nat) x y,xs[j]? = some x→ys[j]? = some y→EqD K H n x y (e j)) :
      EqD K H (n + 1) (.ref p) (.ref q) ((List.range xs.length).all e)
  | ln {n:Nat} {p q:Addr} {xs ys:List V} (hp:SqL K H p xs) (hq:SqL K H q ys) (hl:xs.length≠ys.length):EqD K H (n + 1) (.ref p) (.ref q) false
  | lt {n:Nat} {p q:Addr} {xs ys:List V} (hp:SqL K H p xs) (hq:SqT K H q ys):EqD K H (n + 1) (.ref p) (.ref q) false
  | tl {n:Nat} {p q:Addr} {xs ys:List V} (hp:SqT K H p xs) (hq:SqL K H q ys):EqD K H (n + 1) (.ref p) (.ref q) false
  | lf {n:Nat} {p:Addr} {xs:List V} {y:V} (hp:SqL K H p xs) (fy:flatV y = true):EqD K H (n + 1) (.ref p) y false
  | fl {n:Nat} {p:Addr} {xs:List V} {y:V} (hp:SqL K H p xs) (fy:flatV y = true):EqD K H (n + 1) y (.ref p) false
  | tf {n:Nat} {p:Addr} {xs:List V} {y:V} (hp:SqT K H p xs) (fy:flatV y = true):EqD K H (n + 1) (.ref p) y false
  | ft {n:Nat} {p:Addr} {xs:List V} {y:V} (hp:SqT K H p xs) (fy:flatV y = true):EqD K H (n + 1) y (.ref p) false
section
variable {X:Cx} {pins:List (Addr × Obj)} {σ:St} {H:Hp} {s:Shared}
theorem eqV_refl {x:V} (f:flatV x = true):eqV x x = true:=by
  cases x <;> first | rfl | (simp [eqV]; done) | exact absurd (show false = true from f) Bool.false_ne_true
theorem list_not_tuple (I:Inv X pins σ H s) {p:Addr} {xs ys:List V} (h:SqL X.K H p xs) (k:SqT X.K H p ys):False:=by
  obtain ⟨_,_,⟨o,n,e,c,_⟩,_⟩:=I.list h
  obtain ⟨_,_,⟨o',e',c',_⟩,_⟩:=I.tuple k
  rw [e] at e'
  cases e'
  rw [c] at c'
  injection c' with z
  exact absurd z (by decide)
theorem EqD.refl (I:Inv X pins σ H s) {n:Nat} {x y:V} {b:Bool} (h:EqD X.K H n x y b):x = y→b = true:=by
  induction h with
  | flat fx fy=>intro e; subst e; exact eqV_refl fx
  | tt hp hq h ih =>
    intro e
    cases e
    have ee:=I.tuple_inj hp hq
    subst ee
    rw [Nat.min_self,beq_self_eq_true,Bool.and_true,List.all_eq_true]
    intro j hj
    have hj':=List.mem_range.mp hj
    exact ih j _ _ (List.getElem?_eq_getElem hj') (List.getElem?_eq_getElem hj') rfl
  | ll hp hq hl h ih =>
    intro e
    cases e
    have ee:=I.list_inj hp hq
    subst ee
    rw [List.all_eq_true]
    intro j hj
    have hj':=List.mem_range.mp hj
    exact ih j _ _ (List.getElem?_eq_getElem hj') (List.getElem?_eq_getElem hj') rfl
  | ln hp hq hl =>
    intro e
    cases e
    exact absurd (congrArg List.length (I.list_inj hp hq)) hl
  | lt hp hq=>intro e; cases e; exact (list_not_tuple I hp hq).elim
  | tl hp hq=>intro e; cases e; exact (list_not_tuple I hq hp).elim
  | lf hp fy=>intro e; subst e; exact absurd (show false = true from fy) Bool.false_ne_true
  | fl hp fy=>intro e; subst e; exact absurd (show false = true from fy) Bool.false_ne_true
  | tf hp fy=>intro e; subst e; exact absurd (show false = true from fy) Bool.false_ne_true
  | ft hp fy=>intro e; subst e; exact absurd (show false = true from fy) Bool.false_ne_true
theorem flat_list {A:Around} {u:Value} {y:V} {p:Addr} {its:Array Value} (hl:s.heap.IsList p its) (fy:flatV y = true) (ry:RelV y u) (hu:A.units < cLine):SeqAt.RcAt A s (.ref p) u false∧SeqAt.EqAt A s (.ref p) u false∧SeqAt.RcAt A s u (.ref p) false∧SeqAt.EqAt A s u (.ref p) false∧SeqAt.RcNeAt A s (.ref p) u true∧SeqAt.RcNeAt A s u (.ref p) true:=by
  cases y with
  | non=>cases ry; exact ⟨.list_none hl hu,.list_none hl hu,.none_list hl hu,.none_list hl hu,.list_none hl hu,.none_list hl hu⟩
  | bl b=>cases ry; exact ⟨.list_bool b hl hu,.list_bool b hl hu,.bool_list b hl hu,.bool_list b hl hu,.list_bool b hl hu,.bool_list b hl hu⟩
  | int i=>obtain ⟨t,rfl⟩:=ry; exact ⟨.list_int i t hl hu,.list_int i t hl hu,.int_list i t hl hu,.int_list i t hl hu,.list_int i t hl hu,.int_list i t hl hu⟩
  | str i=>obtain ⟨t,rfl⟩:=ry; exact ⟨.list_str i t hl hu,.list_str i t hl hu,.str_list i t hl hu,.str_list i t hl hu,.list_str i t hl hu,.str_list i t hl hu⟩
  | _=>exact absurd (show false = true from fy) Bool.false_ne_true
theorem flat_tuple {A:Around} {u:Value} {y:V} {p:Addr} {its:Array Value} (hl:s.heap.IsTuple p its) (fy:flatV y = true) (ry:RelV y u) (hu:A.units < cLine):SeqAt.RcAt A s (.ref p) u false∧SeqAt.EqAt A s (.ref p) u false∧SeqAt.RcAt A s u (.ref p) false∧SeqAt.EqAt A s u (.ref p) false∧SeqAt.RcNeAt A s (.ref p) u true∧SeqAt.RcNeAt A s u (.ref p) true:=by
  cases y with
  | non=>cases ry; exact ⟨.tuple_none hl hu,.tuple_none hl hu,.none_tuple hl hu,.none_tuple hl hu,.tuple_none hl hu,.none_tuple hl hu⟩
  | bl b=>cases ry; exact ⟨.tuple_bool b hl hu,.tuple_bool b hl hu,.bool_tuple b hl hu,.bool_tuple b hl hu,.tuple_bool b hl hu,.bool_tuple b hl hu⟩
  | int i=>obtain ⟨t,rfl⟩:=ry; exact ⟨.tuple_int i t hl hu,.tuple_int i t hl hu,.int_tuple i t hl hu,.int_tuple i t hl hu,.tuple_int i t hl hu,.int_tuple i t hl hu⟩
  | str i=>obtain ⟨t,rfl⟩:=ry; exact ⟨.tuple_str i t hl hu,.tuple_str i t hl hu,.str_tuple i t hl hu,.str_tuple i t hl hu,.tuple_str i t hl hu,.str_tuple i t hl hu⟩
  | _=>exact absurd (show false = true from fy) Bool.false_ne_true
theorem item_at {xs:List V} {us:List Value} (r:Vals xs us) {j:Nat} (h:j < us.toArray.size):∃ x,xs[j]? = some x∧RelV x us.toArray[j]:=by
  have hl:=r.length
  have hj:j < xs.length:=by simp at h; omega
  obtain ⟨u,hu,ru⟩:=r.get (List.getElem?_eq_getElem hj)
  refine ⟨xs[j],List.getElem?_eq_getElem hj,?_⟩
  have e:us.toArray[j] = u:=by
    have:=(List.getElem?_eq_some_iff.mp hu).2
    simpa using this
  rw [e]; exact ru
theorem EqD.at {n:Nat} {x y:V} {b:Bool} (h:EqD X.K H n x y b) (I:Inv X pins σ H s):∀ {A:Around} {u v:Value},RelV x u→RelV y v→A.units + n < cLine→SeqAt.EqAt A s u v b:=by
  induction h with
  | flat fx fy=>intro A u v rx ry _; exact eqAt_V rx ry fx fy
  | @tt n p q xs ys e hp hq h ih =>
    intro A u v rx ry hu
    cases rx
    cases ry
    obtain ⟨us,r1,t1,_⟩:=I.tuple hp
    obtain ⟨ws,r2,t2,_⟩:=I.tuple hq
    have l1:=r1.length
    have l2:=r2.length
    by_cases hne:p = q
    · subst hne
      have z:=(EqD.tt hp hq h).refl I rfl
      rw [z]
      exact SeqAt.EqAt.same _
    · refine SeqAt.EqAt.of_refs hne ?_
      have z:=SeqAt.RcAt.tuples (A:=A) (e:=e) t1 t2 (by omega) fun j h1 h2=>by
        obtain ⟨x,hx,rx⟩:=item_at r1 h1
        obtain ⟨y,hy,ry⟩:=item_at r2 h2
        exact ih j x y hx hy rx ry (by show A.units + 1 + n < cLine; omega)
      rw [List.size_toArray,List.size_toArray,← l1,← l2] at z
      exact z
  | @ll n p q xs ys e hp hq hl h ih =>
    intro A u v rx ry hu
    cases rx
    cases ry
    obtain ⟨us,r1,t1,_⟩:=I.list hp
    obtain ⟨ws,r2,t2,_⟩:=I.list hq
    have l1:=r1.length
    have l2:=r2.length
    by_cases hne:p = q
    · subst hne
      have z:=(EqD.ll hp hq hl h).refl I rfl
      rw [z]
      exact SeqAt.EqAt.same _
    · refine SeqAt.EqAt.of_refs hne ?_
      have z:=SeqAt.RcAt.lists (A:=A) (e:=e) t1.isList t2.isList (by simp; omega) (by omega) fun j h1 h2=>by
        obtain ⟨x,hx,rx⟩:=item_at r1 h1
        obtain ⟨y,hy,ry⟩:=item_at r2 h2
        exact ih j x y hx hy rx ry (by show A.units + 1 + n < cLine; omega)
      rw [List.size_toArray,← l1] at z
      exact z
  | @ln n p q xs ys hp hq hl =>
    intro A u v rx ry hu
    cases rx
    cases ry
    obtain ⟨us,r1,t1,_⟩:=I.list hp
    obtain ⟨ws,r2,t2,_⟩:=I.list hq
    have l1:=r1.length
    have l2:=r2.length
    have hne:p≠q:=fun e=>by subst e; exact hl (congrArg List.length (I.list_inj hp hq))
    exact SeqAt.EqAt.of_refs hne (SeqAt.RcAt.lists_lengths t1.isList t2.isList (by simp; omega) (by omega))
  | lt hp hq =>
    intro A u v rx ry hu
    cases rx
    cases ry
    obtain ⟨us,r1,t1,_⟩:=I.list hp
    obtain ⟨ws,r2,t2,_⟩:=I.tuple hq
    exact SeqAt.EqAt.list_tuple t1.isList t2 (by omega)
  | tl hp hq =>
    intro A u v rx ry hu
    cases rx
    cases ry
    obtain ⟨us,r1,t1,_⟩:=I.tuple hp
    obtain ⟨ws,r2,t2,_⟩:=I.list hq
    exact SeqAt.EqAt.tuple_list t1 t2.isList (by omega)
  | lf hp fy =>
    intro A u v rx ry hu
    cases rx
    obtain ⟨us,r1,t1,_⟩:=I.list hp
    exact (flat_list t1.isList fy ry (by omega)).2.1
  | fl hp fy =>
    intro A u v rx ry hu
    cases ry
    obtain ⟨us,r1,t1,_⟩:=I.list hp
    exact (flat_list t1.isList fy rx (by omega)).2.2.2.1
  | tf hp fy =>
    intro A u v rx ry hu
    cases rx
    obtain ⟨us,r1,t1,_⟩:=I.tuple hp
    exact (flat_tuple t1 fy ry (by omega)).2.1
  | ft hp fy =>
    intro A u v rx ry hu
    cases ry
    obtain ⟨us,r1,t1,_⟩:=I.tuple hp
    exact (flat_tuple t1 fy rx (by omega)).2.2.2.1
theorem EqD.rc {n:Nat} {x y:V} {b:Bool} (h:EqD X.K H n x y b) (I:Inv X pins σ H s) (hn:¬ (flatV x = true∧flatV y = true)) {A:Around} {u v:Value} (rx:RelV x u) (ry:RelV y v) (hu:A.units + n < cLine):SeqAt.RcAt A s u v b∧SeqAt.RcNeAt A s u v (!b):=by
  cases h with
  | flat fx fy=>exact absurd ⟨fx,fy⟩ hn
  | @tt n p q xs ys e hp hq h =>
    cases rx
    cases ry
    obtain ⟨us,r1,t1,_⟩:=I.tuple hp
    obtain ⟨ws,r2,t2,_⟩:=I.tuple hq
    have l1:=r1.length
    have l2:=r2.length
    have he:∀ j (h1:j < us.toArray.size) (h2:j < ws.toArray.size),SeqAt.EqAt A.in1 s us.toArray[j] ws.toArray[j] (e j):=fun j h1 h2=>by
      obtain ⟨x,hx,rx⟩:=item_at r1 h1
      obtain ⟨y,hy,ry⟩:=item_at r2 h2
      exact (h j x y hx hy).at I rx ry (by show A.units + 1 + n < cLine; omega)
    have z:=SeqAt.RcAt.tuples (A:=A) (e:=e) t1 t2 (by omega) he
    have z2:=SeqAt.RcNeAt.tuples (A:=A) (e:=e) t1 t2 (by omega) he
    rw [List.size_toArray,List.size_toArray,← l1,← l2] at z z2
    exact ⟨z,z2⟩
  | @ll n p q xs ys e hp hq hl h =>
    cases rx
    cases ry
    obtain ⟨us,r1,t1,_⟩:=I.list hp
    obtain ⟨ws,r2,t2,_⟩:=I.list hq
    have l1:=r1.length
    have l2:=r2.length
    have he:∀ j (h1:j < us.toArray.size) (h2:j < ws.toArray.size),SeqAt.EqAt A.in1 s us.toArray[j] ws.toArray[j] (e j):=fun j h1 h2=>by
      obtain ⟨x,hx,rx⟩:=item_at r1 h1
      obtain ⟨y,hy,ry⟩:=item_at r2 h2
      exact (h j x y hx hy).at I rx ry (by show A.units + 1 + n < cLine; omega)
    have z:=SeqAt.RcAt.lists (A:=A) (e:=e) t1.isList t2.isList (by simp; omega) (by omega) he
    have z2:=SeqAt.RcNeAt.lists (A:=A) (e:=e) t1.isList t2.isList (by simp; omega) (by omega) he
    rw [List.size_toArray,← l1] at z z2
    exact ⟨z,z2⟩
  | @ln n p q xs ys hp hq hl =>
    cases rx
    cases ry
    obtain ⟨us,r1,t1,_⟩:=I.list hp
    obtain ⟨ws,r2,t2,_⟩:=I.list hq
    have l1:=r1.length
    have l2:=r2.length
    exact ⟨SeqAt.RcAt.lists_lengths t1.isList t2.isList (by simp; omega) (by omega),SeqAt.RcNeAt.lists_lengths t1.isList t2.isList (by simp; omega) (by omega)⟩
  | lt hp hq =>
    cases rx
    cases ry
    obtain ⟨us,r1,t1,_⟩:=I.list hp
    obtain ⟨ws,r2,t2,_⟩:=I.tuple hq
    exact ⟨SeqAt.RcAt.list_tuple t1.isList t2 (by omega),SeqAt.RcNeAt.list_tuple t1.isList t2 (by omega)⟩
  | tl hp hq =>
    cases rx
    cases ry
    obtain ⟨us,r1,t1,_⟩:=I.tuple hp
    obtain ⟨ws,r2,t2,_⟩:=I.list hq
    exact ⟨SeqAt.RcAt.tuple_list t1 t2.isList (by omega),SeqAt.RcNeAt.tuple_list t1 t2.isList (by omega)⟩
  | lf hp fy =>
    cases rx
    obtain ⟨us,r1,t1,_⟩:=I.list hp
    have z:=flat_list (A:=A) t1.isList fy ry (by omega)
    exact ⟨z.1,z.2.2.2.2.1⟩
  | fl hp fy =>
    cases ry
    obtain ⟨us,r1,t1,_⟩:=I.list hp
    have z:=flat_list (A:=A) t1.isList fy rx (by omega)
    exact ⟨z.2.2.1,z.2.2.2.2.2⟩
  | tf hp fy =>
    cases rx
    obtain ⟨us,r1,t1,_⟩:=I.tuple hp
    have z:=flat_tuple (A:=A) t1 fy ry (by omega)
    exact ⟨z.1,z.2.2.2.2.1⟩
  | ft hp fy =>
    cases ry
    obtain ⟨us,r1,t1,_⟩:=I.tuple hp
    have z:=flat_tuple (A:=A) t1 fy rx (by omega)
    exact ⟨z.2.2.1,z.2.2.2.2.2⟩
end
section
variable {X:Cx}
theorem op_eqD {K:PySem.W.Frag} (hK:X.K = K) (hu:X.A.units + 8 < cLine):OpR X (compareOp .Eq) (fun x y H Q=>∃ b,¬ (flatV x = true∧flatV y = true)∧EqD K H 8 x y b∧Q (.bl b) H):=by
  subst hK
  intro pins s σ H x y v u Q I rx ry h
  obtain ⟨b,hn,he,q⟩:=h
  exact (he.rc I hn rx ry hu).1 X.prog X.w X.xe _ ⟨.bl b,H,I,rfl,q⟩
theorem op_neD {K:PySem.W.Frag} (hK:X.K = K) (hu:X.A.units + 8 < cLine):OpR X (compareOp .NotEq) (fun x y H Q=>∃ b,¬ (flatV x = true∧flatV y = true)∧EqD K H 8 x y b∧Q (.bl (!b)) H):=by
  subst hK
  intro pins s σ H x y v u Q I rx ry h
  obtain ⟨b,hn,he,q⟩:=h
  exact (he.rc I hn rx ry hu).2 X.prog X.w X.xe _ ⟨.bl (!b),H,I,rfl,q⟩
theorem hu8 {A:Around} {k:Nat} (hr:Room k A):A.units + 8 < cLine:=by have:=hr.units; omega
end
end L2
namespace L2
open PySem PySem.Spec PyProof.Rows
section
variable {X:Cx}
theorem vals_get:∀ {xs:List V} {us:List Value},xs.length = us.length→(∀ (j:Nat) u,us[j]? = some u→∃ x,xs[j]? = some x∧RelV x u)→Vals xs us
  | [],[],_,_=>.nil
  | [],_ :: _,h,_=>by simp at h
  | _ :: _,[],h,_=>by simp at h
  | x :: xs,u :: us,hl,h=>by
    obtain ⟨x',e,r⟩:=h 0 u rfl
    cases e
    refine .cons r (vals_get (by simpa using hl) fun j v hv=>?_)
    obtain ⟨y,e,r⟩:=h (j + 1) v (by simpa using hv)
    exact ⟨y,by simpa using e,r⟩
end
end L2
namespace Bdd
abbrev Rm:=Option (Nat × Nat × Nat)
def lev (n:Nat) (rs:List Rm) (k:Nat):Nat:=match rs[k]? with
  | some (some (i,_,_))=>i
  | _=>n
structure Bk (n:Nat) (rs:List Rm):Prop where
  h0:rs[0]? = some none
  h1:rs[1]? = some none
  rm:∀ k,2≤k→k < rs.length→∃ i lo hi,rs[k]? = some (some (i,lo,hi))∧i < n∧lo < k∧hi < k∧lo≠hi∧i < lev n rs lo∧i < lev n rs hi
  uq:∀ (k l:Nat) (x:Nat × Nat × Nat),rs[k]? = some (some x)→rs[l]? = some (some x)→k = l
abbrev Row:=Nat→Bool
def put (r:Row) (i:Nat) (v:Bool):Row:=fun j=>if j = i then v else r j
def lead (rs:List Rm) (r:Row):Nat→Nat→Nat
  | 0,k=>k
  | f + 1,k=>match rs[k]? with
    | some (some (i,lo,hi))=>lead rs r f (if r i then hi else lo)
    | _=>k
theorem lead_fuel {n:Nat} {rs:List Rm} (B:Bk n rs) (r:Row):∀ (f g k:Nat),k≤f→k≤g→k < rs.length→lead rs r f k = lead rs r g k
  | 0,0,k,_,_,_=>rfl
  | 0,g + 1,k,h,_,_=>by
    have e:k = 0:=by omega
    subst e
    show 0 = lead rs r (g + 1) 0
    unfold lead
    rw [B.h0]
  | f + 1,0,k,_,h,_=>by
    have e:k = 0:=by omega
    subst e
    show lead rs r (f + 1) 0 = 0
    unfold lead
    rw [B.h0]
  | f + 1,g + 1,k,hf,hg,hk=>by
    by_cases h2:2≤k
    · obtain ⟨i,lo,hi,e,_,hlo,hhi,_⟩:=B.rm k h2 hk
      unfold lead
      rw [e]
      show lead rs r f (if r i then hi else lo) = lead rs r g (if r i then hi else lo)
      refine lead_fuel B r f g _ ?_ ?_ ?_ <;> (split <;> omega)
    · have:k = 0∨k = 1:=by omega
      rcases this with e | e <;> subst e <;> unfold lead
      · rw [B.h0]
      · rw [B.h1]
def yes (rs:List Rm) (k:Nat) (r:Row):Bool:=lead rs r k k == 1
section
variable {n:Nat} {rs:List Rm} (B:Bk n rs)
include B
theorem len2:2≤rs.length:=by
  have:=(List.getElem?_eq_some_iff.mp B.h1).1
  omega
theorem yes_no (r:Row):yes rs 0 r = false:=rfl
theorem yes_yes (r:Row):yes rs 1 r = true:=by
  unfold yes lead
  rw [B.h1]
  rfl
theorem lead_step {k i lo hi:Nat} (e:rs[k]? = some (some (i,lo,hi))) (r:Row):lead rs r k k = lead rs r (if r i then hi else lo) (if r i then hi else lo):=by
  have hk:=(List.getElem?_eq_some_iff.mp e).1
  have k2:2≤k:=by
    by_cases h:2≤k
    · exact h
    · exfalso
      have:k = 0∨k = 1:=by omega
      rcases this with z | z <;> subst z
      · rw [B.h0] at e; cases e
      · rw [B.h1] at e; cases e
  obtain ⟨i',lo',hi',e',_,hlo,hhi,_⟩:=B.rm k k2 hk
  rw [e] at e'
  cases e'
  obtain ⟨m,rfl⟩:∃ m,k = m + 1:=⟨k - 1,by omega⟩
  show (match rs[m + 1]? with | some (some (i,lo,hi))=>lead rs r m (if r i then hi else lo) | _=>m + 1) = _
  rw [e]
  show lead rs r m (if r i then hi else lo) = _
  refine lead_fuel B r _ _ _ ?_ (Nat.le_refl _) ?_ <;> (split <;> omega)
theorem yes_step {k i lo hi:Nat} (e:rs[k]? = some (some (i,lo,hi))) (r:Row):yes rs k r = if r i then yes rs hi r else yes rs lo r:=by
  unfold yes
  rw [lead_step B e r]
  split <;> rfl
theorem lev_of {k i lo hi:Nat} (e:rs[k]? = some (some (i,lo,hi))):lev n rs k = i:=by unfold lev; rw [e]
theorem lev_no:lev n rs 0 = n:=by unfold lev; rw [B.h0]
theorem lev_yes:lev n rs 1 = n:=by unfold lev; rw [B.h1]
theorem yes_congr:∀ (m k:Nat),k≤m→k < rs.length→∀ {r r':Row},(∀ i,lev n rs k≤i→i < n→r i = r' i)→yes rs k r = yes rs k r'
  | m,k,hm,hk,r,r',h=>by
    by_cases h2:2≤k
    · obtain ⟨i,lo,hi,e,hin,hlo,hhi,_,l1,l2⟩:=B.rm k h2 hk
      have lk:=lev_of B e
      rw [yes_step B e,yes_step B e,h i (by omega) hin]
      match m,hm with
      | 0,hm=>omega
      | m + 1,hm =>
        rw [yes_congr m hi (by omega) (by omega) fun j hj hjn=>h j (by omega) hjn,yes_congr m lo (by omega) (by omega) fun j hj hjn=>h j (by omega) hjn]
    · have:k = 0∨k = 1:=by omega
      rcases this with z | z <;> subst z
      · rfl
      · rw [yes_yes B,yes_yes B]
theorem yes_put {k i:Nat} (hk:k < rs.length) (h:i < lev n rs k) (r:Row) (v:Bool):yes rs k (put r i v) = yes rs k r:=by
  refine yes_congr B k k (Nat.le_refl _) hk fun j hj _=>?_
  unfold put
  rw [if_neg (by omega)]
theorem yes_lo {k i lo hi:Nat} (e:rs[k]? = some (some (i,lo,hi))) (hk:k < rs.length) (r:Row):yes rs k (put r i false) = yes rs lo r∧yes rs k (put r i true) = yes rs hi r:=by
  have k2:2≤k:=by
    by_cases h:2≤k
    · exact h
    · exfalso
      have:k = 0∨k = 1:=by omega
      rcases this with z | z <;> subst z
      · rw [B.h0] at e; cases e
      · rw [B.h1] at e; cases e
  obtain ⟨i',lo',hi',e',_,hlo,hhi,_,l1,l2⟩:=B.rm k k2 hk
  rw [e] at e'
  cases e'
  constructor
  · rw [yes_step B e]
    have z:put r i false i = false:=by unfold put; rw [if_pos rfl]
    rw [z,if_neg Bool.false_ne_true]
    exact yes_put B (by omega) l1 r false
  · rw [yes_step B e]
    have z:put r i true i = true:=by unfold put; rw [if_pos rfl]
    rw [z,if_pos rfl]
    exact yes_put B (by omega) l2 r true
theorem one_room:∀ (m k l:Nat),(k≤m∧l≤m)→k < rs.length→l < rs.length→(∀ r,yes rs k r = yes rs l r)→k = l
  | m,k,l,hm,hk,hl,h=>by
    by_cases k2:2≤k
    · obtain ⟨i,lo,hi,e,hin,hlo,hhi,hne,l1,l2⟩:=B.rm k k2 hk
      by_cases l2':2≤l
      · obtain ⟨j,lo',hi',e',hjn,hlo',hhi',hne',l1',l2''⟩:=B.rm l l2' hl
        match m,hm with
        | 0,hm=>omega
        | m + 1,hm =>
          rcases Nat.lt_trichotomy i j with q | q | q
          · exfalso
            refine hne (one_room m lo hi (by omega) (by omega) (by omega) fun r=>?_)
            have z:=yes_lo B e hk r
            rw [← z.1,← z.2,h,h,yes_put B hl (by rw [lev_of B e']; exact q),yes_put B hl (by rw [lev_of B e']; exact q)]
          · subst q
            have a1:lo = lo':=one_room m lo lo' (by omega) (by omega) (by omega) fun r=>by rw [← (yes_lo B e hk r).1,← (yes_lo B e' hl r).1,h]
            have a2:hi = hi':=one_room m hi hi' (by omega) (by omega) (by omega) fun r=>by rw [← (yes_lo B e hk r).2,← (yes_lo B e' hl r).2,h]
            subst a1 a2
            exact B.uq k l _ e e'
          · exfalso
            refine hne' (one_room m lo' hi' (by omega) (by omega) (by omega) fun r=>?_)
            have z:=yes_lo B e' hl r
            rw [← z.1,← z.2,← h,← h,yes_put B hk (by rw [lev_of B e]; exact q),yes_put B hk (by rw [lev_of B e]; exact q)]
      · exfalso
        match m,hm with
        | 0,hm=>omega
        | m + 1,hm =>
          have ll:lev n rs l = n:=by
            have:l = 0∨l = 1:=by omega
            rcases this with z | z <;> subst z
            · exact lev_no B
            · exact lev_yes B
          refine hne (one_room m lo hi (by omega) (by omega) (by omega) fun r=>?_)
          have z:=yes_lo B e hk r
          rw [← z.1,← z.2,h,h,yes_put B hl (by omega),yes_put B hl (by omega)]
    · by_cases l2':2≤l
      · exfalso
        obtain ⟨j,lo',hi',e',hjn,hlo',hhi',hne',l1',l2''⟩:=B.rm l l2' hl
        match m,hm with
        | 0,hm=>omega
        | m + 1,hm =>
          have ll:lev n rs k = n:=by
            have:k = 0∨k = 1:=by omega
            rcases this with z | z <;> subst z
            · exact lev_no B
            · exact lev_yes B
          refine hne' (one_room m lo' hi' (by omega) (by omega) (by omega) fun r=>?_)
          have z:=yes_lo B e' hl r
          rw [← z.1,← z.2,← h,← h,yes_put B hk (by omega),yes_put B hk (by omega)]
      · have a:k = 0∨k = 1:=by omega
        have b:l = 0∨l = 1:=by omega
        have z:=h fun _=>false
        rcases a with a | a <;> rcases b with b | b <;> subst a <;> subst b
        · rfl
        · rw [yes_no B,yes_yes B] at z; cases z
        · rw [yes_no B,yes_yes B] at z; cases z
        · rfl
end
theorem get_snoc {rs:List Rm} {x:Rm} {k:Nat} (h:k < rs.length):(rs ++ [x])[k]? = rs[k]?:=List.getElem?_append_left h
theorem lev_snoc {n:Nat} {rs:List Rm} {x:Rm} {k:Nat} (h:k < rs.length):lev n (rs ++ [x]) k = lev n rs k:=by
  unfold lev; rw [get_snoc h]
theorem Bk.snoc {n:Nat} {rs:List Rm} (B:Bk n rs) {i lo hi:Nat} (hin:i < n) (hlo:lo < rs.length) (hhi:hi < rs.length) (hne:lo≠hi) (l1:i < lev n rs lo) (l2:i < lev n rs hi) (new:some (i,lo,hi) ∉ rs):Bk n (rs ++ [some (i,lo,hi)]) where
  h0:=by rw [get_snoc (by have:=len2 B; omega)]; exact B.h0
  h1:=by rw [get_snoc (by have:=len2 B; omega)]; exact B.h1
  rm:=fun k h2 hk=>by
    rw [List.length_append,List.length_singleton] at hk
    by_cases hlt:k < rs.length
    · obtain ⟨i',lo',hi',e,a1,a2,a3,a4,a5,a6⟩:=B.rm k h2 hlt
      exact ⟨i',lo',hi',by rw [get_snoc hlt]; exact e,a1,a2,a3,a4,by rw [lev_snoc (by omega)]; exact a5,by rw [lev_snoc (by omega)]; exact a6⟩
    · have e:k = rs.length:=by omega
      subst e
      exact ⟨i,lo,hi,by simp,hin,hlo,hhi,hne,by rw [lev_snoc hlo]; exact l1,by rw [lev_snoc hhi]; exact l2⟩
  uq:=fun k l x hk hl=>by
    have lk:=(List.getElem?_eq_some_iff.mp hk).1
    have ll:=(List.getElem?_eq_some_iff.mp hl).1
    rw [List.length_append,List.length_singleton] at lk ll
    have last:∀ m,m = rs.length→(rs ++ [some (i,lo,hi)])[m]? = some (some x)→x = (i,lo,hi):=fun m hm h=>by
      subst hm
      simp at h
      exact h.symm
    by_cases h1:k < rs.length
    · by_cases h2:l < rs.length
      · rw [get_snoc h1] at hk
        rw [get_snoc h2] at hl
        exact B.uq k l x hk hl
      · exfalso
        have e:=last l (by omega) hl
        subst e
        rw [get_snoc h1] at hk
        exact new (List.mem_of_getElem? hk)
    · by_cases h2:l < rs.length
      · exfalso
        have e:=last k (by omega) hk
        subst e
        rw [get_snoc h2] at hl
        exact new (List.mem_of_getElem? hl)
      · omega
theorem lead_snoc {n:Nat} {rs:List Rm} (B:Bk n rs) {x:Rm} (r:Row):∀ (f k:Nat),k < rs.length→lead (rs ++ [x]) r f k = lead rs r f k
  | 0,_,_=>rfl
  | f + 1,k,hk=>by
    unfold lead
    rw [get_snoc hk]
    by_cases h2:2≤k
    · obtain ⟨i,lo,hi,e,_,hlo,hhi,_⟩:=B.rm k h2 hk
      rw [e]
      show lead (rs ++ [x]) r f (if r i then hi else lo) = lead rs r f (if r i then hi else lo)
      exact lead_snoc B r f _ (by split <;> omega)
    · have:k = 0∨k = 1:=by omega
      rcases this with z | z <;> subst z
      · rw [B.h0]
      · rw [B.h1]
theorem yes_snoc {n:Nat} {rs:List Rm} (B:Bk n rs) {x:Rm} {k:Nat} (hk:k < rs.length) (r:Row):yes (rs ++ [x]) k r = yes rs k r:=by
  unfold yes; rw [lead_snoc B r k k hk]
def Grown (rs rs':List Rm):Prop:=∃ xs,rs' = rs ++ xs
theorem Grown.refl (rs:List Rm):Grown rs rs:=⟨[],by simp⟩
theorem Grown.trans {a b c:List Rm} (h:Grown a b) (k:Grown b c):Grown a c:=by
  obtain ⟨x,rfl⟩:=h
  obtain ⟨y,rfl⟩:=k
  exact ⟨x ++ y,by rw [List.append_assoc]⟩
theorem Grown.len {a b:List Rm} (h:Grown a b):a.length≤b.length:=by
  obtain ⟨x,rfl⟩:=h
  rw [List.length_append]; omega
theorem Grown.get {a b:List Rm} (h:Grown a b) {k:Nat} (hk:k < a.length):b[k]? = a[k]?:=by
  obtain ⟨x,rfl⟩:=h
  exact List.getElem?_append_left hk
theorem Grown.snoc (rs:List Rm) (x:Rm):Grown rs (rs ++ [x]):=⟨[x],rfl⟩
theorem Grown.lev {n:Nat} {a b:List Rm} (h:Grown a b) {k:Nat} (hk:k < a.length):lev n b k = lev n a k:=by
  unfold Bdd.lev; rw [h.get hk]
theorem Grown.lead {n:Nat} {a b:List Rm} (B:Bk n a) (h:Grown a b) (r:Row):∀ (f k:Nat),k < a.length→lead b r f k = lead a r f k
  | 0,_,_=>rfl
  | f + 1,k,hk=>by
    unfold Bdd.lead
    rw [h.get hk]
    by_cases h2:2≤k
    · obtain ⟨i,lo,hi,e,_,hlo,hhi,_⟩:=B.rm k h2 hk
      rw [e]
      show Bdd.lead b r f (if r i then hi else lo) = Bdd.lead a r f (if r i then hi else lo)
      exact Grown.lead B h r f _ (by split <;> omega)
    · have:k = 0∨k = 1:=by omega
      rcases this with z | z <;> subst z
      · rw [B.h0]
      · rw [B.h1]
theorem Grown.yes {n:Nat} {a b:List Rm} (B:Bk n a) (h:Grown a b) {k:Nat} (hk:k < a.length) (r:Row):yes b k r = yes a k r:=by
  unfold Bdd.yes; rw [Grown.lead B h r k k hk]
end Bdd
namespace L2
end L2
namespace Sen
open PySem L2 Bdd
abbrev Foot:=Addr→Prop
def Away (F:Foot) (H H':Hp):Prop:=∀ x o,H x = some o→¬ F x→H' x = some o
def bookMeths:List Str:=["room", "size", "order", "enter", "worth_at", "below"]
structure BookLike (C:Addr) (B:Hp→Addr→List Str→List Rm→Foot→Prop):Prop where
  ins:∀ {H b os rs F},B H b os rs F→∃ dx fs,H b = some (.ins C dx fs)∧∀ m∈bookMeths,fs.lookup m = none
  frame:∀ {H H' b os rs F},B H b os rs F→(∀ x o,H x = some o→F x→H' x = some o)→Tups H H'→B H' b os rs F
  there:∀ {H b os rs F x},B H b os rs F→F x→H x≠none
  bk:∀ {H b os rs F},B H b os rs F→Bk os.length rs
  ord:∀ {H b os rs F},B H b os rs F→IsOrd os
theorem BookLike.same {C:Addr} {B:Hp→Addr→List Str→List Rm→Foot→Prop} (L:BookLike C B) {H H':Hp} {b:Addr} {os:List Str} {rs:List Rm} {F:Foot} (h:B H b os rs F) (g:Same H H'):B H' b os rs F :=
  L.frame h (fun x o e _=>g x o e) (Tups.of g)
theorem BookLike.fresh {C:Addr} {B:Hp→Addr→List Str→List Rm→Foot→Prop} (L:BookLike C B) {H:Hp} {b x:Addr} {os:List Str} {rs:List Rm} {F:Foot} (h:B H b os rs F) (e:H x = none):¬ F x:=fun q=>L.there h q e
theorem Away.of_same {F:Foot} {H H':Hp} (g:Same H H'):Away F H H':=fun x o e _=>g x o e
def RoomV (os:List Str) (H:Hp) (x:Rm) (v:V):Prop:=match x with
  | none=>v = .non
  | some (i,lo,hi)=>∃ (p:Addr) (y:Str),v = .ref p∧os[i]? = some y∧H p = some (.tup [.str y,.int (lo:Nat),.int (hi:Nat)])
theorem RoomV.mono {os:List Str} {H H':Hp} (g:Tups H H') {x:Rm} {v:V} (h:RoomV os H x v):RoomV os H' x v:=by
  cases x with
  | none=>exact h
  | some t =>
    obtain ⟨i,lo,hi⟩:=t
    obtain ⟨p,y,e1,e2,e3⟩:=h
    exact ⟨p,y,e1,e2,g _ _ e3⟩
def envR (os:List Str) (r:Row):Str→Bool:=fun x=>r (ix os x)
section
variable (B:Hp→Addr→List Str→List Rm→Foot→Prop) (K:PySem.W.Frag) (C:Addr)
def spBookInit:Sp:=fun vs H Q _=>∃ (b dx l:Addr) (os:List Str),vs = [.ref b,.ref l]∧H b = some (.ins C dx [])∧b≠dx∧SqL K H l (os.map V.str)∧IsOrd os ∧
  ∀ (H':Hp) (F:Foot),(∀ x o,H x = some o→x≠b→H' x = some o)→B H' b os [none,none] F→(∀ x,F x→x = b∨x = dx∨H x = none)→Q .non H'
def spBookSize:Sp:=fun vs H Q _=>∃ (b:Addr) (os:List Str) (rs:List Rm) (F:Foot),vs = [.ref b]∧B H b os rs F∧∀ H',Same H H'→Q (.int (rs.length:Nat)) H'
def spBookOrder:Sp:=fun vs H Q _=>∃ (b:Addr) (os:List Str) (rs:List Rm) (F:Foot),vs = [.ref b]∧B H b os rs F∧∀ (l:Addr) (H':Hp),Same H H'→H l = none→H' l = some (.lst (os.map V.str))→Q (.ref l) H'
def spBookRoom:Sp:=fun vs H Q _=>∃ (b:Addr) (os:List Str) (rs:List Rm) (F:Foot) (k:Nat) (x:Rm),vs = [.ref b,.int k]∧B H b os rs F∧rs[k]? = some x∧∀ (v:V) (H':Hp),Same H H'→RoomV os H' x v→Q v H'
end
def RoomsV (os:List Str) (H:Hp) (rs:List Rm) (vs:List V):Prop:=vs.length≤rs.length∧∀ (j:Nat) v,vs[j]? = some v→∃ x,rs[j]? = some x∧RoomV os H x v
theorem RoomsV.mono {os:List Str} {H H':Hp} (g:Tups H H') {rs:List Rm} {vs:List V} (h:RoomsV os H rs vs):RoomsV os H' rs vs:=⟨h.1,fun j v e=>let ⟨x,a,b⟩:=h.2 j v e; ⟨x,a,b.mono g⟩⟩
theorem eq_ll {K:PySem.W.Frag} {H:Hp} {n:Nat} {p q:Addr} {xs ys:List V} (hp:SqL K H p xs) (hq:SqL K H q ys) (hl:xs.length = ys.length) (h:∀ (j:Nat) x y,xs[j]? = some x→ys[j]? = some y→EqD K H n x y true):EqD K H (n + 1) (.ref p) (.ref q) true:=by
  have z:=EqD.ll (e:=fun _=>true) hp hq hl h
  have e:(List.range xs.length).all (fun _=>true) = true:=by simp
  rw [e] at z
  exact z
theorem eq_flat {K:PySem.W.Frag} {H:Hp} {n:Nat} {x:V} (f:flatV x = true):EqD K H n x x true:=by
  have z:=EqD.flat (K:=K) (H:=H) (n:=n) f f
  rw [eqV_refl f] at z
  exact z
theorem eq_tt {K:PySem.W.Frag} {H:Hp} {n:Nat} {p q:Addr} {xs:List V} (hp:SqT K H p xs) (hq:SqT K H q xs) (f:xs.all flatV = true):EqD K H (n + 1) (.ref p) (.ref q) true:=by
  have z:=EqD.tt (n:=n) (e:=fun _=>true) hp hq fun j x y hx hy=>by
    rw [hx] at hy
    cases hy
    exact eq_flat (List.all_eq_true.mp f x (List.mem_of_getElem? hx))
  have e:((List.range (min xs.length xs.length)).all (fun _=>true) && xs.length == xs.length) = true:=by simp
  rw [e] at z
  exact z
theorem room_eq {K:PySem.W.Frag} {os:List Str} {H:Hp} {n:Nat} {x:Rm} {v u:V} (h:RoomV os H x v) (k:RoomV os H x u):EqD K H (n + 1) v u true:=by
  cases x with
  | none =>
    have h':v = .non:=h
    have k':u = .non:=k
    subst h' k'
    exact eq_flat rfl
  | some t =>
    obtain ⟨i,lo,hi⟩:=t
    obtain ⟨p,y,rfl,e1,e2⟩:=h
    obtain ⟨q,y',rfl,e1',e2'⟩:=k
    rw [e1] at e1'
    cases e1'
    exact eq_tt (SqT.of e2) (SqT.of e2') rfl
end Sen
namespace L2
open PySem PySem.Spec PyProof.Rows
theorem bt_sorted:bootBuiltins "sorted" = some (.builtin "sorted"):=by decide +kernel
end L2
namespace Bdd
open L2
end Bdd
namespace Sen
open PySem L2 Bdd
section
variable (B:Hp→Addr→List Str→List Rm→Foot→Prop)
end
end Sen
namespace Bdd
def Means (rs:List Rm) (k:Nat) (f:Row→Bool):Prop:=k < rs.length∧∀ r,yes rs k r = f r
theorem Means.grown {n:Nat} {a b:List Rm} (B:Bk n a) (g:Grown a b) {k:Nat} {f:Row→Bool} (h:Means a k f):Means b k f:=⟨Nat.lt_of_lt_of_le h.1 g.len,fun r=>by rw [g.yes B h.1]; exact h.2 r⟩
end Bdd
namespace L2
open PySem
theorem cutK {X:Cx} {all rest:List Stmt} {D:Ends} {Tf:TS→TS} {Pre:St→Hp→Prop} (Mid:St→Hp→Prop) (h1:∀ t,PSs X rest t→PSs X all (Tf t)) (h:∀ u:TS,(∀ σ H,Mid σ H→u D σ H)→∀ σ H,Pre σ H→Tf u D σ H)
    (hr:∃ t,PSs X rest t∧∀ σ H,Mid σ H→t D σ H):∃ t,PSs X all t∧∀ σ H,Pre σ H→t D σ H :=
  let ⟨t,a,b⟩:=hr
  ⟨Tf t,h1 t a,h t b⟩
theorem cut0 {X:Cx} {all:List Stmt} {D:Ends} {σ:St} {H:Hp} (h:∃ t,PSs X all t∧∀ σ' H',(σ' = σ∧H' = H)→t D σ' H'):∃ t,PSs X all t∧t D σ H :=
  let ⟨t,a,b⟩:=h
  ⟨t,a,b _ _ ⟨rfl,rfl⟩⟩
end L2
namespace Sen
open PySem L2 Bdd
section
variable (B:Hp→Addr→List Str→List Rm→Foot→Prop)
end
section
variable {B:Hp→Addr→List Str→List Rm→Foot→Prop} {C:Addr} {H0:Hp} {b:Addr} {os:List Str} {n:Nat} {H:Hp} {rs:List Rm} {F:Foot}
end
end Sen
namespace Bdd
open Sen
def rowN (b:Nat):Row:=fun i=>b.testBit i
def bits (r:Row):Nat→Nat
  | 0=>0
  | n + 1=>if r n then bits r n + 2 ^ n else bits r n
theorem bits_lt (r:Row):∀ n,bits r n < 2 ^ n
  | 0=>Nat.zero_lt_one
  | n + 1=>by
    have ih:=bits_lt r n
    unfold bits
    rw [Nat.pow_succ]
    split <;> omega
theorem bits_bit (r:Row):∀ {n i:Nat},i < n→(bits r n).testBit i = r i
  | 0,i,h=>by omega
  | n + 1,i,h=>by
    have lt:=bits_lt r n
    have z:(bits r n).testBit n = false:=Nat.testBit_lt_two_pow lt
    unfold bits
    by_cases e:i = n
    · subst e
      cases hr:r i
      · rw [if_neg Bool.false_ne_true]; exact z
      · rw [if_pos rfl,tb_add_same,z]; rfl
    · have hi:i < n:=by omega
      split
      · rw [tb_add_lt hi]; exact bits_bit r hi
      · exact bits_bit r hi
theorem eq_bits {n a b:Nat} (ha:a < 2 ^ n) (hb:b < 2 ^ n) (h:∀ i,i < n→a.testBit i = b.testBit i):a = b :=
  Nat.eq_of_testBit_eq fun i=>by
    by_cases hi:i < n
    · exact h i hi
    · have:2 ^ n≤2 ^ i:=Nat.pow_le_pow_right (by decide) (by omega)
      rw [Nat.testBit_lt_two_pow (by omega),Nat.testBit_lt_two_pow (by omega)]
theorem bits_put {r:Row} {n i:Nat} (hi:i < n) (v:Bool):bits (put r i v) n = putBit (bits r n) i v:=by
  refine eq_bits (bits_lt _ _) (putBit_lt (bits_lt _ _) hi) fun j hj=>?_
  rw [bits_bit _ hj,putBit_bit,bits_bit _ hj]
  rfl
theorem bits_rowN {n b:Nat} (h:b < 2 ^ n):bits (rowN b) n = b:=eq_bits (bits_lt _ _) h fun i hi=>by rw [bits_bit _ hi]; rfl
theorem yes_bits {n:Nat} {rs:List Rm} (B:Bk n rs) {k:Nat} (hk:k < rs.length) (r:Row):yes rs k (rowN (bits r n)) = yes rs k r :=
  yes_congr B k k (Nat.le_refl _) hk fun i _ hi=>bits_bit r hi
theorem tab_inj {n N M:Nat} {f g:Nat→Bool} (h:IsTab n N f) (k:IsTab n M g) (e:∀ b,b < 2 ^ n→f b = g b):N = M :=
  Nat.eq_of_testBit_eq fun i=>by
    rw [h i,k i]
    by_cases hi:i < 2 ^ n
    · rw [e i hi]
    · rw [decide_eq_false hi]; rfl
theorem tab_val {n N:Nat} {f:Nat→Bool} (h:IsTab n N f) {b:Nat} (hb:b < 2 ^ n):N.testBit b = f b:=by rw [h b,decide_eq_true hb]; rfl
def Free (n:Nat) (f:Nat→Bool) (p:Nat):Prop:=∀ b,b < 2 ^ n→∀ v,f (putBit b p v) = f b
theorem putBit_self (b p:Nat):putBit b p (b.testBit p) = b:=by unfold putBit; rw [if_pos rfl]
theorem Free.of_flip {n p:Nat} {f:Nat→Bool} (h:∀ b,b < 2 ^ n→f (putBit b p (!b.testBit p)) = f b):Free n f p:=fun b hb v=>by
  by_cases e:v = b.testBit p
  · rw [e,putBit_self]
  · have:v = !b.testBit p:=by cases v <;> cases hh:b.testBit p <;> simp_all
    rw [this]; exact h b hb
theorem const_of_free {n:Nat} {f:Nat→Bool} (h:∀ p,p < n→Free n f p):∀ b,b < 2 ^ n→f b = f 0:=by
  have key:∀ m b,m≤n→b < 2 ^ n→(∀ i,m≤i→i < n→b.testBit i = false)→f b = f 0:=by
    intro m
    induction m with
    | zero =>
      intro b _ hb hz
      have:b = 0:=eq_bits hb (Nat.two_pow_pos n) fun i hi=>by rw [hz i (Nat.zero_le _) hi,Nat.zero_testBit]
      rw [this]
    | succ m ih =>
      intro b hm hb hz
      rw [← h m (by omega) b hb false]
      refine ih _ (by omega) (putBit_lt hb (by omega)) fun i hi hin=>?_
      rw [putBit_bit]
      by_cases e:i = m
      · rw [if_pos e]
      · rw [if_neg e]; exact hz i (by omega) hin
  exact fun b hb=>key n b (Nat.le_refl _) hb fun i hi hin=>by omega
theorem lev_gt {n:Nat} {rs:List Rm} (B:Bk n rs) {k p:Nat} (hk:k < rs.length) (hp:p < n) (h:∀ i,i≤p→∀ r v,yes rs k (put r i v) = yes rs k r):p < lev n rs k:=by
  by_cases k2:2≤k
  · obtain ⟨i,lo,hi,e,hin,hlo,hhi,hne,l1,l2⟩:=B.rm k k2 hk
    rw [lev_of B e]
    by_cases hip:i≤p
    · exfalso
      refine hne (one_room B (max lo hi) lo hi ⟨Nat.le_max_left _ _,Nat.le_max_right _ _⟩ (by omega) (by omega) fun r=>?_)
      have z:=yes_lo B e hk r
      rw [← z.1,← z.2,h i hip,h i hip]
    · omega
  · have:k = 0∨k = 1:=by omega
    rcases this with z | z <;> subst z
    · rw [lev_no B]; exact hp
    · rw [lev_yes B]; exact hp
theorem room_new {n m p k0 k1:Nat} {rs:List Rm} {f:Nat→Bool} (B:Bk n rs) (hp:p < n) (m0:k0 < rs.length) (m1:k1 < rs.length)
    (y0:∀ r,yes rs k0 r = f (putBit (bits r n) p false)) (y1:∀ r,yes rs k1 r = f (putBit (bits r n) p true)) (fr:∀ i,i < p→Free n f i)
    (dep:∃ b,b < 2 ^ n∧f (putBit b p false)≠f (putBit b p true)) (old:∀ j,j < m→¬ ∀ r,yes rs j r = f (bits r n)) (hl:∀ j,m≤j→j < rs.length→p < lev n rs j) :
    Bk n (rs ++ [some (p,k0,k1)])∧∀ r,yes (rs ++ [some (p,k0,k1)]) rs.length r = f (bits r n):=by
  have pb:∀ (r:Row) v,putBit (bits r n) p v < 2 ^ n:=fun r v=>putBit_lt (bits_lt _ _) hp
  have low:∀ (k:Nat) (w:Bool),k < rs.length→(∀ r,yes rs k r = f (putBit (bits r n) p w))→p < lev n rs k:=fun k w hk hy=>lev_gt B hk hp fun i hi r v=>by
    rw [hy,hy,bits_put (by omega)]
    by_cases e:i = p
    · subst e
      congr 1
      refine eq_bits (putBit_lt (putBit_lt (bits_lt _ _) hp) hp) (pb r w) fun j _=>?_
      rw [putBit_bit,putBit_bit,putBit_bit]
      by_cases e:j = i
      · rw [if_pos e,if_pos e]
      · rw [if_neg e,if_neg e,if_neg e]
    · rw [← fr i (by omega) _ (pb r w) v]
      congr 1
      refine eq_bits (putBit_lt (putBit_lt (bits_lt _ _) (by omega)) hp) (putBit_lt (pb r w) (by omega)) fun j _=>?_
      rw [putBit_bit,putBit_bit,putBit_bit,putBit_bit]
      by_cases e1:j = p
      · rw [if_pos e1,if_pos e1,if_neg (by omega)]
      · rw [if_neg e1,if_neg e1]
  have ne:k0≠k1:=fun e=>by
    subst e
    obtain ⟨b,hb,hne⟩:=dep
    refine hne ?_
    have a:=y0 (rowN b)
    have c:=y1 (rowN b)
    rw [bits_rowN hb] at a c
    exact a.symm.trans c
  have fin:∀ (R:List Rm) (k:Nat),Bk n R→R[k]? = some (some (p,k0,k1))→(∀ j,j < rs.length→∀ r,yes R j r = yes rs j r)→∀ r,yes R k r = f (bits r n):=fun R k BR e same r=>by
    rw [yes_step BR e,same _ m1,same _ m0,y0,y1]
    have hb:=bits_bit r hp
    cases hr:r p
    · rw [if_neg Bool.false_ne_true]
      rw [hr] at hb
      conv=>rhs; rw [← putBit_self (bits r n) p,hb]
    · rw [if_pos rfl]
      rw [hr] at hb
      conv=>rhs; rw [← putBit_self (bits r n) p,hb]
  have new:some (p,k0,k1) ∉ rs:=fun h=>by
    obtain ⟨j,hj,e⟩:=List.getElem_of_mem h
    have e':rs[j]? = some (some (p,k0,k1)):=by rw [List.getElem?_eq_getElem hj,e]
    by_cases hm:j < m
    · exact old j hm (fin rs j B e' fun _ _ _=>rfl)
    · have:=hl j (by omega) hj
      rw [lev_of B e'] at this
      omega
  have B':=B.snoc hp m0 m1 ne (low k0 false m0 y0) (low k1 true m1 y1) new
  refine ⟨B',fin _ _ B' (by simp) fun j hj r=>?_⟩
  exact yes_snoc B hj r
end Bdd
namespace Bdd
open Sen
structure Tabs (n:Nat) (rs:List Rm) (ts:List Nat):Prop where
  len:ts.length = rs.length
  tab:∀ (j t:Nat),ts[j]? = some t→IsTab n t (fun b=>yes rs j (rowN b))
theorem Tabs.snoc {n:Nat} {rs:List Rm} (B:Bk n rs) {ts:List Nat} {x:Rm} {t:Nat} (h:Tabs n rs ts) (k:IsTab n t (fun b=>yes (rs ++ [x]) rs.length (rowN b))):Tabs n (rs ++ [x]) (ts ++ [t]):=by
  refine ⟨by rw [List.length_append,List.length_append,h.len]; rfl,fun j u e=>?_⟩
  by_cases hj:j < ts.length
  · rw [List.getElem?_append_left hj] at e
    refine tab_congr (h.tab j u e) fun b _=>?_
    rw [yes_snoc B (by rw [← h.len]; exact hj)]
  · have lt:=(List.getElem?_eq_some_iff.mp e).1
    rw [List.length_append,List.length_singleton] at lt
    have ej:j = ts.length:=by omega
    subst ej
    simp at e
    subst e
    rw [h.len]
    exact k
theorem Tabs.find {n:Nat} {rs:List Rm} (B:Bk n rs) {ts:List Nat} (h:Tabs n rs ts) {j t:Nat} {f:Nat→Bool} (e:ts[j]? = some t) (tb:IsTab n t f) (r:Row):yes rs j r = f (bits r n):=by
  have hj:j < rs.length:=by rw [← h.len]; exact (List.getElem?_eq_some_iff.mp e).1
  rw [← yes_bits B hj,← tab_val tb (bits_lt r n),tab_val (h.tab j t e) (bits_lt r n)]
theorem Tabs.same {n:Nat} {rs:List Rm} {ts:List Nat} (h:Tabs n rs ts) {j t:Nat} {f:Nat→Bool} (hj:j < rs.length) (tb:IsTab n t f) (hy:∀ r,yes rs j r = f (bits r n)):ts[j]? = some t:=by
  have lt:j < ts.length:=by rw [h.len]; exact hj
  rw [List.getElem?_eq_getElem lt]
  congr 1
  refine tab_inj (h.tab j _ (List.getElem?_eq_getElem lt)) tb fun b hb=>?_
  show yes rs j (rowN b) = f b
  rw [hy,bits_rowN hb]
end Bdd
namespace Sen
open PySem L2 Bdd
structure Nums (ts:List Nat) (kvs:List (Key × V)):Prop where
  get:∀ (j t:Nat),ts[j]? = some t→valV kvs (Sum.inl (t:Int)) = some (.int (j:Nat))
  non:∀ t:Nat,t ∉ ts→valV kvs (Sum.inl (t:Int)) = none
  len:kvs.length≤ts.length
theorem Nums.snoc {ts:List Nat} {kvs:List (Key × V)} (h:Nums ts kvs) {t:Nat} (ht:t ∉ ts):Nums (ts ++ [t]) (putK kvs (Sum.inl (t:Int)) (.int (ts.length:Nat))):=by
  refine ⟨fun j u e=>?_,fun u hu=>?_,?_⟩
  · rw [valV_put]
    by_cases hj:j < ts.length
    · rw [List.getElem?_append_left hj] at e
      have hm:=List.mem_of_getElem? e
      rw [if_neg fun z=>?_]
      · exact h.get j u e
      · have:(u:Int) = (t:Int):=Sum.inl.inj z
        have:u = t:=by omega
        exact ht (this ▸ hm)
    · have lt:=(List.getElem?_eq_some_iff.mp e).1
      rw [List.length_append,List.length_singleton] at lt
      have ej:j = ts.length:=by omega
      subst ej
      simp at e
      subst e
      rw [if_pos rfl]
  · rw [valV_put,if_neg fun z=>?_]
    · exact h.non u fun z=>hu (List.mem_append_left _ z)
    · have:(u:Int) = (t:Int):=Sum.inl.inj z
      have:u = t:=by omega
      exact hu (this ▸ List.mem_append_right _ List.mem_cons_self)
  · have:=length_putK kvs (Sum.inl (t:Int)) (.int (ts.length:Nat))
    have:=h.len
    rw [List.length_append,List.length_singleton]
    omega
def roomT (n j:Nat):Rm→List V
  | none=>[.int (n:Nat),.int (j:Nat),.int (j:Nat)]
  | some (i,lo,hi)=>[.int (i:Nat),.int (lo:Nat),.int (hi:Nat)]
def roomGo (j:Nat) (x:Rm) (v:Bool):Nat:=match x with
  | none=>j
  | some (_,lo,hi)=>if v then hi else lo
def bookFs (ml rl tl nd:Addr):List (Str × V):=[("marks", .ref ml),("rooms", .ref rl),("tables", .ref tl),("numbers", .ref nd)]
structure Parts (C:Addr) (H:Hp) (b:Addr) (os:List Str) (rs:List Rm) (F:Foot) (dx ml rl tl nd:Addr) (rv:List V) (ts:List Nat) (kvs:List (Key × V)):Prop where
  hb:H b = some (.ins C dx (bookFs ml rl tl nd))
  hm:H ml = some (.lst (os.map V.str))
  hr:H rl = some (.lst rv)
  ht:H tl = some (.lst (ts.map fun t=>V.int (t:Nat)))
  hd:H nd = some (.dK kvs)
  mr:ml≠rl
  mt:ml≠tl
  rt:rl≠tl
  ord:IsOrd os
  bk:Bk os.length rs
  len:rv.length = rs.length
  rm:∀ (j:Nat) x,rs[j]? = some x→∃ p,rv[j]? = some (.ref p)∧H p = some (.tup (roomT os.length j x))
  tabs:Tabs os.length rs ts
  nums:Nums ts kvs
  ft:∀ x,F x↔(x = b∨x = ml∨x = rl∨x = tl∨x = nd)
def BookAt (C:Addr) (H:Hp) (b:Addr) (os:List Str) (rs:List Rm) (F:Foot):Prop:=∃ dx ml rl tl nd rv ts kvs,Parts C H b os rs F dx ml rl tl nd rv ts kvs
theorem Parts.frame {C:Addr} {H H':Hp} {b:Addr} {os:List Str} {rs:List Rm} {F:Foot} {dx ml rl tl nd:Addr} {rv:List V} {ts:List Nat} {kvs:List (Key × V)} (h:Parts C H b os rs F dx ml rl tl nd rv ts kvs)
    (s:∀ x o,H x = some o→F x→H' x = some o) (t:Tups H H'):Parts C H' b os rs F dx ml rl tl nd rv ts kvs :=
  { h with
    hb:=s _ _ h.hb ((h.ft _).mpr (.inl rfl))
    hm:=s _ _ h.hm ((h.ft _).mpr (.inr (.inl rfl)))
    hr:=s _ _ h.hr ((h.ft _).mpr (.inr (.inr (.inl rfl))))
    ht:=s _ _ h.ht ((h.ft _).mpr (.inr (.inr (.inr (.inl rfl)))))
    hd:=s _ _ h.hd ((h.ft _).mpr (.inr (.inr (.inr (.inr rfl)))))
    rm:=fun j x e=>let ⟨p,a,c⟩:=h.rm j x e; ⟨p,a,t _ _ c⟩ }
theorem bookLike (C:Addr):BookLike C (BookAt C) where
  ins:=fun ⟨dx,ml,rl,tl,nd,rv,ts,kvs,h⟩=>⟨dx,_,h.hb,fun m hm=>by
    simp only [bookMeths,List.mem_cons,List.not_mem_nil,or_false] at hm
    rcases hm with z | z | z | z | z | z <;> subst z <;> rfl⟩
  frame:=fun ⟨dx,ml,rl,tl,nd,rv,ts,kvs,h⟩ s t=>⟨dx,ml,rl,tl,nd,rv,ts,kvs,h.frame s t⟩
  there:=fun ⟨dx,ml,rl,tl,nd,rv,ts,kvs,h⟩ hx=>by
    rcases (h.ft _).mp hx with z | z | z | z | z <;> subst z
    · rw [h.hb]; exact fun z=>by cases z
    · rw [h.hm]; exact fun z=>by cases z
    · rw [h.hr]; exact fun z=>by cases z
    · rw [h.ht]; exact fun z=>by cases z
    · rw [h.hd]; exact fun z=>by cases z
  bk:=fun ⟨_,_,_,_,_,_,_,_,h⟩=>h.bk
  ord:=fun ⟨_,_,_,_,_,_,_,_,h⟩=>h.ord
theorem Parts.more {C:Addr} {H H':Hp} {b:Addr} {os:List Str} {rs:List Rm} {F:Foot} {dx ml rl tl nd:Addr} {rv:List V} {ts:List Nat} {kvs:List (Key × V)} (h:Parts C H b os rs F dx ml rl tl nd rv ts kvs)
    {i lo hi t:Nat} {q:Addr} (t':Tups H H') (hb:H' b = H b) (hm:H' ml = H ml) (hr:H' rl = some (.lst (rv ++ [.ref q]))) (ht:H' tl = some (.lst (ts.map (fun t=>V.int (t:Nat)) ++ [.int (t:Nat)])))
    (hd:H' nd = some (.dK (putK kvs (Sum.inl (t:Int)) (.int (rs.length:Nat))))) (hq:H' q = some (.tup [.int (i:Nat),.int (lo:Nat),.int (hi:Nat)])) (B':Bk os.length (rs ++ [some (i,lo,hi)])) (hn:t ∉ ts) (tb:IsTab os.length t (fun b=>yes (rs ++ [some (i,lo,hi)]) rs.length (rowN b))) :
    Parts C H' b os (rs ++ [some (i,lo,hi)]) F dx ml rl tl nd (rv ++ [.ref q]) (ts ++ [t]) (putK kvs (Sum.inl (t:Int)) (.int (rs.length:Nat))) :=
  { hb:=by rw [hb]; exact h.hb
    hm:=by rw [hm]; exact h.hm
    hr:=hr
    ht:=by rw [ht,List.map_append]; rfl
    hd:=hd
    mr:=h.mr
    mt:=h.mt
    rt:=h.rt
    ord:=h.ord
    bk:=B'
    len:=by rw [List.length_append,List.length_append,h.len]; rfl
    rm:=fun j x e=>by
      by_cases hj:j < rs.length
      · rw [List.getElem?_append_left hj] at e
        obtain ⟨p,a,c⟩:=h.rm j x e
        exact ⟨p,by rw [List.getElem?_append_left (by rw [h.len]; exact hj)]; exact a,t' _ _ c⟩
      · have lt:=(List.getElem?_eq_some_iff.mp e).1
        rw [List.length_append,List.length_singleton] at lt
        have ej:j = rs.length:=by omega
        subst ej
        simp at e
        subst e
        exact ⟨q,by rw [← h.len]; simp,hq⟩
    tabs:=h.tabs.snoc h.bk tb
    nums:=by
      have z:=h.nums.snoc hn
      rw [h.tabs.len] at z
      exact z
    ft:=h.ft }
def spHeldAt:Sp:=fun vs H Q _=>∃ (N p n:Nat) (v:Bool) (f:Nat→Bool),vs = [.int N,.int p,.int (v.toNat:Nat),.int n]∧p < n∧n≤8∧IsTab n N f∧∀ R:Nat,IsTab n R (fun b=>f (putBit b p v))→Q (.int R) H
def spFirst:Sp:=fun vs H Q _=>∃ (N n:Nat) (f:Nat→Bool),vs = [.int N,.int n]∧n≤8∧IsTab n N f∧∀ p:Nat,p≤n→(∀ i,i < p→Free n f i)→(p < n→∃ b,b < 2 ^ n∧f (putBit b p false)≠f (putBit b p true))→Q (.int p) H
def spMustRoom (C:Addr):Sp:=fun vs H Q _=>∃ (b:Addr) (os:List Str) (rs:List Rm) (F:Foot) (k:Nat),vs = [.ref b,.int k]∧BookAt C H b os rs F∧k < rs.length∧Q .non H
def spPlaceOf (C:Addr):Sp:=fun vs H Q _=>∃ (b:Addr) (os:List Str) (rs:List Rm) (F:Foot) (k:Nat),vs = [.ref b,.int k]∧BookAt C H b os rs F∧k < rs.length∧Q (.int (lev os.length rs k:Nat)) H
def spGoing (C:Addr):Sp:=fun vs H Q _=>∃ (b:Addr) (os:List Str) (rs:List Rm) (F:Foot) (k:Nat) (x:Rm) (v:Bool),vs = [.ref b,.int k,.int (v.toNat:Nat)]∧BookAt C H b os rs F∧rs[k]? = some x∧Q (.int (roomGo k x v:Nat)) H
def spTableAt (C:Addr):Sp:=fun vs H Q _=>∃ (b:Addr) (os:List Str) (rs:List Rm) (F:Foot) (k:Nat),vs = [.ref b,.int k]∧BookAt C H b os rs F∧k < rs.length∧∀ t:Nat,IsTab os.length t (fun b=>yes rs k (rowN b))→Q (.int t) H
def spHangs:Sp:=fun vs H Q _=>∃ (N p n:Nat) (f:Nat→Bool),vs = [.int N,.int p,.int n]∧p < n∧n≤8∧IsTab n N f∧∀ b:Bool,(b = false→Free n f p)→(b = true→∃ c,c < 2 ^ n∧f (putBit c p false)≠f (putBit c p true))→Q (.bl b) H
def spWithout:Sp:=fun vs H Q _=>∃ (N M n:Nat) (f g:Nat→Bool),vs = [.int N,.int M]∧IsTab n N f∧IsTab n M g∧∀ R:Nat,IsTab n R (fun b=>f b && !g b)→Q (.int R) H
def spChosen:Sp:=fun vs H Q _=>∃ (W L M n:Nat) (f g h:Nat→Bool),vs = [.int W,.int L,.int M]∧IsTab n W f∧IsTab n L g∧IsTab n M h∧∀ R:Nat,IsTab n R (fun b=>if f b then h b else g b)→Q (.int R) H
end Sen
namespace L2
open PySem PySem.Spec PyProof.Rows
section
variable {X:Cx} {tg:Expr}
end
section
variable {x:Str} {σ:St} {js:List Nat} {te:TE} {H:Hp} {Qf:Addr→Hp→List V→Prop}
end
end L2
namespace Bdd
end Bdd
namespace Sen
open PySem L2 Bdd
theorem yes_at {n:Nat} {rs:List Rm} (B:Bk n rs) {k:Nat} {f:Row→Bool} (h:Means rs k f) (r:Row):yes rs k (rowN (bits r n)) = f r:=(yes_bits B h.1 r).trans (h.2 r)
end Sen
namespace Bdd
open Sen
def allR:Nat→List (List Bool)
  | 0=>[[]]
  | n + 1=>(allR n).flatMap fun r=>[r ++ [false],r ++ [true]]
def rowL (r:List Bool):Row:=fun i=>r.getD i false
theorem allR_len:∀ (n:Nat) (r:List Bool),r∈allR n→r.length = n
  | 0,r,h=>by
    have:r = []:=by simpa [allR] using h
    rw [this]; rfl
  | n + 1,r,h=>by
    obtain ⟨x,hx,hr⟩:=List.mem_flatMap.mp h
    have ih:=allR_len n x hx
    simp at hr
    rcases hr with z | z <;> rw [z,List.length_append,ih] <;> rfl
theorem flat2_len {α β:Type} (f:α→List β) (h:∀ a,(f a).length = 2):∀ l:List α,(l.flatMap f).length = 2 * l.length
  | []=>rfl
  | a :: l=>by rw [List.flatMap_cons,List.length_append,h a,flat2_len f h l,List.length_cons]; omega
theorem allR_size:∀ n,(allR n).length = 2 ^ n
  | 0=>rfl
  | n + 1=>by
    show ((allR n).flatMap _).length = _
    rw [flat2_len _ (fun _=>rfl),allR_size n,Nat.pow_succ]; omega
section
variable {n:Nat} {rs:List Rm} (B:Bk n rs)
include B
end
end Bdd
namespace L2
open PySem PySem.Spec PyProof.Rows
section
variable {X:Cx} {sc osc:Scope} {xs:List Str} {js:List Nat} {tg:Expr} {g:TG} {elt iter:Expr} {px pos:Pos} {ifs:List Expr} {wi:TI} {tt:TT} {te:TE}
end
end L2
namespace L2
open PySem PySem.Spec PyProof.Rows
section
variable {X:Cx}
end
section
variable {X:Cx}
def rAddL (K:PySem.W.Frag):R2:=fun x y H Q=>∃ p q xs ys,x = .ref p∧y = .ref q∧SqL K H p xs∧SqL K H q ys∧xs.length + ys.length≤sizeLine∧∀ l,H l = none→Q (.ref l) (upd H l (.lst (xs ++ ys)))
theorem op_addL:OpR X (binaryOp .Add) (rAddL X.K):=by
  intro pins s σ H x y v u Q I rx ry h
  obtain ⟨p,q,xs,ys,rfl,rfl,hp,hq,hz,h⟩:=h
  cases rx
  cases ry
  obtain ⟨its1,rv1,pl1,hz1⟩:=I.list hp
  obtain ⟨its2,rv2,pl2,hz2⟩:=I.list hq
  obtain ⟨⟨cls,dd,data,sl⟩,ho,hc,n,hd⟩:=id pl1.isList
  obtain ⟨⟨cls2,dd2,data2,sl2⟩,ho2,hc2,n2,hd2⟩:=id pl2.isList
  simp only at hc hd hc2 hd2
  subst hc hd hc2 hd2
  have l1:=rv1.length
  have l2:=rv2.length
  have e:its1.toArray ++ its2.toArray = (its1 ++ its2).toArray:=by simp
  refine concat_meets ⟨_,ho,rfl⟩ ⟨_,ho2,rfl⟩ noFill_list_add seq_list_add PySem.F.slot_list_add PySem.F.entry_list_add (PySem.F.args_list_add_2 _ _) (list_addW p q its1.toArray its2.toArray n n2 dd dd2 sl sl2 (by simp; omega)) ⟨ho,ho2,?_⟩
  rw [e]
  refine ⟨.ref s.heap.objs.size,_,I.laid (t':=s.toks) (o:=.lst (xs ++ ys)) (fun b o e=>Heap.get?_push_of_some _ e) (Nat.le_refl _) ?_,rfl,h _ (I.hok.fresh (Nat.le_refl _))⟩
  exact ⟨by rw [List.length_append]; exact hz,its1 ++ its2,0,rv1.append rv2,Heap.get?_push_size _ rfl⟩
end
end L2
namespace L2
open PySem
section
variable {K:PySem.W.Frag} {a:Addr} {xs:List V} {σ:St} {js:List Nat} {te:TE} {H:Hp} {Qf:Addr→Hp→List V→Prop}
end
section
variable {X:Cx} {K:PySem.W.Frag}
end
end L2
namespace Bdd
end Bdd
namespace Sen
open PySem L2 Bdd
def RowF (H0 H:Hp) (p:Addr) (r:List Bool):Prop:=H0 p = none∧H p = some (.lst (rowV r))
end Sen
namespace Sen
open PySem L2 Bdd
end Sen
namespace Bdd
end Bdd
namespace L2
open PySem
end L2
namespace L2
open PySem PySem.Spec PyProof.Rows
end L2
namespace L2
open PySem PySem.Spec PyProof.Rows
section
variable {X:Cx} {K:PySem.W.Frag}
end
end L2
namespace Sen
open PySem L2 Bdd
def cellF (ns:List Int) (i:Nat):Int:=(ns[i]?).getD 0
def spCellF (K:PySem.W.Frag):Sp:=fun vs H Q _=>∃ (l:Addr) (ns:List Int) (i:Nat),vs = [.ref l,.int i]∧SqL K H l (ns.map V.int)∧Q (.int (cellF ns i)) H
end Sen
namespace Bdd
end Bdd
namespace Bdd
end Bdd
namespace Sen
open PySem L2 Bdd
end Sen
namespace L2
end L2
namespace L2
open PySem PySem.Spec PyProof.Rows
section
variable {prog:Program} {w:World} {A:Around} {E:Value→Shared→Prop}
end
section
variable {X:Cx}
end
end L2
namespace Bdd
end Bdd
namespace Sen
open PySem L2 Bdd
theorem Sn.count_depth:∀ s:Sn,s.count + 1≤2 ^ s.depth:=by
  have key:∀ (d:Nat) (s:Sn),s.depth≤d→s.count + 1≤2 ^ d:=by
    intro d
    induction d with
    | zero=>intro s h; have:=Sn.depth_pos s; omega
    | succ d ih =>
      intro s h
      have hp:=Sn.count_parts s
      have hl:=Sn.parts_le s
      have hd:=Sn.depth_parts s
      have hc:∀ t∈s.parts,t.count + 1≤2 ^ d:=fun t ht=>ih t (by have:=hd t ht; omega)
      have p1:1≤2 ^ d:=Nat.one_le_two_pow
      rw [Nat.pow_succ,hp]
      match hs:s.parts,hl with
      | [],_=>simp; omega
      | [a],_ =>
        have:=hc a (by rw [hs]; simp)
        simp; omega
      | [a,b],_ =>
        have h1:=hc a (by rw [hs]; simp)
        have h2:=hc b (by rw [hs]; simp)
        simp; omega
      | a :: b :: c :: r,h=>simp at h
  exact fun s=>key _ s (Nat.le_refl _)
end Sen
namespace Bdd
open Sen
end Bdd
namespace Sen
open PySem L2 Bdd
end Sen
namespace Sen
open PySem L2 Bdd
end Sen
namespace L2
open PySem
end L2
namespace Sen
open PySem L2 Bdd
end Sen
namespace Sen
open PySem L2 Bdd
def RowN (x:Addr) (H0 H:Hp) (p:Addr) (r:List Bool):Prop:=H0 p = none∧p≠x∧H p = some (.lst (rowV r))
theorem rowsN_mono {x:Addr} {H0 H H':Hp} {ps:List Addr} {es:List (List Bool)} (h:Paired (RowN x H0 H) ps es) (g:Same H H'):Paired (RowN x H0 H') ps es:=pd_imp (fun _ _ r=>⟨r.1,r.2.1,g _ _ r.2.2⟩) h
theorem rowsN_upd {x:Addr} {H0 H:Hp} {ps:List Addr} {es:List (List Bool)} {o:HO} (h:Paired (RowN x H0 H) ps es):Paired (RowN x H0 (upd H x o)) ps es:=pd_imp (fun _ _ r=>⟨r.1,r.2.1,by rw [upd_ne r.2.1]; exact r.2.2⟩) h
def spLawRows:Sp:=fun vs H Q _=>∃ n:Nat,vs = [.int n]∧n≤8∧∀ (l:Addr) (H':Hp) (ps:List Addr),Same H H'→H l = none→H' l = some (.lst (ps.map V.ref))→Paired (RowF H H') ps (allR n)→Q (.ref l) H'
end Sen
namespace Sen
open PySem L2 Bdd
end Sen
namespace L2
open PySem PySem.Spec PyProof.Rows
section
variable {X:Cx} {sc osc:Scope} {x:Str} {js:List Nat}
end
section
variable {X:Cx} {sc osc:Scope} {x:Str} {js:List Nat} {elt iter:Expr} {px pos:Pos} {ifs:List Expr} {wi:TI} {tt:TT} {te:TE}
end
end L2
namespace PySem.SeqAt
open AutoSeq1 (wpAny_loadPart')
open MeetsSeq MeetsSeq2 MeetsSeq3 SeqRoads2
section
variable {A:Around} {s:Shared}
end
end PySem.SeqAt
namespace L2
open PySem PySem.Spec PyProof.Rows
section
variable {X:Cx} {pins:List (Addr × Obj)} {σ:St} {H:Hp} {s:Shared}
end
namespace L2
open PySem PySem.Spec PyProof.Rows
end L2
section
variable {prog:Program} {w:World} {A:Around} {R:Result→Shared→Prop} {I:Addr} {fp wr:List Addr} {n:Nat} {V:Nat→Value→Prop} {St:Nat→Heap→Prop} {G:Shared→Prop} {kw:List (Str × Value)}
end
section
variable {X:Cx} {pins:List (Addr × Obj)} {σ:St} {H:Hp} {s:Shared}
end
end L2
namespace L2
open PySem PySem.Spec PyProof.Rows
section
variable {X:Cx} {pins:List (Addr × Obj)} {σ:St} {H:Hp} {s:Shared}
end
section
variable {X:Cx} {x:Str} {p pos kpos:Pos} {e d:Expr} {t:TA} {td:TE}
end
end L2
namespace Bdd
open PySem
end Bdd
namespace Sen
open PySem L2 Bdd
end Sen
namespace L2
open PySem
end L2
namespace Sen
open PySem L2 Bdd
end Sen
namespace L2
open PySem PySem.Spec PyProof.Rows
section
variable {X:Cx}
theorem vals_of_get:∀ {xs:List V} {us:List Value},xs.length = us.length→(∀ (i:Nat) x u,xs[i]? = some x→us[i]? = some u→RelV x u)→Vals xs us
  | [],[],_,_=>.nil
  | [],_ :: _,h,_=>by cases h
  | _ :: _,[],h,_=>by cases h
  | x :: xs,u :: us,h,r=>.cons (r 0 x u rfl rfl) (vals_of_get (Nat.succ.inj h) fun i x u hx hu=>r (i + 1) x u hx hu)
def natsV (n:Nat):List V:=(List.range n).map fun i=>V.int (i:Nat)
def tLR (ta:TA):TE:=fun σ H Q=>ta σ H fun vs H1=>∃ n:Nat,vs = [.int (n:Nat)]∧n≤1000000∧∀ l,H1 l = none→Q (.ref l) (upd H1 l (.lst (natsV n)))
theorem pe_listRange {e:Expr} {ta:TA} {p p2 pos pos2:Pos} (hc:X.calm = true) (hg:Gl X "list") (hm:X.mg "list" = none) (hg2:Gl X "range") (hm2:X.mg "range" = none) (ha:PA X [e] ta)
    (hs:starEach [e] X.env = [(false,eval e X.env)]:=by rfl)
    (hs2:starEach [.Call (.Name "range" p2) [e] [] pos2] X.env = [(false,eval (.Call (.Name "range" p2) [e] [] pos2) X.env)]:=by rfl) :
    PE X (.Call (.Name "list" p) [.Call (.Name "range" p2) [e] [] pos2] [] pos) (tLR ta):=by
  intro pins s σ H Q I h
  refine wpAny_Call_Name_kw (ld_blt I hg hm bt_list ?_ (by decide) (by decide))
  refine PyProof.Rows.callWith_type1 ?_ hs2 rfl
  rw [hs2]
  show wpAny _ _ (spliced ((false,eval (.Call (.Name "range" p2) [e] [] pos2) X.env) :: [])) _ _ s
  refine Calls.spliced_cons ?_
  refine Call_ (ld_blt I hg2 hm2 boot_range (PyProof.Rows.callWith_type1 (thn (ha pos2 pins s σ H _ I h) fun us s1 ⟨vs,H1,I1,r1,q1⟩=>?_) hs rfl))
  obtain ⟨n,e1,hn,q⟩:=q1
  subst e1
  obtain ⟨u,rfl,ru⟩:=vals1 r1
  obtain ⟨t,rfl⟩:=ru
  refine call_range_1 (Calls.spliced_nil ?_)
  refine call_list_range (n:=n) (I1.ok.hd hc) (IsRange.new ..) (small_one (by omega) (by omega) (by omega) (by omega)) (by rw [rangeSize_one]; split <;> omega) (by omega) fun h' tk acc' c' kp e0 ac=>?_
  have I2:=I1.kept (t':=s1.toks + 1 + 1) (h':=s1.heap.push { cls:=.type "range", data:=.fields #[.int 0 s1.toks,.int n t,.int 1 (s1.toks + 1)] }) fun b o e=>Heap.get?_push_of_some _ e
  have hl:acc'.size = n:=ac.1
  have rv:Vals (natsV n) acc'.toList:=by
    refine vals_of_get (by simp [natsV,hl]) fun i x u hx hu=>?_
    have hi:i < n:=by
      have:=(List.getElem?_eq_some_iff.mp hx).1
      simpa [natsV] using this
    unfold natsV at hx
    rw [List.getElem?_map,List.getElem?_range hi] at hx
    cases hx
    obtain ⟨t',rfl⟩:=ac.2 i u (by simpa using hu)
    exact ⟨t',by simp⟩
  exact ⟨.ref _,_,I2.laid (t':=tk) (o:=.lst (natsV n)) kp (Nat.le_refl _) ⟨by unfold natsV; rw [List.length_map,List.length_range]; exact Nat.le_trans hn (by decide),acc'.toList,c',rv,by simpa using e0⟩,rfl,q _ (I2.hok.fresh (Nat.le_refl _))⟩
end
end L2
namespace Bdd
open Sen
end Bdd
namespace Sen
open PySem L2 Bdd
section
variable (C:Addr) (K:PySem.W.Frag)
end
end Sen
namespace L2
open PySem PySem.Spec PyProof.Rows
theorem strsAre_of:∀ {ss:List Str} {its:List Value},Vals (ss.map V.str) its→StrsAre its ss
  | [],_,.nil=>.nil
  | x :: ss,_,.cons r t=>by
    obtain ⟨k,rfl⟩:=r
    exact .cons x k (strsAre_of t)
theorem vals_strs:∀ {ss:List Str} {its:List Value},StrsAre its ss→Vals (ss.map V.str) its
  | _,_,.nil=>.nil
  | _,_,.cons x t h=>.cons ⟨t,rfl⟩ (vals_strs h)
section
variable {X:Cx}
theorem call_sorted_strs {K:PySem.W.Frag} (hK:X.K = K):CallR X (.builtin "sorted") (fun xs H Q=>∃ (p:Addr) (ss:List Str),xs = [.ref p]∧SqL K H p (ss.map V.str)∧ss.length < 64∧∀ (l:Addr) (ms:List Str),H l = none→ms.Perm ss→sortedS ms = true→Q (.ref l) (upd H l (.lst (ms.map V.str)))):=by
  subst hK
  intro pins s σ H xs us Q I r h
  obtain ⟨p,ss,rfl,hq,h64,q⟩:=h
  obtain ⟨u,rfl,rx⟩:=vals1 r
  cases rx
  obtain ⟨its,r',pl,hz⟩:=I.list hq
  have hi:StrsAre its ss:=strsAre_of r'
  have hl:=r'.length
  rw [List.length_map] at hl
  refine sorted_strs pl.isList hi (by omega) fun out ms a1 a2 a3=>?_
  obtain ⟨e,he⟩:=sortedAll_at s.heap its out
  have hf:H (s.heap.objs.size + 1) = none:=I.hok.fresh (Nat.le_succ _)
  have hlm:=a2.length_eq
  have s64:=small1000 (n:=ms.length) (by omega)
  refine ⟨.ref (s.heap.objs.size + 1),_,I.laid (t':=s.toks) (o:=.lst (ms.map V.str)) (fun b o e=>sortedAll_old e) (Nat.le_succ _) ?_,rfl,q _ ms hf a2 a3⟩
  refine ⟨by rw [List.length_map]; exact Nat.le_of_lt s64,out.toList,e,vals_strs a1,?_⟩
  simpa using he
def tLV (to:TE):TE:=fun σ H Q=>to σ H fun x H1=>∃ (d:Addr) (kvs:List (Key × V)),x = .ref d∧H1 d = some (.dK kvs)∧∀ l,H1 l = none→Q (.ref l) (upd H1 l (.lst (kvs.map (·.2))))
theorem pe_listVals {o:Expr} {to:TE} {p apos cpos pos:Pos} (hc:X.calm = true) (hg:Gl X "list") (hm:X.mg "list" = none) (ho:PE X o to)
    (hbase:attributeBase o "values" X.env (eval o X.env) = eval o X.env:=by rfl) (hline:(apos.endLine == cpos.line) = true:=by rfl)
    (hs2:starEach [.Call (.Attribute o "values" apos) [] [] cpos] X.env = [(false,eval (.Call (.Attribute o "values" apos) [] [] cpos) X.env)]:=by rfl) :
    PE X (.Call (.Name "list" p) [.Call (.Attribute o "values" apos) [] [] cpos] [] pos) (tLV to):=by
  intro pins s σ H Q I h
  refine wpAny_Call_Name_kw (ld_blt I hg hm bt_list ?_ (by decide) (by decide))
  refine PyProof.Rows.callWith_type1 ?_ hs2 rfl
  rw [hs2]
  show wpAny _ _ (spliced ((false,eval (.Call (.Attribute o "values" apos) [] [] cpos) X.env) :: [])) _ _ s
  refine Calls.spliced_cons ?_
  refine wpAny_Call_method0_late hbase hline (thn (ho pins s σ H _ I h) fun v s1 ⟨x,H1,I1,r1,q1⟩=>?_)
  obtain ⟨d,kvs,rfl,hd,q⟩:=q1
  obtain ⟨h1,h2⟩:=tyV_is (T := "dict") I1 r1 (.inr (.inr (.inl ⟨rfl,.inl ⟨kvs,hd⟩⟩)))
  cases r1
  obtain ⟨hz,lo,vs,rv,hD⟩:=(show kvs.length≤sizeLine∧(d == sysModules) = false∧∃ vs,KV kvs vs∧s1.heap.DictOf (mixKind X.prog X.w) d vs from I1.hok d _ hd)
  obtain ⟨ep,hat⟩:=hD.dictAt
  have hl:kvs.length = vs.length:=Paired.length rv
  refine ⟨"dict", "dict.values", PySem.F.plainAttrs_dict,PySem.F.slot_dict_values,PySem.F.type_dict_values,h1,h2,Calls.callWith_builtin rfl (PySem.evalArgs_none ?_)⟩
  refine call_meetsIn PySem.F.slot_dict_values hD.typeIs PySem.F.entry_dict_values (PySem.F.args_dict_values_1 _) (meets_dict_values (mixKind X.prog X.w) d lo) ⟨⟨vs,hD⟩,Calls.spliced_nil ?_⟩
  have I2:=I1.kept (t':=s1.toks) (h':=s1.heap.push { cls:=.type "dict_values", data:=.fields #[.ref d] }) fun b o e=>Heap.get?_push_of_some _ e
  obtain ⟨hz2,lo2,vs2,rv2,hD2⟩:=(show kvs.length≤sizeLine∧(d == sysModules) = false∧∃ vs,KV kvs vs∧(s1.heap.push { cls:=.type "dict_values", data:=.fields #[.ref d] }).DictOf (mixKind X.prog X.w) d vs from I2.hok d _ hd)
  obtain ⟨ep2,hat2⟩:=hD2.dictAt
  have hl2:kvs.length = vs2.length:=Paired.length rv2
  refine PySem.W.kdl_call (PySem.W.kdl_values (knd:=mixKind X.prog X.w) (r:=s1.heap.objs.size) (d:=d) (kvs:=vs2) (ep:=ep2)) (I1.ok.hd hc) ⟨⟨_,Heap.get?_push_size _ rfl,rfl,rfl⟩,hat2⟩ (by omega) fun h' tk acc c hk hS hacc=>?_
  refine ⟨.ref _,_,I2.laid (t':=tk) (o:=.lst (kvs.map (·.2))) hk (Nat.le_refl _) ?_,rfl,q _ (I2.hok.fresh (Nat.le_refl _))⟩
  refine ⟨by rw [List.length_map]; exact hz,acc.toList,c,?_,by simpa using hS⟩
  refine vals_get (by rw [List.length_map]; have:=hacc.1; simp; omega) fun j v hv=>?_
  obtain ⟨k,hx⟩:=hacc.2 j v (by rw [← Array.getElem?_toList]; exact hv)
  obtain ⟨y,hy,e1,e2⟩:=pd_ta rv2 hx
  exact ⟨y.2,by rw [List.getElem?_map,hy]; rfl,e2⟩
end
end L2
namespace Sen
open PySem L2 Bdd PyProof.Rows
theorem lett_lt:∀ x∈letts,∀ y∈letts,Spec.ltCps x.cps.toList y.cps.toList = decide (ix letts x < ix letts y):=by decide +kernel
theorem lett_inj:∀ x∈letts,∀ y∈letts,ix letts x = ix letts y→x = y:=by decide +kernel
theorem rising_le:∀ {l:List Str} {p:Str},p∈letts→(∀ x∈l,x∈letts)→risingS p l = true→∀ x∈l,ix letts p≤ix letts x
  | [],p,_,_,_,x,hx=>by cases hx
  | y :: l,p,hp,hl,h,x,hx=>by
    have hy:=hl y List.mem_cons_self
    have h':(!Spec.ltCps y.cps.toList p.cps.toList && risingS y l) = true:=h
    rw [Bool.and_eq_true,lett_lt y hy p hp] at h'
    have h1:ix letts p≤ix letts y:=by
      have:=h'.1
      simp at this
      omega
    rcases List.mem_cons.mp hx with e | hx
    · rw [e]; exact h1
    · have:=rising_le hy (fun z hz=>hl z (List.mem_cons_of_mem _ hz)) h'.2 x hx
      omega
theorem sorted_tail {x:Str} {l:List Str} (h:sortedS (x :: l) = true):sortedS l = true:=by
  cases l with
  | nil=>rfl
  | cons y l =>
    have h':(!Spec.ltCps y.cps.toList x.cps.toList && risingS y l) = true:=h
    exact (Bool.and_eq_true _ _ ▸ h').2
theorem sorted_eq:∀ {a b:List Str},(∀ x∈a,x∈letts)→a.Perm b→sortedS a = true→sortedS b = true→a = b
  | [],b,_,h,_,_=>(List.nil_perm.mp h).symm
  | x :: a,[],_,h,_,_=>by cases (List.perm_nil.mp h)
  | x :: a,y :: b,hl,h,s1,s2=>by
    have hlb:∀ z∈y :: b,z∈letts:=fun z hz=>hl z (h.mem_iff.mpr hz)
    have hx:=hl x List.mem_cons_self
    have hy:=hlb y List.mem_cons_self
    have le1:∀ z∈x :: a,ix letts x≤ix letts z:=fun z hz=>by
      rcases List.mem_cons.mp hz with e | hz
      · rw [e]; exact Nat.le_refl _
      · exact rising_le hx (fun z hz=>hl z (List.mem_cons_of_mem _ hz)) s1 z hz
    have le2:∀ z∈y :: b,ix letts y≤ix letts z:=fun z hz=>by
      rcases List.mem_cons.mp hz with e | hz
      · rw [e]; exact Nat.le_refl _
      · exact rising_le hy (fun z hz=>hlb z (List.mem_cons_of_mem _ hz)) s2 z hz
    have e:x = y:=lett_inj x hx y hy (Nat.le_antisymm (le1 y (h.mem_iff.mpr List.mem_cons_self)) (le2 x (h.mem_iff.mp List.mem_cons_self)))
    subst e
    rw [sorted_eq (fun z hz=>hl z (List.mem_cons_of_mem _ hz)) h.cons_inv (sorted_tail s1) (sorted_tail s2)]
def trn (os ps:List Str) (r:Row):Row:=fun i=>r (ix ps (os.getD i ⟨#[]⟩))
theorem env_trn {os ps:List Str} (r:Row) {x:Str} (hx:x∈os):envR os (trn os ps r) x = envR ps r x:=by
  obtain ⟨_,_,h⟩:=ix_spec hx
  show r (ix ps (os.getD (ix os x) ⟨#[]⟩)) = r (ix ps x)
  rw [List.getD_eq_getElem?_getD,h]
  rfl
structure Marks (os ps:List Str):Prop where
  mem:∀ x,x∈os↔x∈ps
  len:os.length = ps.length
theorem Marks.perm {os ps:List Str} (h:Marks os ps) (n1:os.Nodup) (n2:ps.Nodup):os.Perm ps:=(List.perm_ext_iff_of_nodup n1 n2).mpr h.mem
section
variable (C:Addr) (K:PySem.W.Frag)
def Rises (rs:List Rm) (ks:List Nat):Prop:=ks.Nodup∧∀ (i k:Nat),ks[i]? = some k→k < rs.length∧∀ p lo hi,rs[k]? = some (some (p,lo,hi))→lo∈ks.take i∧hi∈ks.take i
end
theorem bk_none {n:Nat} {rs:List Rm} (B:Bk n rs) {k:Nat} (h:rs[k]? = some none):k = 0∨k = 1:=by
  have lt:=(List.getElem?_eq_some_iff.mp h).1
  by_cases k2:2≤k
  · obtain ⟨i,lo,hi,e,_⟩:=B.rm k k2 lt
    rw [e] at h
    cases h
  · omega
theorem rises_range {n:Nat} {rs:List Rm} (B:Bk n rs):Rises rs (List.range rs.length):=by
  refine ⟨List.nodup_range,fun i k h=>?_⟩
  have hi:i < rs.length:=by
    have:=(List.getElem?_eq_some_iff.mp h).1
    rw [List.length_range] at this
    exact this
  rw [List.getElem?_range hi] at h
  cases h
  refine ⟨hi,fun p lo hi' e=>?_⟩
  have k2:2≤i:=by
    refine Nat.le_of_not_lt fun h2=>?_
    have:i = 0∨i = 1:=by omega
    rcases this with z | z <;> subst z
    · rw [B.h0] at e; cases e
    · rw [B.h1] at e; cases e
  obtain ⟨p',lo',hi'',e',_,h1,h2,_⟩:=B.rm i k2 hi
  rw [e] at e'
  cases e'
  have tk:(List.range rs.length).take i = List.range i:=by rw [List.take_range,Nat.min_eq_left (by omega)]
  rw [tk]
  exact ⟨List.mem_range.mpr h1,List.mem_range.mpr h2⟩
structure KsJs (ks js:List Nat) (kvs:List (Key × V)):Prop where
  eq:kvs = (ks.zip js).map fun e=>((Sum.inl (e.1:Int):Key),V.int (e.2:Nat))
  nd:ks.Nodup
  ln:kvs.length = ks.length
theorem KsJs.nil:KsJs [] [] []:=⟨rfl,List.nodup_nil,rfl⟩
theorem KsJs.len {ks js:List Nat} {kvs:List (Key × V)} (h:KsJs ks js kvs):kvs.length = ks.length:=h.ln
theorem KsJs.vals {ks js:List Nat} {kvs:List (Key × V)} (h:KsJs ks js kvs) (hl:js.length = ks.length):kvs.map (·.2) = js.map fun j=>V.int (j:Nat):=by
  rw [h.eq,List.map_map]
  have e:(ks.zip js).map (·.2) = js:=List.map_snd_zip (by omega)
  conv=>rhs; rw [← e]
  rw [List.map_map]
  rfl
theorem valV_zip:∀ {ks js:List Nat} {m k j:Nat},ks.Nodup→ks[m]? = some k→js[m]? = some j→valV ((ks.zip js).map fun e=>((Sum.inl (e.1:Int):Key),V.int (e.2:Nat))) (Sum.inl (k:Int)) = some (.int (j:Nat))
  | [],_,m,_,_,_,h,_=>by cases h
  | _ :: _,[],m,_,_,_,_,h=>by cases h
  | k0 :: ks,j0 :: js,0,k,j,_,hk,hj=>by
    cases hk
    cases hj
    rw [List.zip_cons_cons,List.map_cons]
    exact valV_pos rfl
  | k0 :: ks,j0 :: js,m + 1,k,j,nd,hk,hj=>by
    rw [List.nodup_cons] at nd
    have hk':ks[m]? = some k:=hk
    rw [List.zip_cons_cons,List.map_cons,valV_neg]
    · exact valV_zip nd.2 hk' hj
    · intro e
      have e':(k0:Int) = (k:Int):=Sum.inl.inj e
      have:k0 = k:=by omega
      exact nd.1 (this ▸ List.mem_of_getElem? hk')
theorem KsJs.at {ks js:List Nat} {kvs:List (Key × V)} (h:KsJs ks js kvs) (hl:js.length = ks.length) {k:Nat} (hk:k∈ks):∃ m j:Nat,ks[m]? = some k∧js[m]? = some j∧valV kvs (Sum.inl (k:Int)) = some (.int (j:Nat)):=by
  obtain ⟨m,hm,e⟩:=List.getElem_of_mem hk
  have e1:ks[m]? = some k:=by rw [List.getElem?_eq_getElem hm,e]
  have e2:js[m]? = some (js[m]'(by omega)):=List.getElem?_eq_getElem (by omega)
  exact ⟨m,_,e1,e2,by rw [h.eq]; exact valV_zip h.nd e1 e2⟩
theorem putK_new {kvs:List (Key × V)} {k:Key} {v:V} (h:∀ e∈kvs,e.1≠k):putK kvs k v = kvs ++ [(k,v)]:=by
  unfold putK
  rw [if_neg]
  rw [List.any_eq_true]
  rintro ⟨e,he,z⟩
  exact h e he (of_decide_eq_true z)
theorem KsJs.snoc {ks js:List Nat} {kvs:List (Key × V)} (h:KsJs ks js kvs) (hl:js.length = ks.length) {p j:Nat} (np:p ∉ ks):KsJs (ks ++ [p]) (js ++ [j]) (putK kvs (Sum.inl (p:Int)) (.int (j:Nat))):=by
  have e:putK kvs (Sum.inl (p:Int)) (.int (j:Nat)) = kvs ++ [((Sum.inl (p:Int):Key),V.int (j:Nat))]:=by
    refine putK_new fun e he z=>?_
    rw [h.eq] at he
    obtain ⟨q,hq,rfl⟩:=List.mem_map.mp he
    have z':(q.1:Int) = (p:Int):=Sum.inl.inj z
    have:q.1 = p:=by omega
    exact np (this ▸ (List.of_mem_zip (a:=q.1) (b:=q.2) hq).1)
  refine ⟨?_,?_,?_⟩
  · rw [e,List.zip_append hl.symm,List.map_append,← h.eq]
    rfl
  · rw [List.nodup_append]
    exact ⟨h.nd,List.nodup_cons.mpr ⟨fun z=>(List.not_mem_nil z).elim,List.nodup_nil⟩,fun a ha b hb z=>by
      have:b = p:=by simpa using hb
      subst this
      exact np (z ▸ ha)⟩
  · rw [e,List.length_append,List.length_append,h.ln]
    rfl
theorem not_mem_take {ks:List Nat} {i p:Nat} (nd:ks.Nodup) (h:ks[i]? = some p):p ∉ ks.take i:=fun hm=>by
  obtain ⟨m,hm1,e⟩:=List.getElem_of_mem hm
  rw [List.length_take] at hm1
  rw [List.getElem_take] at e
  obtain ⟨lt,e2⟩:=List.getElem?_eq_some_iff.mp h
  have:=(List.getElem_inj nd).mp (e.trans e2.symm)
  omega
theorem same_upd2 {H:Hp} {nb dn:Addr} {o p:HO} (hdn:H dn = none) (hnb:H nb = none) (hne:dn≠nb):Same (upd H dn o) (upd (upd H dn o) nb p):=fun x u e=>by
  rw [upd_ne fun z=>?_]
  · exact e
  · rw [z,upd_ne (Ne.symm hne),hnb] at e
    cases e
section
variable {C:Addr} {K:PySem.W.Frag} {sc:Addr} {ns:List Int} {H1:Hp} {ol bk p1 p2:Addr} {os:List Str} {s1 s2:Sn} {k1 k2 N:Nat} {H:Hp} {rs:List Rm} {F:Foot}
end
theorem val_trn {os ps:List Str} {s:Sn} (h:s.inO os) (r:Row):s.val (envR os (trn os ps r)) = s.val (envR ps r):=Sn.val_congr s h fun x hx=>env_trn r hx
theorem eq_strs {K:PySem.W.Frag} {H:Hp} {n:Nat} {p q:Addr} {xs:List Str} (hp:SqL K H p (xs.map V.str)) (hq:SqL K H q (xs.map V.str)):EqD K H (n + 1) (.ref p) (.ref q) true:=by
  refine eq_ll hp hq rfl fun j x y hx hy=>?_
  rw [hx] at hy
  cases hy
  rw [List.getElem?_map] at hx
  cases hz:xs[j]? with
  | none=>rw [hz] at hx; cases hx
  | some z=>rw [hz] at hx; cases hx; exact eq_flat rfl
end Sen
namespace L2
open PySem PySem.Spec PyProof.Rows PySem.Builtin PySem.Builtin.Str
section
variable {X:Cx}
end
end L2
namespace L2
open PySem PySem.Spec PyProof.Rows
section
variable {X:Cx}
end
end L2
namespace Bdd
open PySem Sen
end Bdd
namespace Sen
open PySem L2 Bdd
end Sen
namespace Bdd
open PySem Sen L2
end Bdd
namespace Bdd
open PySem Sen
def upR (n:Nat) (x:Rm):Bool:=match x with | some (i,_,_)=>decide (i + 2 < n) | none=>false
def hiN (n:Nat) (rs:List Rm):Nat:=(rs.filter (upR n)).length
theorem hi_snoc {n:Nat} {rs:List Rm} {p lo hi:Nat}:hiN n (rs ++ [some (p,lo,hi)]) = hiN n rs + if p + 2 < n then 1 else 0:=by
  unfold hiN
  rw [List.filter_append,List.length_append]
  congr 1
  by_cases h:p + 2 < n
  · rw [if_pos h,List.filter_cons_of_pos (show upR n (some (p,lo,hi)) = true from decide_eq_true h)]
    rfl
  · rw [if_neg h,List.filter_cons_of_neg (show ¬ upR n (some (p,lo,hi)) = true from fun z=>h (of_decide_eq_true z))]
    rfl
def sig4 (n:Nat) (rs:List Rm) (k:Nat):Bool × Bool × Bool × Bool :=
  (yes rs k (fun i=>if i + 1 = n then false else false),yes rs k (fun i=>if i + 1 = n then true else false),yes rs k (fun i=>if i + 1 = n then false else true),yes rs k (fun i=>if i + 1 = n then true else true))
theorem sig_inj {n:Nat} {rs:List Rm} (B:Bk n rs) {j k:Nat} (hj:j < rs.length) (hk:k < rs.length) (lj:n≤lev n rs j + 2) (lk:n≤lev n rs k + 2) (e:sig4 n rs j = sig4 n rs k):j = k:=by
  unfold sig4 at e
  rw [Prod.mk.injEq,Prod.mk.injEq,Prod.mk.injEq] at e
  obtain ⟨e0,e1,e2,e3⟩:=e
  have key:∀ {m:Nat},m < rs.length→n≤lev n rs m + 2→∀ r:Row,yes rs m r = yes rs m (fun i=>if i + 1 = n then r (n - 1) else r (n - 2)):=fun {m} hm lm r=>by
    refine yes_congr B m m (Nat.le_refl _) hm fun i h1 h2=>?_
    by_cases h:i + 1 = n
    · rw [if_pos h,show i = n - 1 by omega]
    · rw [if_neg h,show i = n - 2 by omega]
  refine one_room B (max j k) j k ⟨Nat.le_max_left _ _,Nat.le_max_right _ _⟩ hj hk fun r=>?_
  rw [key hj lj r,key hk lk r]
  cases r (n - 1) <;> cases r (n - 2)
  · exact e0
  · exact e2
  · exact e1
  · exact e3
def all4:List (Bool × Bool × Bool × Bool):=[false,true].flatMap fun a=>[false,true].flatMap fun b=>[false,true].flatMap fun c=>[false,true].map fun d=>(a,b,c,d)
theorem all4_mem:∀ x:Bool × Bool × Bool × Bool,x∈all4:=by
  rintro ⟨a,b,c,d⟩
  cases a <;> cases b <;> cases c <;> cases d <;> decide
theorem filt_idx {α:Type} (f:α→Bool) (d:α):∀ l:List α,(l.filter f).length = ((List.range l.length).filter fun i=>f (l.getD i d)).length
  | []=>rfl
  | a :: l=>by
    have ih:=filt_idx f d l
    rw [List.length_cons,List.range_succ_eq_map,List.filter_cons,List.filter_cons,List.filter_map,]
    have e:((List.range l.length).filter ((fun i=>f ((a :: l).getD i d)) ∘ Nat.succ)) = ((List.range l.length).filter fun i=>f (l.getD i d)):=rfl
    rw [e]
    show (if f a = true then a :: l.filter f else l.filter f).length = (if f a = true then 0 :: _ else _).length
    cases f a
    · rw [if_neg Bool.false_ne_true,if_neg Bool.false_ne_true,List.length_map]
      exact ih
    · rw [if_pos rfl,if_pos rfl,List.length_cons,List.length_cons,List.length_map,ih]
theorem filt_both {α:Type} (f:α→Bool):∀ l:List α,l.length = (l.filter f).length + (l.filter fun a=>!f a).length
  | []=>rfl
  | a :: l=>by
    have ih:=filt_both f l
    cases h:f a
    · rw [List.filter_cons_of_neg (by rw [h]; exact Bool.false_ne_true),List.filter_cons_of_pos (p:=fun a=>!f a) (by rw [h]; rfl),List.length_cons,List.length_cons]
      omega
    · rw [List.filter_cons_of_pos h,List.filter_cons_of_neg (p:=fun a=>!f a) (by rw [h]; exact Bool.false_ne_true),List.length_cons,List.length_cons]
      omega
theorem hi_len {n:Nat} {rs:List Rm} (B:Bk n rs):rs.length≤hiN n rs + 16:=by
  have e1:=filt_both (fun i=>upR n (rs.getD i none)) (List.range rs.length)
  rw [List.length_range,← filt_idx] at e1
  have e2:((List.range rs.length).filter fun i=>!upR n (rs.getD i none)).length≤16:=by
    have nd:(((List.range rs.length).filter fun i=>!upR n (rs.getD i none)).map (sig4 n rs)).Nodup:=by
      have h:=(List.nodup_range (n:=rs.length)).filter (fun i=>!upR n (rs.getD i none))
      show List.Pairwise _ _
      rw [List.pairwise_map]
      refine List.Pairwise.imp_of_mem (fun {j k} hj hk ne e=>ne ?_) h
      obtain ⟨j1,j2⟩:=List.mem_filter.mp hj
      obtain ⟨k1,k2⟩:=List.mem_filter.mp hk
      have lv:∀ m,m < rs.length→(!upR n (rs.getD m none)) = true→n≤lev n rs m + 2:=fun m hm hu=>by
        unfold lev
        rw [List.getD_eq_getElem?_getD] at hu
        cases hx:rs[m]? with
        | none=>show n≤n + 2; omega
        | some x =>
          rw [hx] at hu
          cases x with
          | none=>show n≤n + 2; omega
          | some t =>
            obtain ⟨i,lo,hi⟩:=t
            have:¬ i + 2 < n:=fun z=>by
              have:upR n (some (i,lo,hi)) = true:=decide_eq_true z
              simp [this] at hu
            show n≤i + 2
            omega
      exact sig_inj B (List.mem_range.mp j1) (List.mem_range.mp k1) (lv j (List.mem_range.mp j1) j2) (lv k (List.mem_range.mp k1) k2) e
    have:=nodup_le nd (ys:=all4) fun x _=>all4_mem x
    rw [List.length_map] at this
    exact this
  unfold hiN
  omega
def bH (n u:Nat):Nat:=2 ^ (n - 2 - u) - 1
theorem bH_step {n u p:Nat} (h:u≤p):bH n (p + 1) + bH n (p + 1) + (if p + 2 < n then 1 else 0)≤bH n u:=by
  unfold bH
  by_cases hp:p + 2 < n
  · rw [if_pos hp]
    have e:n - 2 - p = (n - 2 - (p + 1)) + 1:=by omega
    have m:2 ^ (n - 2 - p)≤2 ^ (n - 2 - u):=Nat.pow_le_pow_right (by decide) (by omega)
    have p1:1≤2 ^ (n - 2 - (p + 1)):=Nat.one_le_two_pow
    rw [e,Nat.pow_succ] at m
    omega
  · rw [if_neg hp,show n - 2 - (p + 1) = 0 by omega]
    show 1 - 1 + (1 - 1) + 0≤_
    omega
theorem bH_8 {n:Nat} (h:n≤8):bH n 0≤63:=by
  have:2 ^ (n - 2 - 0)≤2 ^ 6:=Nat.pow_le_pow_right (by decide) (by omega)
  have e:2 ^ 6 = 64:=rfl
  unfold bH
  omega
end Bdd
namespace Sen
open PySem L2 Bdd
section
variable (C:Addr) (K:PySem.W.Frag)
def spRoomWithH (d:Nat):Sp:=fun vs H Q _=>∃ (b:Addr) (os:List Str) (rs:List Rm) (F:Foot) (t u:Nat) (f:Nat→Bool),vs = [.ref b,.int t]∧BookAt C H b os rs F∧rs.length + 2 ^ d≤9000000∧u≤os.length∧os.length + 1≤u + d∧IsTab os.length t f∧(∀ i,i < u→Free os.length f i) ∧
  ∀ (k:Nat) (rs':List Rm) (H':Hp),Away F H H'→Tups H H'→BookAt C H' b os rs' F→Grown rs rs'→k < rs'.length→(∀ r,yes rs' k r = f (bits r os.length))→rs'.length + 1≤rs.length + 2 ^ d→(∀ j,rs.length≤j→j < rs'.length→u≤lev os.length rs' j)→hiN os.length rs'≤hiN os.length rs + bH os.length u→Q (.int (k:Nat)) H'
def GrowH (b:Addr) (os:List Str) (H:Hp) (rs:List Rm) (F:Foot) (f:Row→Bool) (Q:VK):Prop:=∀ (k:Nat) (rs':List Rm) (H':Hp),Away F H H'→Tups H H'→BookAt C H' b os rs' F→Grown rs rs'→Means rs' k f→hiN os.length rs'≤hiN os.length rs + 63→Q (.int (k:Nat)) H'
def spEnterH:Sp:=fun vs H Q _=>∃ (b p:Addr) (os:List Str) (rs:List Rm) (F:Foot) (s:Sn),vs = [.ref b,.ref p]∧BookAt C H b os rs F∧rs.length≤8000000∧IsS H s p∧s.inO os∧s.count≤200∧s.depth≤24∧GrowH C b os H rs F (fun r=>s.val (envR os r)) Q
def spRoomInH:Sp:=fun vs H Q _=>∃ (nb b kd:Addr) (os ps:List Str) (ns rs:List Rm) (G F:Foot) (k:Nat) (x:Rm) (kvs:List (Key × V)),vs = [.ref nb,.ref b,.int (k:Nat),.ref kd]∧BookAt C H nb ps ns G∧BookAt C H b os rs F∧Marks os ps∧ns.length≤8000000∧rs[k]? = some x∧H kd = some (.dK kvs) ∧
  (∀ i lo hi,x = some (i,lo,hi)→∃ jl jh:Nat,valV kvs (Sum.inl (lo:Int)) = some (.int (jl:Nat))∧valV kvs (Sum.inl (hi:Int)) = some (.int (jh:Nat))∧Means ns jl (fun r=>yes rs lo (trn os ps r))∧Means ns jh (fun r=>yes rs hi (trn os ps r))) ∧
  GrowH C nb ps H ns G (fun r=>yes rs k (trn os ps r)) Q
def spRoomsInH:Sp:=fun vs H Q _=>∃ (nb b rl:Addr) (os ps:List Str) (ns rs:List Rm) (G F:Foot) (ks:List Nat),vs = [.ref nb,.ref b,.ref rl]∧BookAt C H nb ps ns G∧BookAt C H b os rs F∧Marks os ps∧(∀ x,F x→¬ G x)∧H rl = some (.lst (ks.map fun k=>V.int (k:Nat)))∧¬ G rl∧Rises rs ks∧hiN ps.length ns + 63 * ks.length + 16≤8000000 ∧
  ∀ (l:Addr) (H':Hp) (ns':List Rm) (js:List Nat),Away G H H'→Tups H H'→BookAt C H' nb ps ns' G→Grown ns ns'→H l = none→H' l = some (.lst (js.map fun j=>V.int (j:Nat)))→js.length = ks.length→(∀ (i k j:Nat),ks[i]? = some k→js[i]? = some j→Means ns' j (fun r=>yes rs k (trn os ps r)))→hiN ps.length ns'≤hiN ps.length ns + 63 * ks.length→Q (.ref l) H'
def spReorderedH:Sp:=fun vs H Q _=>∃ (b ol:Addr) (os ps:List Str) (rs:List Rm) (F:Foot),vs = [.ref b,.ref ol]∧BookAt C H b os rs F∧SqL K H ol (ps.map V.str)∧IsOrd ps∧Marks os ps∧63 * rs.length≤7000000 ∧
  ∀ (t nb l:Addr) (H':Hp) (ns:List Rm) (G:Foot) (js:List Nat),Same H H'→H t = none→H' t = some (.tup [.ref nb,.ref l])→BookAt C H' nb ps ns G→(∀ x,G x→H x = none)→H l = none→¬ G l→H' l = some (.lst (js.map fun j=>V.int (j:Nat)))→js.length = rs.length→(∀ (k j:Nat),js[k]? = some j→Means ns j (fun r=>yes rs k (trn os ps r)))→hiN ps.length ns≤63 * rs.length→Q (.ref t) H'
end
structure LedH (C:Addr) (H0:Hp) (b:Addr) (os:List Str) (m:Nat) (H:Hp) (rs:List Rm) (F:Foot):Prop where
  same:Same H0 H
  away:∀ x,F x→H0 x = none
  bk:BookAt C H b os rs F
  hi:hiN os.length rs≤m
section
variable {C:Addr} {H0:Hp} {b:Addr} {os:List Str} {m:Nat} {H:Hp} {rs:List Rm} {F:Foot}
theorem LedH.len (h:LedH C H0 b os m H rs F):rs.length≤m + 16:=Nat.le_trans (hi_len ((bookLike C).bk h.bk)) (Nat.add_le_add_right h.hi _)
theorem LedH.new (h:LedH C H0 b os m H rs F) {H':Hp} (g:Same H H'):LedH C H0 b os m H' rs F:=⟨h.same.trans g,h.away,(bookLike C).same h.bk g,h.hi⟩
theorem LedH.grow (h:LedH C H0 b os m H rs F) {H':Hp} {rs':List Rm} (aw:Away F H H') (hB:BookAt C H' b os rs' F) (hh:hiN os.length rs'≤hiN os.length rs + 63):LedH C H0 b os (m + 63) H' rs' F :=
  ⟨fun x o e=>aw x o (h.same _ _ e) fun z=>(by have:=h.away x z; rw [this] at e; cases e),h.away,hB,Nat.le_trans hh (Nat.add_le_add_right h.hi _)⟩
end
section
variable {C:Addr} {K:PySem.W.Frag} {sc:Addr} {ns:List Int} {H1:Hp} {ol bk:Addr} {os:List Str} {sl rl p0 p1 p2:Addr} {s0 s1 s2:Sn} {k1 k2 m:Nat} {H:Hp} {rs:List Rm} {F:Foot}
end
end Sen
namespace L2
open PySem PySem.Spec PyProof.Rows PySem.W
section
variable {prog:Program} {w:World} {A:Around} {E:Value→Shared→Prop} {κ:SortKind} {it:Array Keyed}
end
section
variable {prog:Program} {w:World} {A:Around} {E:Value→Shared→Prop} {s:Shared}
end
section
variable {A:Around} {s:Shared}
end
section
variable {X:Cx}
end
end L2
namespace L2
open PySem
section
variable {X:Cx}
end
end L2
namespace Bdd
open PySem
end Bdd
namespace Sen
open PySem L2 Bdd
end Sen
namespace Bdd
open PySem
end Bdd
namespace Bdd
open PySem
section
variable {n:Nat} {rs:List Rm} (B:Bk n rs)
include B
end
end Bdd
namespace Sen
open PySem L2 Bdd
theorem ix_at {os:List Str} {p:Nat} {x:Str} (nd:os.Nodup) (h:os[p]? = some x):ix os x = p:=by
  have hp:=(List.getElem?_eq_some_iff.mp h).1
  obtain ⟨_,h2,h3⟩:=ix_spec (List.mem_of_getElem? h)
  exact (List.getElem?_inj h2 nd).mp (h3.trans h.symm)
section
variable {us vs:List Str} {x y:Str}
theorem ex_perm:(us ++ y :: x :: vs).Perm (us ++ x :: y :: vs):=List.Perm.append_left us (List.Perm.swap x y vs)
theorem ex_ord (h:IsOrd (us ++ x :: y :: vs)):IsOrd (us ++ y :: x :: vs):=⟨ex_perm.nodup_iff.mpr h.nd,fun z hz=>h.mem z (ex_perm.mem_iff.mp hz),by rw [List.length_append,List.length_cons]; omega⟩
theorem ex_marks:Marks (us ++ x :: y :: vs) (us ++ y :: x :: vs):=⟨fun z=>ex_perm.mem_iff.symm,ex_perm.length_eq.symm⟩
theorem ex_a (x y:Str):(us ++ x :: y :: vs)[us.length]? = some x:=by rw [List.getElem?_append_right (Nat.le_refl _),Nat.sub_self]; rfl
theorem ex_b (x y:Str):(us ++ x :: y :: vs)[us.length + 1]? = some y:=by rw [List.getElem?_append_right (by omega),show us.length + 1 - us.length = 1 by omega]; rfl
end
section
variable (C:Addr) (K:PySem.W.Frag)
def spExchanged:Sp:=fun zs H Q _=>∃ (b:Addr) (us vs:List Str) (x y:Str) (rs:List Rm) (F:Foot),zs = [.ref b,.int (us.length:Nat)]∧BookAt C H b (us ++ x :: y :: vs) rs F∧63 * rs.length≤7000000 ∧
  ∀ (t nb l:Addr) (H':Hp) (ns:List Rm) (G:Foot) (js:List Nat),Same H H'→H t = none→H' t = some (.tup [.ref nb,.ref l])→BookAt C H' nb (us ++ y :: x :: vs) ns G→(∀ x,G x→H x = none)→H l = none→¬ G l→H' l = some (.lst (js.map fun j=>V.int (j:Nat)))→js.length = rs.length→(∀ (k j:Nat),js[k]? = some j→Means ns j (fun r=>yes rs k (trn (us ++ x :: y :: vs) (us ++ y :: x :: vs) r)))→hiN (us ++ y :: x :: vs).length ns≤63 * rs.length→Q (.ref t) H'
end
end Sen
namespace L2
open PySem PySem.Spec PyProof.Rows
section
variable {X:Cx} {K:PySem.W.Frag} {o e:Expr} {es:List Expr} {to:TE} {t:TA} {name:Str} {apos cpos:Pos} {T id:String} {r:V→List V→Hp→VK→Prop}
end
end L2
namespace Sen
open PySem L2 Bdd
def natW (ps:List Nat):List V:=ps.map fun p=>V.int (p:Nat)
end Sen
namespace Sen
open PySem L2 Bdd
end Sen
namespace L2
open PySem PySem.Spec PyProof.Rows PySem.W
section
variable {prog:Program} {w:World} {A:Around} {E:Value→Shared→Prop} {κ:SortKind} {it:Array Keyed} {s:Shared}
variable {lt:Nat→Nat→Bool} {N:Nat}
end
section
variable {prog:Program} {w:World} {A:Around} {E:Value→Shared→Prop} {κ:SortKind} {it:Array Keyed} {s:Shared}
variable {lt:Nat→Nat→Bool} {N:Nat}
end
section
variable {prog:Program} {w:World} {A:Around} {E:Value→Shared→Prop} {κ:SortKind} {it:Array Keyed} {s:Shared}
variable {lt:Nat→Nat→Bool} {N:Nat}
end
section
variable {prog:Program} {w:World} {A:Around} {E:Value→Shared→Prop} {κ:SortKind} {it:Array Keyed} {s:Shared}
variable {lt:Nat→Nat→Bool}
end
section
variable {prog:Program} {w:World} {A:Around} {E:Value→Shared→Prop} {κ:SortKind} {it:Array Keyed} {s:Shared}
variable {lt:Nat→Nat→Bool}
end
section
variable {prog:Program} {w:World} {A:Around} {E:Value→Shared→Prop} {s:Shared}
end
section
variable {prog:Program} {w:World} {A:Around} {E:Value→Shared→Prop} {κ:SortKind} {it:Array Keyed} {s:Shared}
end
end L2
namespace Bdd
open L2
end Bdd
namespace L2
open PySem PySem.Spec PyProof.Rows PySem.W
section
variable {X:Cx}
end
section
variable {X:Cx}
theorem op_addLK {K:PySem.W.Frag} (h:X.K = K):OpR X (binaryOp .Add) (rAddL K):=by subst h; exact op_addL
end
end L2
namespace L2
open PySem
end L2
namespace Sen
open PySem L2 Bdd
section
variable (C:Addr) (K:PySem.W.Frag)
def spRoomThere:Sp:=fun vs H Q _=>∃ (b:Addr) (os:List Str) (rs:List Rm) (F:Foot) (t k0:Nat) (f:Nat→Bool),vs = [.ref b,.int t]∧BookAt C H b os rs F∧IsTab os.length t f∧k0 < rs.length∧(∀ r,yes rs k0 r = f (bits r os.length))∧Q (.int (k0:Nat)) H
def spEnterT:Sp:=fun vs H Q _=>∃ (b p:Addr) (os:List Str) (rs:List Rm) (F:Foot) (s:Sn) (k0:Nat),vs = [.ref b,.ref p]∧BookAt C H b os rs F∧IsS H s p∧s.inO os∧s.count≤200∧s.depth≤24∧Means rs k0 (fun r=>s.val (envR os r))∧∀ H',Same H H'→Q (.int (k0:Nat)) H'
end
theorem roomWith_there {C:Addr} {H H1:Hp} {b:Addr} {os:List Str} {rs:List Rm} {F:Foot} {t k0:Nat} {f:Nat→Bool} {m:Row→Bool} {Q:VK} (g:Same H H1) (hB:BookAt C H1 b os rs F) (tr:IsTab os.length t f) (hy:∀ r,f (bits r os.length) = m r) (mk:Means rs k0 m) (q:∀ H',Same H H'→Q (.int (k0:Nat)) H') :
    spRoomThere C [.ref b,.int t] H1 Q (fun _ _ _=>False):=⟨b,os,rs,F,t,k0,f,rfl,hB,tr,mk.1,fun r=>by rw [mk.2,hy],q H1 g⟩
section
variable {B:Hp→Addr→List Str→List Rm→Foot→Prop} {C:Addr} {H0 H H':Hp} {b:Addr} {os:List Str} {n:Nat} {rs rs':List Rm} {F F':Foot}
end
section
variable (C:Addr) (K:PySem.W.Frag)
end
end Sen
namespace PySem
open Sem (wp)
namespace F
end F
end PySem
namespace L2
open PySem PySem.Spec PyProof.Rows PySem.W
theorem tests_by {X:Cx} {c:Expr} {t:TT} {pins:List (Addr × Obj)} {s:Shared} {σ:St} {H:Hp} {Q:Bool→Hp→Prop} (I:Inv X pins σ H s) (h:t σ H Q) (hp:PT X c t):wpAny (model X.prog X.w) X.A (lcTests [c] X.env) (TP X pins σ Q) X.xe s:=wpAny_tests_one (hp pins s σ H Q I h)
section
variable {X:Cx}
end
end L2
namespace Bdd
open PySem L2
end Bdd
namespace Sen
open PySem L2 Bdd
section
variable {C:Addr} {H0 H:Hp} {b1 b2:Addr} {os:List Str} {n:Nat} {rs1 rs2:List Rm} {F1 F2:Foot}
end
end Sen
namespace L2
open PySem PySem.Spec PyProof.Rows PySem.W
section
variable {prog:Program} {w:World} {A:Around} {E:Value→Shared→Prop} {κ:SortKind} {it:Array Keyed} {s:Shared}
variable {lt:Nat→Nat→Bool} {N:Nat}
end
section
variable {lt:Nat→Nat→Bool} {N:Nat}
variable {X Y O:List Nat} {ia ib:Nat}
end
section
variable {prog:Program} {w:World} {A:Around} {E:Value→Shared→Prop} {κ:SortKind} {it:Array Keyed} {s:Shared}
variable {lt:Nat→Nat→Bool} {N:Nat}
end
section
variable {lt:Nat→Nat→Bool} {N:Nat}
variable {X Y O:List Nat} {na nb:Nat}
end
section
variable {prog:Program} {w:World} {A:Around} {E:Value→Shared→Prop} {κ:SortKind} {it:Array Keyed} {s:Shared}
variable {lt:Nat→Nat→Bool} {N:Nat}
end
section
variable {prog:Program} {w:World} {A:Around} {E:Value→Shared→Prop} {κ:SortKind} {it:Array Keyed} {s:Shared}
variable {lt:Nat→Nat→Bool} {N:Nat}
end
section
variable {prog:Program} {w:World} {A:Around} {E:Value→Shared→Prop} {κ:SortKind} {it:Array Keyed} {s:Shared}
variable {lt:Nat→Nat→Bool} {N:Nat}
end
end L2
namespace L2
open PySem PySem.Spec PyProof.Rows PySem.W
section
variable {prog:Program} {w:World} {A:Around} {E:Value→Shared→Prop} {s:Shared}
end
section
variable {X:Cx}
end
end L2
namespace Bdd
open PySem L2
end Bdd
namespace Bdd
open Sen
section
variable {n d p:Nat} {f c:Nat→Bool}
end
end Bdd
namespace Sen
open PySem L2 Bdd
section
variable (C:Addr)
end
def spLawLeads (C:Addr) (K:PySem.W.Frag):Sp:=fun vs H Q _=>∃ (b rl:Addr) (os:List Str) (rs:List Bdd.Rm) (F:Foot) (k:Nat) (r:List Bool),vs = [.ref b,.int (k:Nat),.ref rl]∧BookAt C H b os rs F∧k < rs.length∧SqL K H rl (rowV r)∧r.length = os.length∧∀ H',Same H H'→Q (.int ((Bdd.yes rs k (Bdd.rowL r)).toNat:Nat)) H'
end Sen
namespace Sen
open PySem L2 Bdd
end Sen
namespace Bdd
open L2
end Bdd
namespace Sen
open PySem L2 Bdd
end Sen
namespace Bdd
open PySem Sen
section
variable {n:Nat} {rs:List Rm} (B:Bk n rs)
include B
end
end Bdd
namespace Sen
open PySem L2 Bdd
end Sen
namespace Sen
open PySem L2 Bdd
end Sen
namespace L2
open PySem PySem.Spec PyProof.Rows
section
variable {prog:Program} {w:World} {A:Around} {E:Value→Shared→Prop} {s:Shared}
end
section
variable {X:Cx}
end
end L2
namespace Bdd
section
variable {n:Nat} {rs:List Rm} (B:Bk n rs)
include B
end
end Bdd
namespace Sen
open PySem L2 Bdd
end Sen
namespace L2
open PySem PySem.Spec PyProof.Rows
section
variable {prog:Program} {w:World} {κ:Type} [DecidableEq κ] {knd:KeyKind prog w κ} {A:Around} {E:Value→Shared→Prop} {s:Shared}
theorem wp_alive {a:Addr} {Q:Option Obj→Shared→Prop} (h:Q (s.heap.get? a) s):wpAny (model prog w) A (loadIfAlive a) Q E s:=fun _ _ _=>h
end
section
variable {prog:Program} {w:World} {κ:Type} [DecidableEq κ] {knd:KeyKind prog w κ} {A:Around} {E:Value→Shared→Prop} {s:Shared}
end
section
variable {X:Cx}
end
end L2
namespace PySem
open Sem (wp)
theorem sub_attrE:isSubtype (.type "AttributeError") (.type "AttributeError") = pure true:=by rw [isSubtype_type]; kernel_rfl
theorem own_attrE (v:Value):ownMembersOf (Value.type "AttributeError") [v] = #[unsetMember,unsetMember]:=rfl
theorem man_attrE:((Manifest.find? "AttributeError").elim false fun t=>t.mro.contains "StopIteration" || t.mro.contains "SystemExit") = false:=by
  rw [find?_eq_fast]; kernel_rfl
section
variable {prog:Program} {w:World} {A:Around} {E:Value→Shared→Prop} {h:Heap} {g:Array GenState} {d:Drawn} {t:Nat} {os:OsState} {a:Addr} {its:Array Value} {n:Nat} {sl:Array (Option Value)}
theorem raise_attr {α:Type} {o:Value} {name msg:Str} {Q:α→Shared→Prop} (hh:A.handled = none) (zm:msg.length≤sizeLine) (zn:name.length≤sizeLine)
    (hE:∀ e h' t',(∀ b o,h.get? b = some o→h'.get? b = some o)→Shared.TypeIs ⟨h',g,d,t',os⟩ (.ref e) "AttributeError" → E (.ref e) ⟨h',g,d,t',os⟩) :
    wpAny (model prog w) A (raiseAttrError o name msg) Q E ⟨h,g,d,t,os⟩:=by
  unfold raiseAttrError
  refine wpAny_bind (wpAny_mkStr ?_ zm)
  refine wpAny_bind ?_
  simp only [newExc,newTuple]
  refine wpAny_bind (wpAny_newObj_type ?_ (by size_fits))
  refine wpAny_bind (m:=firstArgMember _ _) (wpAny_of_eq (a:=Value.none) (by simp only [firstArgMember,man_attrE]; rfl) ?_)
  rw [own_attrE]
  refine wpAny_newObj_type ?_ (by size_fits)
  dsimp only
  have kp:∀ b o,h.get? b = some o→((h.push { cls:=.type "tuple", data:=.seq #[Value.str msg t] }).push { cls:=.type "AttributeError", data:=.fields (#[.ref h.objs.size,.none,.none,.none,.bool false,.none] ++ #[unsetMember,unsetMember]) }).get? b = some o:=fun b o e=>Heap.get?_push_of_some _ (Heap.get?_push_of_some _ e)
  have ex:((h.push { cls:=.type "tuple", data:=.seq #[Value.str msg t] }).push { cls:=.type "AttributeError", data:=.fields (#[.ref h.objs.size,.none,.none,.none,.bool false,.none] ++ #[unsetMember,unsetMember]) }).get? (h.push { cls:=.type "tuple", data:=.seq #[Value.str msg t] }).objs.size = some { cls:=.type "AttributeError", data:=.fields (#[.ref h.objs.size,.none,.none,.none,.bool false,.none] ++ #[unsetMember,unsetMember]) }:=Heap.get?_push_size _ rfl
  have lt:∀ b o,h.get? b = some o→b≠(h.push { cls:=.type "tuple", data:=.seq #[Value.str msg t] }).objs.size:=fun b o e=>Nat.ne_of_lt (Nat.lt_of_lt_of_le (Heap.lt_size e) (by rw [Heap.size_push]; exact Nat.le_succ _))
  generalize hs:(h.push { cls:=.type "tuple", data:=.seq #[Value.str msg t] }).objs.size = e at ex lt
  generalize ((h.push { cls:=.type "tuple", data:=.seq #[Value.str msg t] }).push { cls:=.type "AttributeError", data:=.fields (#[.ref h.objs.size,.none,.none,.none,.bool false,.none] ++ #[unsetMember,unsetMember]) }) = h2 at kp ex
  refine wpAny_bind (wpAny_mkText ?_)
  have ty:Shared.TypeIs ⟨h2,g,d,t + 1 + 1,os⟩ (.ref e) "AttributeError" := ⟨_,ex,rfl⟩
  refine wpAny_bind ?_
  unfold noteAttr lacksNameAndObj
  refine wpAny_bind (wpAny_bind (wpAny_isInstance ty sub_attrE (wpAny_bind (wpAny_load ex (wpAny_pure ?_)))))
  refine wpAny_bind (wpAny_rule (wpAny_bind (wpAny_typeOf ty ?_)))
  show wpAny _ _ (layMembers e 6 #[Value.str name (t + 1),o]) _ _ _
  unfold layMembers
  refine wpAny_bind (wpAny_load ex (wpAny_update ex ?_))
  have ex3:=Heap.get?_update_self (Obj.mapFields fun vs=>vs.extract 0 6 ++ #[Value.str name (t + 1),o]) ex rfl
  have kp3:∀ b o',h.get? b = some o'→(h2.update e (Obj.mapFields fun vs=>vs.extract 0 6 ++ #[Value.str name (t + 1),o])).get? b = some o':=fun b o' z=>(Heap.get?_update_other _ _ (Ne.symm (lt b o' z))).trans (kp b o' z)
  simp only [raiseNew]
  refine wpAny_bind (wpAny_handled ?_)
  rw [hh]
  refine wpAny_bind (wpAny_pure (wpAny_throw ?_))
  exact hE e _ _ kp3 ⟨_,ex3,rfl⟩
end
theorem entry_upd_loop:entryFor table "dict.update.loop" = some Builtin.«dict.update.loop»:=entryFor_of_tree (by kernel_rfl)
theorem plain_upd_loop:plainId "dict.update.loop" = true:=by decide +kernel
section
variable {prog:Program} {w:World} {κ:Type} [DecidableEq κ] {knd:KeyKind prog w κ} {A:Around} {E:Value→Shared→Prop}
end
end PySem
namespace L2
open PySem PySem.Spec PyProof.Rows
theorem bt_dict:bootBuiltins "dict" = some (.type "dict"):=by decide +kernel
section
variable {X:Cx}
end
end L2
namespace L2
open PySem PySem.Spec PyProof.Rows
section
variable {X:Cx}
end
end L2
namespace Bdd
section
variable {n:Nat} {rs:List Rm} (B:Bk n rs)
include B
end
end Bdd
namespace Sen
open PySem L2 Bdd
section
variable (C:Addr)
end
end Sen
namespace L2
open PySem PySem.Spec PyProof.Rows
section
variable {X:Cx} {pins:List (Addr × Obj)} {σ:St} {H:Hp} {s:Shared}
end
section
variable {X:Cx} {tg:Expr}
end
end L2
namespace L2
open PySem PySem.Spec PyProof.Rows Sen
section
variable {X:Cx}
end
end L2
namespace Sen
open PySem L2 Bdd
section
variable (C:Addr)
end
end Sen
namespace L2
open PySem PySem.Spec PyProof.Rows
def ExcO (h:Heap) (e:Addr) (cls:Value):Prop:=∃ oe vs,h.get? e = some oe∧oe.cls = cls∧oe.dict = none∧oe.data = .fields vs∧vs[2]? = some .none∧(vs[1]? = some .none∨∃ T oT ts,vs[1]? = some (.ref T)∧T≠e∧h.get? T = some oT∧oT.data = .fields ts∧ts[3]? = some .none)
structure LeftS (l:List Env) (e:Addr) (cls:Value) (h h':Heap):Prop where
  keep:∀ b o,h.get? b = some o→b ∉ frs l→b≠e→h'.get? b = some o
  slot:∀ b o,h.get? b = some o→b∈frs l→b≠e→∃ sl,h'.get? b = some { o with slots:=sl }
  exc:ExcO h' e cls
section
variable {M:Model} {A:Around} {E:Value→Shared→Prop} {s:Shared}
theorem dict_mapFields (f:Array Value→Array Value) (o:Obj):(Obj.mapFields f o).dict = o.dict:=by
  obtain ⟨c,dd,dt,sl⟩:=o
  cases dt <;> rfl
theorem newEntryS {base:Heap} {env:Env} {outer:List Env} {L e:Addr} {oe:Obj} {vs:Array Value} {head:Value} {hadNext:Bool} {Q:Unit→Shared→Prop} (hfr:A.frames = some (env :: outer)) (hl:s.heap.FunFrames base (env :: outer)) (hf:env.frame = some L)
    (he:s.heap.get? e = some oe) (hdn:oe.dict = none) (hd:oe.data = .fields vs) (h2:vs[2]? = some .none) (sz:1 < vs.size) (h:∀ h',LeftS (env :: outer) e oe.cls s.heap h'→Q () { s with heap:=h' }) :
    wpAny M A (do let a ← frameOf env; let pl ← entryPlaceOf L hadNext; let b ← EntryCells.newEntry head a .none (rawInt L) .none pl; setField (.ref e) 1 b) (fun _ s'=>wpAny M A (setFlight (.ref e) none) Q E s') E s:=by
  have ne:e ∉ frs (env :: outer):=fun hm=>by
    obtain ⟨_,o,ho,hnf⟩:=hl.mem hm
    rw [he] at ho; injection ho with ho; subst ho; exact hnf vs hd
  refine wpAny_bind (wpAny_frameOf_fun hfr hl hf fun h1 hs1=>wpAny_bind (wpAny_entryPlaceOf fun pl hpl=>?_))
  unfold EntryCells.newEntry newFields; refine wpAny_bind (wpAny_newObj_type ?_ (hpl.sizeOk5 _ _ _ _ _))
  have he1:h1.get? e = some oe:=(hs1.2.1 e ne).trans he
  have he2:=Heap.get?_push_of_some (h:=h1) { cls:=.type "traceback", dict:=none,data:=.fields ([head,.ref L,.none,rawInt L,.none] ++ (if pl.isEmpty then List.replicate 6 Value.none else pl)).toArray } he1
  refine wpAny_setField he2 hd sz ?_
  have nT:h1.objs.size≠e:=Nat.ne_of_gt (Heap.lt_size he1)
  have hd3:=Obj.data_mapFields hd (·.setIfInBounds 1 (Value.ref h1.objs.size))
  have he3:=Heap.get?_update_self (Obj.mapFields (·.setIfInBounds 1 (Value.ref h1.objs.size))) he2 (Obj.isFreed_of_fields hd3)
  have hT3:=(Heap.get?_update_other (h1.push { cls:=.type "traceback", dict:=none,data:=.fields ([head,.ref L,.none,rawInt L,.none] ++ (if pl.isEmpty then List.replicate 6 Value.none else pl)).toArray }) (Obj.mapFields (·.setIfInBounds 1 (Value.ref h1.objs.size))) (Ne.symm nT)).trans (Heap.get?_push_size h1 rfl)
  unfold setFlight; refine wpAny_bind (wpAny_field he3 hd3 (x:=.ref h1.objs.size) (by simp [sz]) ?_)
  rw [if_pos (show (Value.ref h1.objs.size != Value.none) = true from by simp)]
  refine wpAny_setField hT3 rfl (by simp only [List.size_toArray,List.length_append,List.length_cons,List.length_nil] <;> omega) (h _ ?_)
  have keep:∀ b o,b≠e→h1.get? b = some o→(((h1.push { cls:=.type "traceback", dict:=none,data:=.fields ([head,.ref L,.none,rawInt L,.none] ++ (if pl.isEmpty then List.replicate 6 Value.none else pl)).toArray }).update e (Obj.mapFields (·.setIfInBounds 1 (Value.ref h1.objs.size)))).update h1.objs.size (Obj.mapFields (·.setIfInBounds 3 ((none:Option Addr).elim Value.none fun f=>rawInt f)))).get? b = some o:=fun b o hbe hb=>by
    have hbT:h1.objs.size≠b:=Nat.ne_of_gt (Heap.lt_size hb)
    rw [Heap.get?_update_other _ _ hbT,Heap.get?_update_other _ _ (Ne.symm hbe)]; exact Heap.get?_push_of_some _ hb
  refine ⟨fun b o hb hnf hbe=>keep b o hbe ((hs1.2.1 b hnf).trans hb),fun b o hb _ hbe=>?_,?_⟩
  · obtain ⟨sl,hs⟩:=hs1.2.2 b o hb
    exact ⟨sl,keep b _ hbe hs⟩
  · refine ⟨_,_,?_,Obj.cls_mapFields _ _,(by rw [dict_mapFields]; exact hdn),hd3,(by rw [Array.getElem?_setIfInBounds_ne (by decide)]; exact h2),.inr ⟨h1.objs.size,_,_,by simp [sz],nT,Heap.get?_update_self _ hT3 (Obj.isFreed_of_fields (Obj.data_mapFields rfl _)),Obj.data_mapFields rfl _,by first | (simp; done) | (rcases hpl with rfl | ⟨_,_,_,_,_,_,_,rfl⟩ <;> simp)⟩⟩
    rw [Heap.get?_update_other _ _ nT]; exact he3
theorem note_s {base:Heap} {env:Env} {outer:List Env} {L e:Addr} {cls:Value} {Q:Unit→Shared→Prop} (hfr:A.frames = some (env :: outer)) (hl:s.heap.FunFrames base (env :: outer)) (hf:env.frame = some L) (hx:ExcO s.heap e cls)
    (h:∀ h',LeftS (env :: outer) e cls s.heap h'→Q () { s with heap:=h' }):wpAny M A (noteFrame (.ref e) env) (fun _ s1=>wpAny M A (setFlight (.ref e) none) Q E s1) E s:=by
  obtain ⟨oe,vs,he,rfl,hdn,hd,h2,h1 | ⟨T,oT,ts,h1,nT,hT,hdT,h3⟩⟩:=hx
  · unfold noteFrame
    simp only [hf]; refine wpAny_bind (wpAny_field he hd h1 ?_)
    rw [if_neg (by decide)]
    exact newEntryS hfr hl hf he hdn hd h2 (Array.getElem?_eq_some_iff.mp h1).1 h
  · unfold noteFrame
    simp only [hf]; refine wpAny_bind (wpAny_field he hd h1 ?_)
    rw [if_pos (show (Value.ref T != Value.none) = true from by simp)]; refine wpAny_bind (wpAny_field hT hdT h3 ?_)
    rw [if_neg (show ¬ ((Value.none == rawInt L) = true) from by simp [rawInt])]; refine wpAny_bind (wpAny_setField hT hdT (Array.getElem?_eq_some_iff.mp h3).1 ?_)
    have same:∀ b,(s.heap.update T (Obj.mapFields (·.setIfInBounds 3 Value.none))).get? b = s.heap.get? b:=fun b=>by
      by_cases z:b = T
      · subst z
        rw [Heap.get?_update_self _ hT (Obj.isFreed_of_fields (Obj.data_mapFields hdT _)),hT]
        have et:ts.setIfInBounds 3 Value.none = ts:=by
          obtain ⟨q1,q2⟩:=Array.getElem?_eq_some_iff.mp h3
          rw [Array.setIfInBounds,dif_pos q1]
          rw [← q2]
          exact Array.set_getElem_self ..
        obtain ⟨c,dd,dt,sl⟩:=oT
        cases hdT
        show some _ = some _
        refine congrArg some ?_
        show Obj.mapFields _ _ = _
        simp only [Obj.mapFields,et]
      · exact Heap.get?_update_other _ _ (Ne.symm z)
    refine newEntryS (base:=base) (s:={ s with heap:=s.heap.update T (Obj.mapFields (·.setIfInBounds 3 Value.none)) }) hfr (hl.of_keeps fun b o hb hnf=>⟨o,(same b).trans hb,rfl⟩) hf ((same e).trans he) hdn hd h2 (Array.getElem?_eq_some_iff.mp h1).1 fun h' x=>h h' ⟨fun b o hb=>x.keep b o ((same b).trans hb),fun b o hb=>x.slot b o ((same b).trans hb),x.exc⟩
theorem leave_s {base:Heap} {env:Env} {outer:List Env} {L e:Addr} {cls:Value} {Q:Unit→Shared→Prop} (hfr:A.frames = some (env :: outer)) (hl:s.heap.FunFrames base (env :: outer)) (hf:env.frame = some L) (hx:ExcO s.heap e cls)
    (h:∀ h',LeftS (env :: outer) e cls s.heap h'→Q () { s with heap:=h' }):wpAny M A (leaving env (.ref e)) Q E s:=by
  unfold leaving
  exact wpAny_bind (note_s hfr hl hf hx h)
theorem land_s {e:Addr} {cls:Value} {Q:Unit→Shared→Prop} (hx:ExcO s.heap e cls) (h:∀ h',(∀ b,h'.get? b = s.heap.get? b)→Q () { s with heap:=h' }):wpAny M A (setFlight (.ref e) none) Q E s:=by
  obtain ⟨oe,vs,he,rfl,hdn,hd,h2,h1 | ⟨T,oT,ts,h1,nT,hT,hdT,h3⟩⟩:=hx
  · unfold setFlight
    refine wpAny_bind (wpAny_field he hd h1 ?_)
    rw [if_neg (by decide)]
    exact wpAny_pure (h s.heap fun _=>rfl)
  · unfold setFlight
    refine wpAny_bind (wpAny_field he hd h1 ?_)
    rw [if_pos (show (Value.ref T != Value.none) = true from by simp)]
    refine wpAny_setField hT hdT (Array.getElem?_eq_some_iff.mp h3).1 (h _ fun b=>?_)
    by_cases z:b = T
    · subst z
      rw [Heap.get?_update_self _ hT (Obj.isFreed_of_fields (Obj.data_mapFields hdT _)),hT]
      have et:ts.setIfInBounds 3 Value.none = ts:=by
        obtain ⟨q1,q2⟩:=Array.getElem?_eq_some_iff.mp h3
        rw [Array.setIfInBounds,dif_pos q1]
        rw [← q2]
        exact Array.set_getElem_self ..
      obtain ⟨c,dd,dt,sl⟩:=oT
      cases hdT
      refine congrArg some ?_
      show Obj.mapFields _ _ = _
      simp only [Obj.mapFields,Option.elim,et]
    · exact Heap.get?_update_other _ _ (Ne.symm z)
theorem ExcO.same {h h':Heap} {e:Addr} {cls:Value} (x:ExcO h e cls) (k:∀ b,h'.get? b = h.get? b):ExcO h' e cls:=by
  obtain ⟨oe,vs,he,hc,hdn,hd,h2,h1 | ⟨T,oT,ts,h1,nT,hT,hdT,h3⟩⟩:=x
  · exact ⟨oe,vs,(k e).trans he,hc,hdn,hd,h2,.inl h1⟩
  · exact ⟨oe,vs,(k e).trans he,hc,hdn,hd,h2,.inr ⟨T,oT,ts,h1,nT,(k T).trans hT,hdT,h3⟩⟩
end
theorem Inv.fresh0 {X:Cx} {pins:List (Addr × Obj)} {σ:St} {H:Hp} {s:Shared} {a:Addr} (I:Inv X pins σ H s) (hex:X.ex = []) (hn:s.heap.get? a = none):X.s₀.heap.get? a = none:=by
  cases q:X.s₀.heap.get? a with
  | none=>rfl
  | some o =>
    obtain ⟨o',e⟩:=I.base.there a o q (by rw [hex]; simp)
    rw [hn] at e; cases e
def CXE (P:Program) (w:World):CXT:=fun outer H s E e s'=>∃ (a:Addr) (cls:Value) (H':Hp),e = .ref a∧s'.os = s.os∧AllBare s'.gens∧Un (frs outer) [] H H' s.heap s'.heap∧HOk P w H' s'.heap∧s.heap.get? a = none∧H' a = none∧ExcO s'.heap a cls∧E cls none H'
section
variable {P:Program} {w:World} {K:PySem.W.Frag} {mg:Str→Option Value} {base:Heap} {N:List Str} {qual:Str} {scope:Scope} {f:Addr} {cd:Value} {A:Around} {outer:List Env} {s0:Shared} {H0:Hp} {E:XK}
theorem xe_of {pins:List (Addr × Obj)} {σ:St} {H:Hp} {s:Shared} {a:Addr} {cls:Value} (I:Inv (cxOf (CXE P w) P w K mg base N qual scope f cd A outer s0 H0 E) pins σ H s) (hx:ExcO s.heap a cls) (ha:s0.heap.get? a = none) (hn:H a = none) (hE:E cls none H) :
    (cxOf (CXE P w) P w K mg base N qual scope f cd A outer s0 H0 E).xe (.ref a) s:=by
  show wpAny (model P w) (A.deeper (envOfC qual scope s0.heap.objs.size f cd)) (leaving (envOfC qual scope s0.heap.objs.size f cd) (.ref a)) _ _ s
  refine leave_s (base:=base) (outer:=outer) (L:=s0.heap.objs.size) I.ok.frames I.stack rfl hx fun h' lf=>?_
  have fr:∀ b,b∈frs (envOfC qual scope s0.heap.objs.size f cd :: outer)→b = s0.heap.objs.size∨b∈frs outer:=fun b hb=>List.mem_cons.mp hb
  have nfr:∀ b,b < s0.heap.objs.size→b ∉ frs outer→b ∉ frs (envOfC qual scope s0.heap.objs.size f cd :: outer):=fun b hb hn z=>(fr b z).elim (Nat.ne_of_lt hb) hn
  have trk:∀ b u,H b = some u→b ∉ frs (envOfC qual scope s0.heap.objs.size f cd :: outer)∧b≠a:=fun b u e=>⟨(fun z=>by rw [I.stkFree b z] at e; cases e),(fun z=>by rw [z,hn] at e; cases e)⟩
  refine ⟨a,cls,H,rfl,I.os,I.bare,⟨fun b o q n hb hx=>?_,fun b o q n hb hx=>?_,I.base.free,fun b o q hx=>?_,I.base.tups,I.base.frzs,I.base.tbls⟩,fun b u e=>?_,ha,hn,lf.exc,hE⟩
  · exact lf.keep b o (I.base.keep b o q n hb hx) (nfr b (Heap.lt_size q) hb) (fun z=>by rw [z,ha] at q; cases q)
  · obtain ⟨sl,e1⟩:=I.base.slot b o q n hb hx
    obtain ⟨sl2,e2⟩:=lf.slot b _ e1 (List.mem_cons_of_mem _ hb) (fun z=>by rw [z,ha] at q; cases q)
    exact ⟨sl2,e2⟩
  · obtain ⟨o',e1⟩:=I.base.there b o q hx
    have ne:b≠a:=fun z=>by rw [z,ha] at q; cases q
    by_cases z:b∈frs (envOfC qual scope s0.heap.objs.size f cd :: outer)
    · obtain ⟨sl,e2⟩:=lf.slot b o' e1 z ne
      exact ⟨_,e2⟩
    · exact ⟨_,lf.keep b o' e1 z ne⟩
  · refine (I.hok b u e).stay (fun c v hc q=>?_) (fun c q=>q) fun c xs q=>q
    rcases hc with rfl | hc
    · exact lf.keep _ v q (trk _ u e).1 (trk _ u e).2
    · exact lf.keep _ v q (trk _ _ hc).1 (trk _ _ hc).2
theorem passE:Passes (CXE P w) (cxOf (CXE P w) P w K mg base N qual scope f cd A outer s0 H0 E) E:=by
  intro pins σ H s e s' I h
  obtain ⟨a,cls,H',rfl,os,bare,un,hok,ha,hn,hx,hE⟩:=h
  have I':=I.call' (s':=s') (ch:=[]) os un hok bare (fun b z=>absurd z (by simp))
  exact xe_of I' hx (I.fresh0 rfl ha) hn hE
end
theorem FnOk.lift {P:Program} {w:World} {K:PySem.W.Frag} {mg:Str→Option Value} {base:Heap} {CX:CXT} {k:Nat} {f:Addr} {fd:FuncData} {ps:List Str} {sp:Sp} (F:FnOk P w K mg base CX0 k f fd ps sp):FnOk P w K mg base CX k f fd ps sp :=
  ⟨F.len,fun A outer s H args us vs Q E hr e0 hb r h=>codeAny_mono (F.run A outer s H args us vs Q E hr e0 hb r h) fun r s' hq=>by
    cases r with
    | error e=>exact hq.elim
    | ok fl =>
      cases fl with
      | ret u=>exact hq
      | next=>exact hq
      | brk=>exact hq
      | cont=>exact hq⟩
theorem FnOk.orE {P:Program} {w:World} {K:PySem.W.Frag} {mg:Str→Option Value} {base:Heap} {CX:CXT} {k:Nat} {f:Addr} {fd:FuncData} {ps:List Str} {sp sp':Sp} (F:FnOk P w K mg base CX k f fd ps sp) (G:FnOk P w K mg base CX k f fd ps sp'):FnOk P w K mg base CX k f fd ps (fun vs H Q E=>sp vs H Q E∨sp' vs H Q E) :=
  ⟨fun vs H Q E h=>h.elim (F.len vs H Q E) (G.len vs H Q E),fun A outer s H args us vs Q E hr e0 hb r h=>h.elim (F.run A outer s H args us vs Q E hr e0 hb r) (G.run A outer s H args us vs Q E hr e0 hb r)⟩
section
variable {P:Program} {w:World} {K:PySem.W.Frag} {mg:Str→Option Value} {base:Heap}
theorem Fun.okE {x qual:Str} {st:Stmt} {f:Addr} {fd:FuncData} {N ps:List Str} {k:Nat} {sp:Sp} (F:Fun K x qual st f fd) (S:FnScope N ps (defScope st)) (len:∀ vs H Q E,sp vs H Q E→vs.length = ps.length)
    (hbody:∀ (cdv:Value) (A:Around) (outer:List Env) (s:Shared) (H:Hp) (vs:List V) (Q:VK) (E:XK),Room k (A.deeper (envOfC qual (defScope st) s.heap.objs.size f cdv))→sp vs H Q E →
      ∃ t,PSs (cxOf (CXE P w) P w K mg base N qual (defScope st) f cdv A outer s H E) (defBody st) t∧t { nx:=fun _ H'=>Q .non H',rt:=Q } (start N vs) H):FnOk P w K mg base (CXE P w) (k + 1) f fd ps sp:=by
  obtain ⟨oc,od,kV,doc,pm,an,cdv,ct,osl,rfl,lk,hcd⟩:=F.ex
  exact fn_of lk hcd S len fun A outer s H vs Q E hr hsp=>hbody cdv A outer s H vs Q E hr hsp
end
end L2
namespace L2
open PySem PySem.Spec PyProof.Rows
section
variable {prog:Program} {w:World} {A:Around} {E:Value→Shared→Prop} {s:Shared} {d it:Addr} {es:Array DictEntry} {ep i:Nat}
end
section
variable {X:Cx}
end
end L2
namespace L2
open PySem PySem.Spec PyProof.Rows
end L2
namespace Sen
open PySem L2 Bdd
section
variable (C:Addr)
end
end Sen
namespace L2
open PySem PySem.Spec PyProof.Rows
end L2
namespace Bdd
end Bdd
namespace Sen
open PySem L2 Bdd
section
variable (n:Nat) (rs:List Rm) (c0 c1 c2 c3:Bool)
end
section
variable {n:Nat} {rs:List Rm} {c0 c1 c2 c3:Bool}
end
section
variable (C:Addr) (K:PySem.W.Frag)
end
end Sen
namespace L2
open PySem PySem.Spec PyProof.Rows
section
variable {X:Cx}
end
section
variable {x:Str} {σ:St} {js:List Nat} {tt:TT} {te:TE} {H:Hp} {Qf:Addr→Hp→List V→Prop}
end
end L2
namespace Sen
open PySem L2 Bdd
theorem inO_sub {os ps:List Str} (h:∀ x∈os,x∈ps):∀ {s:Sn},s.inO os→s.inO ps:=fun {s} e=>(Sn.inO_iff s).mpr fun x hx=>h x ((Sn.inO_iff s).mp e x hx)
section
variable (K:PySem.W.Frag)
end
section
variable (os:List Str) (t:Nat→Bool)
end
section
variable {os:List Str} {t:Nat→Bool}
theorem natW_b {x:List Nat} {j:Nat} {v:V} (h:(natW x)[j]? = some v):∃ b,x[j]? = some b∧v = .int (b:Nat):=by
  unfold natW at h
  rw [List.getElem?_map] at h
  cases hx:x[j]? with
  | none=>rw [hx] at h; cases h
  | some b=>rw [hx] at h; exact ⟨b,rfl,(Option.some.inj h).symm⟩
theorem natW_len (x:List Nat):(natW x).length = x.length:=List.length_map _
theorem eq_natsB {K:PySem.W.Frag} {H:Hp} {n:Nat} {p q:Addr} {x y:List Nat} (hp:SqL K H p (natW x)) (hq:SqL K H q (natW y)):EqD K H (n + 1) (.ref p) (.ref q) (decide (x = y)):=by
  by_cases hl:x.length = y.length
  · have z:=EqD.ll (n:=n) (e:=fun j=>x[j]? == y[j]?) hp hq (by rw [natW_len,natW_len,hl]) fun j u v hu hv=>by
      obtain ⟨b,hb,rfl⟩:=natW_b hu
      obtain ⟨c,hc,rfl⟩:=natW_b hv
      rw [hb,hc]
      have:eqV (.int (b:Nat)) (.int (c:Nat)) = (some b == some c):=by
        show (((b:Nat):Int) == ((c:Nat):Int)) = (some b == some c)
        by_cases e:b = c
        · subst e; simp
        · have e':¬ ((b:Nat):Int) = ((c:Nat):Int):=by omega
          rw [beq_eq_false_iff_ne.mpr e',beq_eq_false_iff_ne.mpr (fun z=>e (Option.some.inj z))]
      rw [← this]
      exact .flat rfl rfl
    have e:((List.range (natW x).length).all fun j=>x[j]? == y[j]?) = decide (x = y):=by
      rw [natW_len]
      by_cases h:x = y
      · subst h
        rw [decide_eq_true rfl,List.all_eq_true]
        exact fun j _=>by simp
      · rw [decide_eq_false h]
        cases hc:(List.range x.length).all fun j=>x[j]? == y[j]? with
        | false=>rfl
        | true =>
          exfalso
          refine h (List.ext_getElem? fun j=>?_)
          by_cases hj:j < x.length
          · exact eq_of_beq (List.all_eq_true.mp hc j (List.mem_range.mpr hj))
          · rw [List.getElem?_eq_none (by omega),List.getElem?_eq_none (by omega)]
    rw [e] at z
    exact z
  · rw [decide_eq_false fun e=>hl (by rw [e])]
    exact .ln hp hq (by rw [natW_len,natW_len]; exact hl)
end
section
variable (C:Addr) (K:PySem.W.Frag)
end
section
variable {C:Addr} {K:PySem.W.Frag} {sc:Addr} {ns:List Int} {H1:Hp} {ol bk:Addr} {os:List Str} {m:Nat} {H H':Hp} {rs rs':List Rm} {F:Foot} {k0 k1 k2:Nat} {dl tl:Addr} {ds Ns js:List Nat}
end
end Sen
namespace PySem
namespace F
end F
end PySem
namespace L2
open PySem PySem.W PySem.Spec PyProof.Rows PySem.Calls PyProof.V
section
variable {prog:Program} {w:World} {A:Around} {E:Value→Shared→Prop} {s:Shared} {r l:Addr} {items:Array Value}
end
section
variable {X:Cx}
end
end L2
namespace Sen
open PySem L2 Bdd
section
variable {n:Nat} {r1 r2:List Rm}
end
section
variable (C:Addr)
end
end Sen
namespace Sen
open PySem L2 Bdd
section
variable {os:List Str}
section
end
variable {t:Nat→Bool}
end
section
variable (C:Addr)
end
end Sen
namespace L2
open PySem PySem.W PySem.Spec PyProof.Rows PySem.Calls PyProof.V
section
variable {X:Cx} {tg:Expr}
end
end L2
namespace Sen
open PySem L2 Bdd
section
variable (C:Addr) (K:PySem.W.Frag)
end
end Sen
namespace Sen
open PySem L2 Bdd
section
variable {os:List Str} {rs rs':List Rm} {k l i j:Nat} {f g h h' t t':Nat→Bool}
section
end
end
section
variable (C:Addr)
end
section
variable {C:Addr} {K:PySem.W.Frag} {sc:Addr} {ns:List Int} {H1:Hp} {ol bk:Addr} {os:List Str} {m n:Nat} {H H':Hp} {rs rs':List Rm} {F:Foot} {k0 k1 k2:Nat} {t f g:Nat→Bool}
end
end Sen
namespace Sen
open PySem L2 Bdd
section
variable {os:List Str} {t f:Nat→Bool}
end
end Sen
namespace Sen
open PySem L2 Bdd
section
variable {os ps:List Str} {t f:Nat→Bool}
section
end
end
end Sen
namespace Sen
open PySem L2 Bdd
end Sen
namespace Sen
open PySem L2 Bdd
section
variable (os:List Str) (t:Nat→Bool)
end
section
variable {os:List Str} {t f:Nat→Bool}
end
end Sen
namespace PySem
open Sem (wp)
theorem lk_zip_keys:typeLookup (.type "zip") "keys" = pure none:=by rw [typeLookup_type,builtinLookup_eq_fast]; kernel_rfl
theorem ent_zip_ga:entryFor table "zip.__getattribute__" = some Builtin.«object.__getattribute__» :=
  entryFor_alias (id' := "object.__getattribute__") (by kernel_rfl) (by first | rfl | decide +kernel | (unfold String.splitOn; simp +decide [String.splitOnAux])) (by decide +kernel) (by kernel_rfl)
abbrev ZipO (h:Heap) (z TI TO:Addr) (f0:Value) (fl:Bool):Prop :=
  h.get? z = some { cls:=.type "zip", dict:=none,data:=.fields #[f0,.bool fl,.bool false,.ref TI,.ref TO],slots:=#[] }
section
variable {prog:Program} {w:World} {A:Around} {E:Value→Shared→Prop} {h:Heap} {g:Array GenState} {d:Drawn} {t:Nat} {os:OsState} {a:Addr} {fs:Array Value} {sl:Array (Option Value)}
theorem keys_entry_zip (hh:A.handled = none) {tk:Tok} {Q:Fin→Shared→Prop} (hx:h.get? a = some { cls:=.type "zip", dict:=none,data:=.fields fs,slots:=sl })
    (hE:∀ e h' t',(∀ b o,h.get? b = some o→h'.get? b = some o)→Shared.TypeIs ⟨h',g,d,t',os⟩ (.ref e) "AttributeError" → E (.ref e) ⟨h',g,d,t',os⟩) :
    wpAny (model prog w) A (Builtin.«object.__getattribute__» ⟨[.ref a,.str "keys" tk],[]⟩) Q E ⟨h,g,d,t,os⟩:=by
  have hT:(⟨h,g,d,t,os⟩:Shared).TypeIs (.ref a) "zip" := ⟨_,hx,rfl⟩
  have f4:=lk_zip_keys
  repeat (any_goals (first | assumption | wp_step))
  have em:(Manifest.find? "zip").elim "zip" (fun x=>x.tpName) = "zip" := by rw [find?_eq_fast]; kernel_rfl
  rw [em]
  exact raise_attr hh (by decide +kernel) (by decide +kernel) hE
theorem keys_call_zip (hh:A.handled = none) {tk:Tok} {R:Result→Shared→Prop} (hx:h.get? a = some { cls:=.type "zip", dict:=none,data:=.fields fs,slots:=sl })
    (hE:∀ e h' t',(∀ b o,h.get? b = some o→h'.get? b = some o)→Shared.TypeIs ⟨h',g,d,t',os⟩ (.ref e) "AttributeError" → R (.error (.ref e)) ⟨h',g,d,t',os⟩) :
    codeAny (model prog w) A (.call (.builtin "zip.__getattribute__") ⟨[.ref a,.str "keys" tk],[]⟩) R ⟨h,g,d,t,os⟩ :=
  codeAny_call_builtin F.slot_zip_getattribute.plain ent_zip_ga (F.slot_zip_getattribute.check _ _ _ _ _ _ _ _ (show (⟨h,g,d,t,os⟩:Shared).TypeIs (.ref a) "zip" from ⟨_,hx,rfl⟩) (F.args_zip_getattribute_2 _ _) (keys_entry_zip (A:=A.in1) hh hx hE))
theorem keys_by_zip (hh:A.handled = none) {tk:Tok} {Q:Value→Shared→Prop} (hx:h.get? a = some { cls:=.type "zip", dict:=none,data:=.fields fs,slots:=sl })
    (hE:∀ e h' t',(∀ b o,h.get? b = some o→h'.get? b = some o)→Shared.TypeIs ⟨h',g,d,t',os⟩ (.ref e) "AttributeError" → E (.ref e) ⟨h',g,d,t',os⟩):wpAny (model prog w) A (getAttrBy (.ref a) (.str "keys" tk) false) Q E ⟨h,g,d,t,os⟩:=by
  have hT:(⟨h,g,d,t,os⟩:Shared).TypeIs (.ref a) "zip" := ⟨_,hx,rfl⟩
  have f2:=F.slot_zip_getattribute.lookup
  have f3:=F.slot_zip_getattribute.bind (.ref a)
  repeat (any_goals (first | assumption | wp_step))
  refine keys_call_zip hh hx fun e h' t' k ty=>?_
  show wpAny _ _ (getattributeRaised (Value.ref a) (Value.str (Str.ofString "keys") tk) (Value.type "zip") (.ref e) none false false) _ _ _
  unfold getattributeRaised
  refine wpAny_bind (wpAny_isInstance ty sub_attrE ?_)
  rw [if_pos rfl]
  have lk:hookBehind (.type "zip") none = pure none:=by
    unfold hookBehind
    rw [if_neg (by decide),typeLookup_type,builtinLookup_eq_fast]
    kernel_rfl
  rw [lk]
  refine wpAny_bind (wpAny_pure ?_)
  show wpAny _ _ (attributeErrorLeaves _ _ _ false false) _ _ _
  unfold attributeErrorLeaves
  exact wpAny_bind (wpAny_throw (hE e h' t' k ty))
theorem keys_attr_zip (hh:A.handled = none) {Q:Option Value→Shared→Prop} (hx:h.get? a = some { cls:=.type "zip", dict:=none,data:=.fields fs,slots:=sl })
    (hQ:∀ h' t',(∀ b o,h.get? b = some o→h'.get? b = some o)→Q none ⟨h',g,d,t',os⟩):wpAny (model prog w) A (getAttr? (.ref a) "keys") Q E ⟨h,g,d,t,os⟩:=by
  unfold getAttr? getAttrBy?
  refine wpAny_bind (wpAny_mkText ?_)
  refine wpAny_bind (wpAny_attempt (keys_by_zip hh hx fun e h' t' k ty=>?_))
  refine wpAny_bind (wpAny_isInstance ty sub_attrE ?_)
  exact wpAny_pure (hQ h' t' k)
end
section
variable {prog:Program} {w:World} {A:Around} {E:Value→Shared→Prop} {s:Shared}
theorem zip_held {z TI TO a0:Addr} {fl:Bool} {oA:Obj} (hz:ZipO s.heap z TI TO (rawInt a0) fl) (hA:s.heap.get? a0 = some oA):wpAny (model prog w) A (Builtin.SmallTypes.ownedTupleIsFree (.ref z)) (fun b s'=>b = false∧∃ h0,s' = { s with heap:=h0 }∧ZipO h0 z TI TO (rawInt a0) true∧Heap.SameBut z s.heap h0) E s:=by
  unfold Builtin.SmallTypes.ownedTupleIsFree
  refine wpAny_bind (wpAny_field hz rfl (x:=rawInt a0) rfl ?_)
  show wpAny _ _ (loadIfAlive ((a0:Nat):Int).toNat >>= _) _ _ _
  rw [Int.toNat_natCast]
  refine wpAny_bind (L2.wp_alive ?_)
  rw [hA]
  show wpAny _ _ (field (.ref z) 1 >>= _) _ _ _
  refine wpAny_bind (wpAny_field hz rfl (x:=.bool fl) rfl ?_)
  cases fl with
  | true=>exact wpAny_pure ⟨rfl,_,rfl,hz,Heap.SameBut.refl ..⟩
  | false =>
    refine wpAny_bind (wpAny_setField_rec hz (by simp) fun h3 he3 hs3=>?_)
    exact wpAny_pure ⟨rfl,_,rfl,he3,hs3⟩
theorem zip_more {z TI TO i1 i2 l1 l2 a0:Addr} {k1 k2:Nat} {xs ys:Array Value} {x y:Value} {fl:Bool} {oA:Obj} {Q:Option Value→Shared→Prop} (D:ZipApart z TI TO i1 i2 l1 l2)
    (hz:ZipO s.heap z TI TO (rawInt a0) fl) (hA:s.heap.get? a0 = some oA) (hTI:IsPair s.heap TI (.ref i1) (.ref i2))
    (h1:s.heap.IsListIter i1 l1 k1) (h2:s.heap.IsListIter i2 l2 k2) (hl1:s.heap.IsList l1 xs) (hl2:s.heap.IsList l2 ys) (hx:xs[k1]? = some x) (hy:ys[k2]? = some y)
    (hQ:∀ h',ZipO h' z TI TO (rawInt a0) true→h'.IsListIter i1 l1 (k1 + 1)→h'.IsListIter i2 l2 (k2 + 1)→IsPair h' s.heap.objs.size x y→h'.objs.size = s.heap.objs.size + 1 →
      (∀ c o,c≠z→c≠i1→c≠i2→s.heap.get? c = some o→h'.get? c = some o)→Q (some (.ref s.heap.objs.size)) { s with heap:=h' }) :
    wpAny (model prog w) A (pyNext (.ref z)) Q E s:=by
  have hT:s.TypeIs (.ref z) "zip" := ⟨_,hz,rfl⟩
  unfold pyNext
  refine wpAny_bind (wpAny_attempt (wpAny_callSpecial?_slot (name:=Str.ofString "__next__") hT F.slot_zip_next
    (wpAny_call_entry F.slot_zip_next hT F.entry_zip_next ?_ (F.args_zip_next_1 _))))
  show wpAny _ _ (field (.ref z) 2 >>= _) _ _ _
  refine wpAny_bind (wpAny_field hz rfl (x:=.bool false) rfl ?_)
  show wpAny _ _ (field (.ref z) 3 >>= _) _ _ _
  refine wpAny_bind (wpAny_field hz rfl (x:=.ref TI) rfl ?_)
  refine wpAny_bind (wpAny_seqItems hTI rfl ?_)
  show wpAny _ _ (Builtin.SmallTypes.ownedTupleIsFree (.ref z) >>= _) _ _ _
  refine wpAny_bind (wpAny_mono (zip_held hz hA) ?_ fun _ _ h=>h)
  rintro b s' ⟨rfl,h0,rfl,hz0,hs0⟩
  simp only [Bool.false_eq_true,if_false]
  rw [← Array.forIn_toList]
  simp only [List.forIn_cons,List.forIn_nil]
  refine wpAny_bind (wpAny_bind (wpAny_bind (wpAny_holding ?_)))
  show wpAny _ _ (Builtin.SmallTypes.nextOf (.ref i1) >>= _) _ _ _
  refine wpAny_bind (wpAny_nextOf_list_item (h1.extBut hs0.extBut D.i1z) (hl1.extBut hs0.extBut D.l1z) hx fun h₂ h1₂ hs₂=>wpAny_pure (wpAny_pure ?_))
  refine wpAny_bind (wpAny_bind (wpAny_holding ?_))
  show wpAny _ _ (Builtin.SmallTypes.nextOf (.ref i2) >>= _) _ _ _
  refine wpAny_bind (wpAny_nextOf_list_item ((h2.extBut hs0.extBut D.i2z).extBut hs₂.extBut D.i12.symm) ((hl2.extBut hs0.extBut D.l2z).extBut hs₂.extBut D.l2i1) hy fun h₄ h2₄ hs₄=>wpAny_pure (wpAny_pure (wpAny_pure ?_)))
  refine wpAny_bind (wpAny_newTuple ?_ (by show 2≤sizeLine; decide))
  have hsz:h₄.objs.size = s.heap.objs.size:=by rw [hs₄.1,hs₂.1,hs0.1]
  have hz₄:ZipO h₄ z TI TO (rawInt a0) true:=hs₄.extBut _ _ D.i2z.symm (hs₂.extBut _ _ D.i1z.symm hz0)
  refine wpAny_pure ⟨_,rfl,wpAny_pure ?_⟩
  rw [hsz]
  refine hQ _ (Heap.get?_push_of_some _ hz₄) ((h1₂.extBut hs₄.extBut D.i12).at fun o e=>Heap.get?_push_of_some _ e) (h2₄.at fun o e=>Heap.get?_push_of_some _ e) ?_ (by rw [Heap.size_push,hsz]) fun c o c1 c2 c3 e=>Heap.get?_push_of_some _ (hs₄.extBut _ _ c3 (hs₂.extBut _ _ c2 (hs0.extBut _ _ c1 e)))
  rw [← hsz]
  exact Heap.get?_push_size _ rfl
theorem zip_over {z TI TO i1 i2 l1 l2 a0:Addr} {k1:Nat} {xs:Array Value} {fl:Bool} {oA:Obj} {Q:Option Value→Shared→Prop} (hh:A.handled = none) (D:ZipApart z TI TO i1 i2 l1 l2)
    (hz:ZipO s.heap z TI TO (rawInt a0) fl) (hA:s.heap.get? a0 = some oA) (hTI:IsPair s.heap TI (.ref i1) (.ref i2))
    (h1:s.heap.IsListIter i1 l1 k1) (hl1:s.heap.IsList l1 xs) (hx:xs[k1]? = none)
    (hQ:∀ h',(∀ c o,c≠z→c≠i1→s.heap.get? c = some o→h'.get? c = some o)→Q none { s with heap:=h' }) :
    wpAny (model prog w) A (pyNext (.ref z)) Q E s:=by
  have hT:s.TypeIs (.ref z) "zip" := ⟨_,hz,rfl⟩
  unfold pyNext
  refine wpAny_bind (wpAny_attempt (wpAny_callSpecial?_slot (name:=Str.ofString "__next__") hT F.slot_zip_next
    (wpAny_call_entry F.slot_zip_next hT F.entry_zip_next ?_ (F.args_zip_next_1 _))))
  show wpAny _ _ (field (.ref z) 2 >>= _) _ _ _
  refine wpAny_bind (wpAny_field hz rfl (x:=.bool false) rfl ?_)
  show wpAny _ _ (field (.ref z) 3 >>= _) _ _ _
  refine wpAny_bind (wpAny_field hz rfl (x:=.ref TI) rfl ?_)
  refine wpAny_bind (wpAny_seqItems hTI rfl ?_)
  show wpAny _ _ (Builtin.SmallTypes.ownedTupleIsFree (.ref z) >>= _) _ _ _
  refine wpAny_bind (wpAny_mono (zip_held hz hA) ?_ fun _ _ h=>h)
  rintro b s' ⟨rfl,h0,rfl,hz0,hs0⟩
  simp only [Bool.false_eq_true,if_false]
  rw [← Array.forIn_toList]
  simp only [List.forIn_cons,List.forIn_nil]
  refine wpAny_bind (wpAny_bind (wpAny_bind (wpAny_holding ?_)))
  show wpAny _ _ (Builtin.SmallTypes.nextOf (.ref i1) >>= _) _ _ _
  refine wpAny_bind (wpAny_nextOf_list_end hh (h1.extBut hs0.extBut D.i1z) (hl1.extBut hs0.extBut D.l1z) hx fun h₂ e hs₂ he=>?_)
  obtain ⟨o,ho,hc⟩:=he
  refine wpAny_bind (wpAny_isInstance (T := "StopIteration") (b:=true) ⟨o,ho,hc⟩ isSubtype_stop ?_)
  exact wpAny_pure (hQ _ fun c o c1 c2 e=>hs₂ _ _ c2 (hs0.extBut _ _ c1 e))
end
section
variable {prog:Program} {w:World} {κ:Type} [DecidableEq κ] {knd:KeyKind prog w κ} {A:Around} {E:Value→Shared→Prop}
def ZipW (h:Heap) (z TI TO i1 i2 D:Addr) (i:Nat):Prop:=(i = 0∧IsZip h z TI TO .none)∨∃ (a0:Addr) (fl:Bool) (oA:Obj),0 < i∧ZipO h z TI TO (rawInt a0) fl∧h.get? a0 = some oA∧a0≠z∧a0≠i1∧a0≠i2∧a0≠D
theorem zipw_next {s:Shared} {z TI TO i1 i2 l1 l2 D:Addr} {i:Nat} {xs ys:Array Value} {x y:Value} {Q:Option Value→Shared→Prop} (AP:ZipApart z TI TO i1 i2 l1 l2) (hZ:ZipW s.heap z TI TO i1 i2 D i) (hTI:IsPair s.heap TI (.ref i1) (.ref i2)) (hTO:∃ u v,IsPair s.heap TO u v)
    (h1:s.heap.IsListIter i1 l1 i) (h2:s.heap.IsListIter i2 l2 i) (hl1:s.heap.IsList l1 xs) (hl2:s.heap.IsList l2 ys) (hx:xs[i]? = some x) (hy:ys[i]? = some y) (dlt:D < s.heap.objs.size)
    (hQ:∀ h',ZipW h' z TI TO i1 i2 D (i + 1)→(∃ u v,IsPair h' TO u v)→h'.IsListIter i1 l1 (i + 1)→h'.IsListIter i2 l2 (i + 1)→IsPair h' s.heap.objs.size x y →
      (∀ c o,c≠z→c≠TO→c≠i1→c≠i2→s.heap.get? c = some o→h'.get? c = some o)→Q (some (.ref s.heap.objs.size)) { s with heap:=h' }) :
    wpAny (model prog w) A (pyNext (.ref z)) Q E s:=by
  obtain ⟨u,v,hTO⟩:=hTO
  have l1':i1 < s.heap.objs.size:=by obtain ⟨_,e,_⟩:=h1; exact Heap.lt_size e
  have l2':i2 < s.heap.objs.size:=by obtain ⟨_,e,_⟩:=h2; exact Heap.lt_size e
  rcases hZ with ⟨_,hZ⟩ | ⟨a0,fl,oA,_,hZ,hA,n1,n2,n3,n4⟩
  · exact wpAny_pyNext_zip_item AP hZ hTI hTO h1 h2 hl1 hl2 hx hy fun h' b1 b2 b3 b4 b5 b6 b7=>hQ h' (.inr ⟨s.heap.objs.size,false,_,Nat.succ_pos _,b1,b5,Nat.ne_of_gt (Heap.lt_size hZ),Nat.ne_of_gt l1',Nat.ne_of_gt l2',Nat.ne_of_gt dlt⟩) ⟨_,_,b2⟩ b3 b4 b5 b7
  · exact zip_more AP hZ hA hTI h1 h2 hl1 hl2 hx hy fun h' b1 b2 b3 b4 b5 b6=>hQ h' (.inr ⟨a0,true,oA,Nat.succ_pos _,b1,b6 _ _ n1 n2 n3 hA,n1,n2,n3,n4⟩) ⟨_,_,b6 _ _ AP.TOz AP.TOi1 AP.TOi2 hTO⟩ b2 b3 b4 fun c o c1 _ c3 c4=>b6 c o c1 c3 c4
theorem upd_loopZ {R:Result→Shared→Prop} {res:Value} {D z TI TO i1 i2 l1 l2:Addr} {xs ys:Array Value} {ps:List (κ × Value)} (hh:A.handled = none) (AP:ZipApart z TI TO i1 i2 l1 l2) (hl:ps.length = xs.size) (hl2:ps.length = ys.size) (zz:ps.length≤sizeLine)
    (nD:D≠z∧D≠TI∧D≠TO∧D≠i1∧D≠i2∧D≠l1∧D≠l2) :
    ∀ (m i:Nat) (s:Shared) (kvs:List (κ × Value)),ps.length - i = m→i≤ps.length→ZipW s.heap z TI TO i1 i2 D i→IsPair s.heap TI (.ref i1) (.ref i2)→(∃ u v,IsPair s.heap TO u v)→s.heap.IsListIter i1 l1 i→s.heap.IsListIter i2 l2 i→s.heap.IsList l1 xs→s.heap.IsList l2 ys→s.heap.DictOf knd D kvs→kvs.length≤i →
    (∀ (j:Nat) k v,ps[j]? = some (k,v)→∃ key,xs[j]? = some key∧ys[j]? = some v∧knd.is k key = true) →
    (∀ h' tk,h'.DictOf knd D ((ps.drop i).foldl (fun acc kv=>stored acc kv.1 kv.2) kvs)→(∀ b o,b≠D→b≠z→b≠TO→b≠i1→b≠i2→s.heap.get? b = some o→h'.get? b = some o)→R (.ok (.ret res)) { s with heap:=h',toks:=tk }) →
    codeAny (model prog w) A (.builtin "dict.update.loop" ⟨[.ref D,.ref z,.int (i:Nat) 0,res],[]⟩) R s:=by
  obtain ⟨nz,nTI,nTO,n1,n2,m1,m2⟩:=nD
  intro m
  induction m with
  | zero =>
    intro i s kvs hk hi hZ hTI hTO hi1 hi2 hL1 hL2 hD hz hp hR
    obtain rfl:i = ps.length:=by omega
    refine codeAny_builtin entry_upd_loop ?_
    rw [Around.under_plainId plain_upd_loop _]; show wpAny _ A.in1 (pyNext (.ref z) >>= _) _ _ s
    have fin:∀ h':Heap,(∀ c o,c≠z→c≠TO→c≠i1→c≠i2→s.heap.get? c = some o→h'.get? c = some o)→R (.ok (.ret res)) { s with heap:=h' }:=fun h' e=>by
      refine hR h' s.toks ?_ fun b o _ b1 b2 b3 b4 q=>e b o b1 b2 b3 b4 q
      rw [List.drop_length]
      obtain ⟨o,es,ep,h1,h2⟩:=hD
      exact ⟨o,es,ep,e D o nz nTO n1 n2 h1,h2⟩
    obtain ⟨u,v,hTO⟩:=hTO
    have x0:xs[ps.length]? = none:=by rw [hl]; simp
    rcases hZ with ⟨_,hZ⟩ | ⟨a0,fl,oA,_,hZ,hA,_⟩
    · refine wpAny_bind (wpAny_pyNext_zip_end hh AP hZ hTI hTO hi1 hi2 hL1 hL2 (.inl x0) fun h' e=>?_)
      show wpAny _ _ (Builtin.Dict.addKeywords D [] >>= _) _ _ _
      exact wpAny_bind (wpAny_pure (wpAny_pure (fin h' e)))
    · refine wpAny_bind (zip_over hh AP hZ hA hTI hi1 hL1 x0 fun h' e=>?_)
      show wpAny _ _ (Builtin.Dict.addKeywords D [] >>= _) _ _ _
      exact wpAny_bind (wpAny_pure (wpAny_pure (fin h' fun c o c1 _ c3 _=>e c o c1 c3)))
  | succ m ih =>
    intro i s kvs hk hi hZ hTI hTO hi1 hi2 hL1 hL2 hD hz hp hR
    have lt:i < ps.length:=by omega
    obtain ⟨⟨k,v⟩,hx⟩:∃ x,ps[i]? = some x:=⟨_,List.getElem?_eq_getElem lt⟩
    obtain ⟨key,e1,e2,h4⟩:=hp i k v hx
    refine codeAny_builtin entry_upd_loop ?_
    rw [Around.under_plainId plain_upd_loop _]; show wpAny _ A.in1 (pyNext (.ref z) >>= _) _ _ s
    have dlt:D < s.heap.objs.size:=by obtain ⟨o,es,ep,a1,_⟩:=hD; exact Heap.lt_size a1
    refine wpAny_bind (zipw_next AP hZ hTI hTO hi1 hi2 hL1 hL2 e1 e2 dlt fun h' hZ' hTO' hi1' hi2' t1 kp=>?_)
    have klt:∀ b o,s.heap.get? b = some o→b≠s.heap.objs.size:=fun b o e=>Nat.ne_of_lt (Heap.lt_size e)
    refine wpAny_bind (wpAny_holding (wpAny_bind (wpAny_tryCatch ?_)))
    unfold Builtin.Dict.pairItems
    refine wpAny_bind (wpAny_typeOf (T := "tuple") ⟨_,t1,rfl⟩ ?_)
    rw [if_pos (by decide)]
    refine wpAny_bind ?_
    unfold seqItems?
    refine wpAny_bind (wpAny_load t1 ?_)
    refine wpAny_pure (wpAny_pure ?_)
    have hD':h'.DictOf knd D kvs:=by
      obtain ⟨o,es,ep,a1,a2⟩:=hD
      exact ⟨o,es,ep,kp D o nz nTO n1 n2 a1,a2⟩
    show wpAny _ _ (holding [key,v] (dictSet D key v)) _ _ _
    refine wpAny_holding (wpAny_dictSet_pairs (s:={ s with heap:=h' }) h4 hD' (fun h2' hD2 hs2=>?_) (by omega))
    refine wpAny_pure ⟨plainId_quiet plain_upd_loop _,?_⟩
    have nx:((i:Nat):Int) + 1 = ((i + 1:Nat):Int):=by omega
    show codeAny _ A (.builtin "dict.update.loop" ⟨[.ref D,.ref z,.int (((i:Nat):Int) + 1) 0,res],[]⟩) R _
    rw [nx]
    have st:∀ b o,b≠D→h'.get? b = some o→h2'.get? b = some o:=fun b o hb e=>hs2.extBut b o hb e
    have kp2:∀ b o,b≠D→b≠z→b≠TO→b≠i1→b≠i2→s.heap.get? b = some o→h2'.get? b = some o:=fun b o b0 b1 b2 b3 b4 e=>st b o b0 (kp b o b1 b2 b3 b4 e)
    refine ih (i + 1) _ (stored kvs k v) (by omega) lt ?_ ?_ ?_ ?_ ?_ ?_ ?_ hD2 ?_ hp (fun h3' tk hD3 kp3=>?_)
    · rcases hZ' with ⟨e,_⟩ | ⟨a0,fl,oA,p1,p2,p3,p4,p5,p6,p7⟩
      · omega
      · exact .inr ⟨a0,fl,oA,p1,st _ _ (Ne.symm nz) p2,st _ _ p7 p3,p4,p5,p6,p7⟩
    · exact st _ _ (Ne.symm nTI) (kp _ _ AP.TIz AP.TITO AP.TIi1 AP.TIi2 hTI)
    · obtain ⟨u,v,e⟩:=hTO'
      exact ⟨u,v,st _ _ (Ne.symm nTO) e⟩
    · exact hi1'.at fun o e=>st _ _ (Ne.symm n1) e
    · exact hi2'.at fun o e=>st _ _ (Ne.symm n2) e
    · obtain ⟨o,a1,a2⟩:=hL1
      exact ⟨o,kp2 l1 o (Ne.symm m1) AP.l1z AP.l1TO AP.l1i1 AP.l1i2 a1,a2⟩
    · obtain ⟨o,a1,a2⟩:=hL2
      exact ⟨o,kp2 l2 o (Ne.symm m2) AP.l2z AP.l2TO AP.l2i1 AP.l2i2 a1,a2⟩
    · unfold stored
      split
      · rw [List.length_map]; omega
      · rw [List.length_append]; simp; omega
    · refine hR h3' tk ?_ fun b o b0 b1 b2 b3 b4 e=>kp3 b o b0 b1 b2 b3 b4 (kp2 b o b0 b1 b2 b3 b4 e)
      rw [List.drop_eq_getElem_cons lt]
      obtain ⟨_,e⟩:=List.getElem?_eq_some_iff.mp hx
      rw [e]
      exact hD3
end
end PySem
namespace L2
open PySem PySem.Spec PyProof.Rows
section
variable {X:Cx}
def tDz (K:PySem.W.Frag) (ta:TA):TE:=fun σ H Q=>ta σ H fun vs H1=>∃ (a b:Addr) (ks:List Key) (vs':List V),vs = [.ref a,.ref b]∧SqL K H1 a (ks.map kV)∧SqL K H1 b vs'∧ks.length = vs'.length∧∀ d,H1 d = none→Q (.ref d) (upd H1 d (.dK (mergeK [] (ks.zip vs'))))
theorem pe_dictZip {l m:Expr} {ta:TA} {p p' pos pos':Pos} (hc:X.calm = true) (hg:Gl X "zip") (hm:X.mg "zip" = none) (hg2:Gl X "dict") (hm2:X.mg "dict" = none) (ha:PA X [l,m] ta) (hs:starEach [l,m] X.env = [(false,eval l X.env),(false,eval m X.env)]:=by rfl) (hs2:starEach [m] X.env = [(false,eval m X.env)]:=by rfl)
    (hs3:starEach [.Call (.Name "zip" p) [l,m] [] pos] X.env = [(false,eval (.Call (.Name "zip" p) [l,m] [] pos) X.env)]:=by rfl) :
    PE X (.Call (.Name "dict" p') [.Call (.Name "zip" p) [l,m] [] pos] [] pos') (tDz X.K ta):=by
  intro pins s σ H Q I h
  refine wpAny_Call_Name_kw (ld_blt I hg2 hm2 bt_dict ?_ (by decide) (by decide))
  refine PyProof.Rows.callWith_type1 ?_ hs3 rfl
  rw [hs3]
  show wpAny _ _ (spliced ((false,eval (.Call (.Name "zip" p) [l,m] [] pos) X.env) :: [])) _ _ s
  refine Calls.spliced_cons ?_
  refine Call_ (ld_blt I hg hm boot_zip (PyProof.Rows.callWith_type1 (thn (ha pos pins s σ H _ I h) fun us s1 ⟨vs,H1,I1,r1,q1⟩=>?_) (by rw [hs,hs2]) (by rw [hs2]; rfl)))
  obtain ⟨a,b,ks,vs',e,hq1,hq2,hlen,q⟩:=q1
  subst e
  obtain ⟨u,v,rfl,ru,rv⟩:=vals2 r1
  cases ru
  cases rv
  obtain ⟨its1,rv1,pl1,hz1⟩:=I1.list hq1
  obtain ⟨its2,rv2,pl2,hz2⟩:=I1.list hq2
  have la:a < s1.heap.objs.size:=by obtain ⟨_,e,_⟩:=pl1.isList; exact Heap.lt_size e
  have lb:b < s1.heap.objs.size:=by obtain ⟨_,e,_⟩:=pl2.isList; exact Heap.lt_size e
  have ln1:=rv1.length
  have ln2:=rv2.length
  rw [List.length_map] at ln1 hz1
  refine call_zip_2 pl1.isList pl2.isList fun h1 hz hti hto it1 it2 hsz hk=>?_
  have pr:∃ rs:List (Key × Value),KV (ks.zip vs') rs∧∀ (j:Nat) k v,rs[j]? = some (k,v)→∃ key,its1.toArray[j]? = some key∧its2.toArray[j]? = some v∧(mixKind X.prog X.w).is k key = true:=by
    clear hq1 hq2 q hz1 hz2 ln1 ln2 hlen it1 it2 hz hti hto hk hsz h1 la lb pl1 pl2
    induction ks generalizing its1 its2 vs' with
    | nil=>exact ⟨[],.nil,fun j k v e=>by cases e⟩
    | cons k ks ih =>
      cases rv1 with
      | @cons _ u1 _ us1 a1 rv1' =>
        cases vs' with
        | nil=>exact ⟨[],.nil,fun j k v e=>by cases e⟩
        | cons v vs' =>
          cases rv2 with
          | @cons _ u2 _ us2 a2 rv2' =>
            obtain ⟨rs,r1,r2⟩:=ih vs' us1 rv1' us2 rv2'
            refine ⟨(k,u2) :: rs,.cons ⟨rfl,a2⟩ r1,fun j k' v' e=>?_⟩
            cases j with
            | zero=>cases e; exact ⟨u1,rfl,rfl,kV_is a1⟩
            | succ j =>
              obtain ⟨key,b1,b2,b3⟩:=r2 j k' v' e
              exact ⟨key,by simpa using b1,by simpa using b2,b3⟩
  obtain ⟨rs,kv,r2⟩:=pr
  have lr:(ks.zip vs').length = rs.length:=Paired.length kv
  have lz:(ks.zip vs').length = ks.length:=by rw [List.length_zip]; omega
  refine Calls.spliced_nil ?_
  have nn:∀ x:Nat,x < s1.heap.objs.size + 5→h1.objs.size≠x:=fun x hx=>Nat.ne_of_gt (by rw [hsz]; exact hx)
  have hbig:(h1.objs.size == sysModules) = false:=beq_eq_false_iff_ne.mpr (Ne.symm (Nat.ne_of_lt (Nat.lt_of_lt_of_le I1.big (by rw [hsz]; exact Nat.le_add_right _ _))))
  refine callType_codes (Q₁:=fun obj s₁=>obj = .ref h1.objs.size∧s₁ = { s1 with heap:=h1.push { cls:=.type "dict", data:=.dict #[] } }) F.kt_called_dict (F.kt_typeCall_dict_1 _) F.entry_dict_init (kt_code_dict_new _ ⟨rfl,rfl⟩) ?_
  rintro obj s₁ ⟨rfl,rfl⟩
  have hnew:(h1.push { cls:=.type "dict", data:=.dict #[] }).DictOf (mixKind X.prog X.w) h1.objs.size []:=Heap.DictOf.new h1
  have kp:∀ b o,h1.get? b = some o→(h1.push { cls:=.type "dict", data:=.dict #[] }).get? b = some o:=fun b o e=>Heap.get?_push_of_some _ e
  refine ⟨hnew.typeIs,F.args_dict_init_2 _ _,?_⟩
  unfold Builtin.«dict.__init__»; refine wpAny_bind ?_
  unfold Builtin.Dict.selfAndRest; refine wpAny_bind (wpAny_notOrdered_dict hnew.typeIs ?_)
  show wpAny _ _ (pure (h1.objs.size,[Value.ref (s1.heap.objs.size + 4)])) _ _ _
  refine wpAny_pure ?_
  show wpAny _ _ (Builtin.Dict.updateFrom "dict.__init__" h1.objs.size (.ref (s1.heap.objs.size + 4)) [] .none) _ _ { s1 with heap:=h1.push { cls:=.type "dict", data:=.dict #[] } }
  generalize h1.push { cls:=.type "dict", data:=.dict #[] } = h2 at hnew kp
  have hz':=kp _ _ hz
  unfold Builtin.Dict.updateFrom; refine wpAny_bind (wpAny_typeOf (T := "zip") ⟨_,hz',rfl⟩ ?_)
  rw [if_pos (by decide)]
  refine wpAny_bind (keys_attr_zip (A:=X.A.in1.in1) (h:=h2) (g:=s1.gens) (d:=s1.drawn) (t:=s1.toks) (os:=s1.os) (I1.ok.hd hc) hz' fun h3 t3 k3=>?_)
  refine wpAny_bind (m:=rule _) (wpAny_rule ?_)
  refine wpAny_bind (wpAny_pyIter_zip (s:=⟨h3,s1.gens,s1.drawn,t3,s1.os⟩) (k3 _ _ hz') ?_)
  have k13:∀ b o,h1.get? b = some o→h3.get? b = some o:=fun b o e=>k3 _ _ (kp _ _ e)
  refine wpAny_pure ⟨plainId_quiet plain_upd_loop _,?_⟩
  obtain ⟨oD,esD,epD,aD,bD⟩:=hnew
  refine upd_loopZ (A:=X.A.in1) (knd:=mixKind X.prog X.w) (D:=h1.objs.size) (z:=s1.heap.objs.size + 4) (TI:=s1.heap.objs.size + 2) (TO:=s1.heap.objs.size + 3) (i1:=s1.heap.objs.size) (i2:=s1.heap.objs.size + 1) (l1:=a) (l2:=b) (xs:=its1.toArray) (ys:=its2.toArray) (ps:=rs) (I1.ok.hd hc) (zipApart_new la lb) (by simp; omega) (by simp; omega) (by omega)
    ⟨nn _ (Nat.add_lt_add_left (by decide) _),nn _ (Nat.add_lt_add_left (by decide) _),nn _ (Nat.add_lt_add_left (by decide) _),nn _ (Nat.lt_add_of_pos_right (by decide)),nn _ (Nat.add_lt_add_left (by decide) _),nn _ (Nat.lt_of_lt_of_le la (Nat.le_add_right _ _)),nn _ (Nat.lt_of_lt_of_le lb (Nat.le_add_right _ _))⟩ rs.length 0 _ [] rfl (Nat.zero_le _) (.inl ⟨rfl,k13 _ _ hz⟩) (k13 _ _ hti) ⟨_,_,k13 _ _ hto⟩ (it1.at fun o e=>k13 _ _ e) (it2.at fun o e=>k13 _ _ e) (pl1.isList.at fun o e=>k13 _ _ (hk _ _ e)) (pl2.isList.at fun o e=>k13 _ _ (hk _ _ e)) ⟨oD,esD,epD,k3 _ _ aD,bD⟩ (Nat.zero_le _) r2 (fun h' tk hD kp'=>?_)
  have kk:∀ b o,s1.heap.get? b = some o→h'.get? b = some o:=fun b o e=>by
    have hb:b < s1.heap.objs.size:=Heap.lt_size e
    have h0:∀ x:Nat,s1.heap.objs.size≤x→b≠x:=fun x hx=>Nat.ne_of_lt (Nat.lt_of_lt_of_le hb hx)
    exact kp' b o (h0 _ (by rw [hsz]; exact Nat.le_add_right _ _)) (h0 _ (Nat.le_add_right _ _)) (h0 _ (Nat.le_add_right _ _)) (h0 _ (Nat.le_refl _)) (h0 _ (Nat.le_add_right _ _)) (k13 _ _ (hk _ _ e))
  refine ⟨rfl,.ref h1.objs.size,_,I1.laid (a:=h1.objs.size) (o:=.dK (mergeK [] (ks.zip vs'))) (t':=tk) kk (by rw [hsz]; exact Nat.le_add_right _ _) ?_,rfl,q _ (I1.hok.fresh (by rw [hsz]; exact Nat.le_add_right _ _))⟩
  have lm:=length_mergeK (ks.zip vs') []
  exact dk_new (by simp at lm; omega) hbig (KV.merge kv .nil) hD
end
end L2
namespace Sen
open PySem L2 Bdd
section
end
section
end
end Sen
namespace L2
open PySem
section
variable {K:PySem.W.Frag} {σ:St} {js:List Nat} {tt:TT} {te:TE} {H:Hp} {Qf:Addr→Hp→List V→Prop}
open Sen
theorem lc_listC {a:Addr} {xs:List V} (Pv:Nat→List V→Hp→Prop) (h0:Pv 0 [] H) (hz:xs.length≤sizeLine)
    (hl:∀ i ys H,i≤xs.length→Pv i ys H→SqL K H a xs∧ys.length≤i)
    (hs:∀ i x ys H (Q:V→Hp→Prop),xs[i]? = some x→Pv i ys H→(∀ v H3,Pv (i + 1) (ys ++ [v]) H3→Q v H3)→te (lcS σ js (some x)) H Q)
    (hd:∀ ys H p,Pv xs.length ys H→H p = none→Qf p H ys) :
    ∃ W:Nat→Nat→List V→Hp→Prop,(∃ m,W 0 m [] H)∧∀ i m ys H,W i m ys H →
      ((Itl K a).stop i H∧∀ p,H p = none→Qf p H ys) ∨
      ((Itl K a).go i H∧ys.length < sizeLine∧∀ x H',(Itl K a).yld i H x H'→tYes (lcS σ js (some x)) H' fun b H2 =>
        if b = true then te (lcS σ js (some x)) H2 fun v H3=>∃ m',m' < m∧W (i + 1) m' (ys ++ [v]) H3 else ∃ m',m' < m∧W (i + 1) m' ys H2):=by
  refine ⟨fun i m ys H=>m = xs.length - i∧i≤xs.length∧Pv i ys H,⟨xs.length,by simp,Nat.zero_le _,h0⟩,?_⟩
  rintro i m ys H ⟨rfl,hi,p⟩
  obtain ⟨q,hy⟩:=hl i ys H hi p
  by_cases hlt:i < xs.length
  · refine .inr ⟨⟨xs,xs[i],q,by simp [hlt]⟩,by omega,fun x H' y=>?_⟩
    obtain ⟨e,y⟩:=y
    subst e
    show te (lcS σ js (some x)) H' fun v H3=>∃ m',m' < xs.length - i∧(m' = xs.length - (i + 1)∧i + 1≤xs.length∧Pv (i + 1) (ys ++ [v]) H3)
    exact hs i x ys _ _ (y xs q) p fun v H3 h3=>⟨_,Nat.sub_lt_sub_left hlt (Nat.lt_succ_self i),rfl,hlt,h3⟩
  · have e:i = xs.length:=by omega
    subst e
    exact .inl ⟨⟨xs,q,Nat.le_refl _⟩,fun pp hp=>hd ys H pp p hp⟩
end
end L2
namespace Sen
open PySem L2 Bdd
theorem valV_mz {ks:List Str} {vs:List V} (nd:ks.Nodup):∀ {j:Nat} {x:Str} {v:V},ks[j]? = some x→vs[j]? = some v→valV (mergeK [] ((ks.map fun x=>(Sum.inr x:Key)).zip vs)) (Sum.inr x:Key) = some v:=by
  have key:∀ (ks:List Str) (vs:List V) (acc:List (Key × V)),ks.Nodup→(∀ (j:Nat) (x:Str) (v:V),ks[j]? = some x→vs[j]? = some v→valV (mergeK acc ((ks.map fun x=>(Sum.inr x:Key)).zip vs)) (Sum.inr x:Key) = some v)∧∀ x:Str,x ∉ ks→valV (mergeK acc ((ks.map fun x=>(Sum.inr x:Key)).zip vs)) (Sum.inr x:Key) = valV acc (Sum.inr x:Key):=by
    intro ks
    induction ks with
    | nil=>exact fun vs acc _=>⟨fun j x v e=>by simp at e,fun x _=>rfl⟩
    | cons y ks ih =>
      intro vs acc nd
      cases vs with
      | nil=>exact ⟨fun j x v _ e=>by simp at e,fun x _=>rfl⟩
      | cons u vs =>
        obtain ⟨n1,n2⟩:=List.nodup_cons.mp nd
        obtain ⟨i1,i2⟩:=ih vs (putK acc (Sum.inr y) u) n2
        refine ⟨fun j x v e1 e2=>?_,fun x hx=>?_⟩
        · cases j with
          | zero =>
            cases e1; cases e2
            refine (i2 y n1).trans ?_
            rw [valV_put,if_pos rfl]
          | succ j=>exact i1 j x v (by simpa using e1) (by simpa using e2)
        · have hx':¬ (x = y∨x∈ks):=fun z=>hx (List.mem_cons.mpr z)
          refine (i2 x fun z=>hx' (.inr z)).trans ?_
          rw [valV_put,if_neg fun z=>hx' (.inl (by injection z))]
  intro j x v e1 e2
  exact (key ks vs [] nd).1 j x v e1 e2
section
variable (K:PySem.W.Frag)
end
end Sen
namespace Bdd
open Sen
end Bdd
namespace Sen
open PySem L2 Bdd
end Sen
namespace Sen
open PySem L2 Bdd
section
variable {os:List Str} {t t' f:Nat→Bool}
end
section
variable {C:Addr} {K:PySem.W.Frag} {sc:Addr} {ns:List Int} {H1:Hp} {ol bk:Addr} {os:List Str} {m:Nat} {H H':Hp} {rs rs':List Rm} {F:Foot}
end
theorem lc_roomsC {σ:St} {js:List Nat} {te:TE} {H:Hp} {Qf:Addr→Hp→List V→Prop} {os:List Str} {rs:List Rm} {n:Nat} (hn:n≤rs.length) (hz:n≤sizeLine)
    (hte:∀ (i:Nat) H' (Q:V→Hp→Prop) x,i < n→rs[i]? = some x→Same H H'→(∀ v H3,Same H' H3→RoomV os H3 x v→Q v H3)→te (lcS σ js (some (.int ((0:Int) + i)))) H' Q)
    (hd:∀ ys H' p,Same H H'→ys.length = n→RoomsV os H' rs ys→H' p = none→Qf p H' ys) :
    ∃ W:Nat→Nat→List V→Hp→Prop,(∃ m,W 0 m [] H)∧∀ i m ys H,W i m ys H →
      ((Itr 0 n).stop i H∧∀ p,H p = none→Qf p H ys) ∨
      ((Itr 0 n).go i H∧ys.length < sizeLine∧∀ x H',(Itr 0 n).yld i H x H'→tYes (lcS σ js (some x)) H' fun b H2 =>
        if b = true then te (lcS σ js (some x)) H2 fun v H3=>∃ m',m' < m∧W (i + 1) m' (ys ++ [v]) H3 else ∃ m',m' < m∧W (i + 1) m' ys H2):=by
  refine ⟨fun i m ys H'=>m = n - i∧i≤n∧Same H H'∧ys.length = i∧RoomsV os H' rs ys,⟨n,by simp,Nat.zero_le _,Same.refl _,rfl,Nat.zero_le _,fun j v e=>by simp at e⟩,?_⟩
  rintro i m ys H1 ⟨rfl,hi,g,ly,r⟩
  by_cases hlt:i < n
  · refine .inr ⟨hlt,by omega,fun x H' y=>?_⟩
    obtain ⟨e,y⟩:=y
    subst e y
    obtain ⟨x,hx⟩:∃ x,rs[i]? = some x:=⟨_,List.getElem?_eq_getElem (by omega)⟩
    refine hte i _ _ x hlt hx g fun v H3 g3 rv=>⟨_,Nat.sub_lt_sub_left hlt (Nat.lt_succ_self i),rfl,hlt,g.trans g3,by rw [List.length_append,ly]; rfl,by rw [List.length_append,ly]; show i + 1≤_; omega,fun j u hj=>?_⟩
    by_cases hj':j < ys.length
    · rw [List.getElem?_append_left hj'] at hj
      obtain ⟨x',a1,a2⟩:=r.2 j u hj
      exact ⟨x',a1,a2.mono (Tups.of g3)⟩
    · rw [List.getElem?_append_right (by omega)] at hj
      have hj0:j - ys.length = 0:=by
        have:=(List.getElem?_eq_some_iff.mp hj).1
        rw [List.length_singleton] at this
        omega
      rw [hj0] at hj
      have ev:v = u:=Option.some.inj hj
      have ej:j = i:=by omega
      rw [← ev,ej]
      exact ⟨x,hx,rv⟩
  · have e:i = n:=by omega
    subst e
    exact .inl ⟨Nat.le_refl _,fun l hl=>hd ys _ l g ly r hl⟩
end Sen
namespace Sen
open PySem L2 Bdd
section
variable {os:List Str} {t f:Nat→Bool}
end
section
variable {os:List Str} {t f g:Nat→Bool}
end
section
variable {os:List Str} {t f g g':Nat→Bool}
end
section
variable {os:List Str} {t f:Nat→Bool}
end
theorem lc_truesC {σ:St} {js:List Nat} {te:TE} {H:Hp} {Qf:Addr→Hp→List V→Prop} {n:Nat} (hz:n≤sizeLine)
    (hte:∀ (i:Nat) H' (Q:V→Hp→Prop),i < n→Same H H'→(∀ H3,Same H' H3→Q (.bl true) H3)→te (lcS σ js (some (.int ((0:Int) + i)))) H' Q)
    (hd:∀ H' p,Same H H'→H' p = none→Qf p H' ((List.replicate n true).map V.bl)) :
    ∃ W:Nat→Nat→List V→Hp→Prop,(∃ m,W 0 m [] H)∧∀ i m ys H,W i m ys H →
      ((Itr 0 n).stop i H∧∀ p,H p = none→Qf p H ys) ∨
      ((Itr 0 n).go i H∧ys.length < sizeLine∧∀ x H',(Itr 0 n).yld i H x H'→tYes (lcS σ js (some x)) H' fun b H2 =>
        if b = true then te (lcS σ js (some x)) H2 fun v H3=>∃ m',m' < m∧W (i + 1) m' (ys ++ [v]) H3 else ∃ m',m' < m∧W (i + 1) m' ys H2):=by
  refine ⟨fun i m ys H'=>m = n - i∧i≤n∧Same H H'∧ys = (List.replicate i true).map V.bl,⟨n,by simp,Nat.zero_le _,Same.refl _,rfl⟩,?_⟩
  rintro i m ys H1 ⟨rfl,hi,g,rfl⟩
  by_cases hlt:i < n
  · refine .inr ⟨hlt,by rw [List.length_map,List.length_replicate]; omega,fun x H' y=>?_⟩
    obtain ⟨e,y⟩:=y
    subst e y
    refine hte i _ _ hlt g fun H3 g3=>⟨_,Nat.sub_lt_sub_left hlt (Nat.lt_succ_self i),rfl,hlt,g.trans g3,?_⟩
    rw [List.replicate_succ',List.map_append]
    rfl
  · have e:i = n:=by omega
    subst e
    exact .inl ⟨Nat.le_refl _,fun l hl=>hd _ l g hl⟩
theorem all_trues (n:Nat):(List.replicate n true).all id = true:=by
  rw [List.all_eq_true]
  intro x hx
  exact (List.mem_replicate.mp hx).2
end Sen
namespace L2
open PySem PySem.Spec PyProof.Rows
section
variable {X:Cx}
end
section
variable {K:PySem.W.Frag} {σ:St} {js:List Nat} {te:TE} {H:Hp} {Qf:Addr→Hp→List V→Prop}
open Sen
end
end L2
namespace Sen
open PySem L2 Bdd
section
variable (C:Addr) (K:PySem.W.Frag)
end
end Sen
namespace Sen
open PySem L2 Bdd
section
variable {os:List Str} {t f:Nat→Bool}
end
end Sen
namespace Sen
open PySem L2 Bdd
end Sen
namespace L2
open PySem PySem.Spec PyProof.Rows
section
variable {X:Cx}
end
end L2
namespace L2
open PySem
section
variable {K:PySem.W.Frag} {σ:St} {js:List Nat} {te:TE} {H:Hp} {Qf:Addr→Hp→List V→Prop}
theorem lc_truesL {a:Addr} {xs:List V} (hq:SqL K H a xs) (hz:xs.length≤sizeLine)
    (hs:∀ (i:Nat) x H' (Q:V→Hp→Prop),xs[i]? = some x→Same H H'→(∀ H3,Same H' H3→Q (.bl true) H3)→te (lcS σ js (some x)) H' Q)
    (hd:∀ H' p,Same H H'→H' p = none→Qf p H' ((List.replicate xs.length true).map V.bl)) :
    ∃ W:Nat→Nat→List V→Hp→Prop,(∃ m,W 0 m [] H)∧∀ i m ys H,W i m ys H →
      ((Itl K a).stop i H∧∀ p,H p = none→Qf p H ys) ∨
      ((Itl K a).go i H∧ys.length < sizeLine∧∀ x H',(Itl K a).yld i H x H'→tYes (lcS σ js (some x)) H' fun b H2 =>
        if b = true then te (lcS σ js (some x)) H2 fun v H3=>∃ m',m' < m∧W (i + 1) m' (ys ++ [v]) H3 else ∃ m',m' < m∧W (i + 1) m' ys H2):=by
  refine lc_listC (xs:=xs) (fun i ys H'=>Same H H'∧ys = (List.replicate i true).map V.bl) ⟨Same.refl _,rfl⟩ hz ?_ ?_ ?_
  · rintro i ys H' hi ⟨g,rfl⟩
    exact ⟨g.seq hq,by rw [List.length_map,List.length_replicate]; exact Nat.le_refl _⟩
  · rintro i x ys H' Q0 hx ⟨g,rfl⟩ hQ
    refine hs i x H' Q0 hx g fun H3 g3=>hQ _ _ ⟨g.trans g3,?_⟩
    rw [List.replicate_succ',List.map_append]
    rfl
  · rintro ys H' p ⟨g,rfl⟩ hp
    exact hd H' p g hp
end
end L2
namespace Sen
open PySem L2 Bdd
end Sen
namespace L2
open PySem PySem.Spec PyProof.Rows
section
variable {X:Cx} {pins:List (Addr × Obj)} {σ:St} {H:Hp} {s:Shared}
end
end L2
namespace L2
open PySem
theorem lc_rngC {σ:St} {js:List Nat} {te:TE} {H:Hp} {Qf:Addr→Hp→List V→Prop} {n:Nat} (Pv:Nat→List V→Hp→Prop) (h0:Pv 0 [] H) (hz:n≤sizeLine) (hl:∀ i ys H,i≤n→Pv i ys H→ys.length≤i)
    (hs:∀ (i:Nat) ys H (Q:V→Hp→Prop),i < n→Pv i ys H→(∀ v H3,Pv (i + 1) (ys ++ [v]) H3→Q v H3)→te (lcS σ js (some (.int ((0:Int) + i)))) H Q)
    (hd:∀ ys H p,Pv n ys H→H p = none→Qf p H ys) :
    ∃ W:Nat→Nat→List V→Hp→Prop,(∃ m,W 0 m [] H)∧∀ i m ys H,W i m ys H →
      ((Itr 0 n).stop i H∧∀ p,H p = none→Qf p H ys) ∨
      ((Itr 0 n).go i H∧ys.length < sizeLine∧∀ x H',(Itr 0 n).yld i H x H'→tYes (lcS σ js (some x)) H' fun b H2 =>
        if b = true then te (lcS σ js (some x)) H2 fun v H3=>∃ m',m' < m∧W (i + 1) m' (ys ++ [v]) H3 else ∃ m',m' < m∧W (i + 1) m' ys H2):=by
  refine ⟨fun i m ys H=>m = n - i∧i≤n∧Pv i ys H,⟨n,by simp,Nat.zero_le _,h0⟩,?_⟩
  rintro i m ys H ⟨rfl,hi,p⟩
  have hy:=hl i ys H hi p
  by_cases hlt:i < n
  · refine .inr ⟨hlt,by omega,fun x H' y=>?_⟩
    obtain ⟨e,y⟩:=y
    subst e y
    exact hs i ys _ _ hlt p fun v H3 h3=>⟨_,Nat.sub_lt_sub_left hlt (Nat.lt_succ_self i),rfl,hlt,h3⟩
  · have e:i = n:=by omega
    subst e
    exact .inl ⟨Nat.le_refl _,fun pp hp=>hd ys H pp p hp⟩
end L2
namespace Bdd
section
variable {ws:List Wg}
section
variable {n:Nat} {rs:List Rm} (B:Bk n rs)
include B
end
section
variable {n:Nat} {rs:List Rm} (B:Bk n rs)
include B
end
end
end Bdd
namespace Sen
open PySem L2 Bdd
section
variable (C:Addr) (K:PySem.W.Frag)
end
end Sen
namespace L2
open PySem PySem.Spec PyProof.Rows
structure XCls (K:PySem.W.Frag) (D:Addr):Prop where
  ga:PySem.W.findIn K (.ref D) "__getattribute__" = some (some (.builtin "BaseException.__getattribute__"))
  gt:PySem.W.findIn K (.ref D) "__getattr__" = some none
  ca:PySem.W.findIn K (.ref D) "__class__" = some (some (.builtin "object.__class__"))
  bx:PySem.W.mroIn K D (.type "BaseException") = some true
  ob:PySem.W.mroIn K D (.type "object") = some true
  cl:(PySem.W.clsIn K D).isSome = true
theorem slot_bexc_ga:Slot "BaseException" "__getattribute__" "BaseException.__getattribute__" :=
  .of (owner := "BaseException") (n := "__getattribute__") (by rw [typeLookup_type,builtinLookup_eq_fast]; kernel_rfl) (by decide +kernel) (by decide +kernel) (by decide +kernel)
    (by first | exact .inl (by decide +kernel) | exact .inr (by decide +kernel)) (by rw [isSubtype_type]; kernel_rfl)
section
variable {prog:Program} {w:World} {A:Around} {E:Value→Shared→Prop} {h:Heap} {g:Array GenState} {d:Drawn} {t:Nat} {os:OsState} {a D:Addr} {o:Obj} {K:PySem.W.Frag}
theorem class_entry_exc {tk:Tok} {Q:Fin→Shared→Prop} (X:K.In h) (c:XCls K D) (I:PySem.W.InstAt h a o D none) (hq:Q (.done (.ret (.ref D))) ⟨h,g,d,t,os⟩) :
    wpAny (model prog w) A (Builtin.«object.__getattribute__» ⟨[.ref a,.str "__class__" tk],[]⟩) Q E ⟨h,g,d,t,os⟩:=by
  have hT5:(⟨h,g,d,t,os⟩:Shared).TypeIs (.builtin "object.__class__") "getset_descriptor" := F.typeOf_object_class
  have f5:=F.typeOf_object_class
  have f6:=F.slot_gs_get.lookup
  have f7:=F.slot_gs_set.lookup
  have hx:=I.at_
  have hc:=I.cls
  have L1:=PySem.W.looks_findIn (M:=model prog w) X c.ca
  repeat (any_goals (first | assumption | (with_reducible refine wpAny_loadPart_at hx ?_; rw [hc]) | with_reducible refine L1.at ?_ | wp_step))
  refine PySem.W.class_get (s:=⟨h,g,d,t,os⟩) X I c.ob ?_
  repeat (any_goals (first | assumption | wp_step))
theorem check_ga_exc {M:Model} {nameV:Value} {Q:Unit→Shared→Prop} (X:K.In h) (c:XCls K D) (I:PySem.W.InstAt h a o D none) (hq:Q () ⟨h,g,d,t,os⟩):wpAny M A (checkBuiltinCall "BaseException.__getattribute__" ⟨[.ref a,nameV],[]⟩) Q E ⟨h,g,d,t,os⟩:=by
  have hk:builtinKind "BaseException.__getattribute__" = some .slot:=by decide +kernel
  have hsplit:splitId "BaseException.__getattribute__" = some ("BaseException", "__getattribute__"):=by decide +kernel
  have ha:=F.args_bexc_ga (.ref a) nameV
  have hx:=I.at_
  have hc:=I.cls
  have L1:=PySem.W.looks_mroIn (M:=M) X c.bx
  simp only [checkBuiltinCall,hk,hsplit]
  refine wpAny_bind ?_
  · unfold isInstance
    repeat (first | (with_reducible refine wpAny_loadPart_at hx ?_; rw [hc]) | with_reducible refine L1.at ?_ | wp_step)
    exact hq
theorem class_call_exc {tk:Tok} {R:Result→Shared→Prop} (X:K.In h) (c:XCls K D) (I:PySem.W.InstAt h a o D none) (hq:R (.ok (.ret (.ref D))) ⟨h,g,d,t,os⟩) :
    codeAny (model prog w) A (.call (.builtin "BaseException.__getattribute__") ⟨[.ref a,.str "__class__" tk],[]⟩) R ⟨h,g,d,t,os⟩ :=
  codeAny_call_builtin slot_bexc_ga.plain F.entry_bexc_ga (check_ga_exc X c I (class_entry_exc X c I hq))
theorem class_by_exc {tk:Tok} {Q:Value→Shared→Prop} (X:K.In h) (c:XCls K D) (I:PySem.W.InstAt h a o D none) (hq:Q (.ref D) ⟨h,g,d,t,os⟩):wpAny (model prog w) A (getAttrBy (.ref a) (.str "__class__" tk) false) Q E ⟨h,g,d,t,os⟩:=by
  have f3:=slot_bexc_ga.bind (.ref a)
  have hx2:(Value.builtin "BaseException.__getattribute__" == Value.builtin "object.__getattribute__") = false:=by decide +kernel
  have hx1:(onTheHeap (Value.ref D) && Value.builtin "BaseException.__getattribute__" == Value.builtin "object.__getattribute__") = false:=by rw [hx2]; rfl
  have hx:=I.at_
  have hc:=I.cls
  have L1:=PySem.W.looks_findIn (M:=model prog w) X c.ga
  have L2:=PySem.W.looks_findIn (M:=model prog w) X c.gt
  repeat (any_goals (first | assumption | (with_reducible refine wpAny_loadPart_at hx ?_; rw [hc]) | with_reducible refine L1.at ?_ | with_reducible refine L2.at ?_ | wp_step))
  refine class_call_exc X c I ?_
  repeat (any_goals (first | assumption | wp_step))
theorem class_attr_exc {Q:Option Value→Shared→Prop} (X:K.In h) (c:XCls K D) (I:PySem.W.InstAt h a o D none) (hq:Q (some (.ref D)) ⟨h,g,d,t + 1,os⟩):wpAny (model prog w) A (getAttr? (.ref a) "__class__") Q E ⟨h,g,d,t,os⟩:=by
  unfold getAttr? getAttrBy?
  repeat (any_goals (first | assumption | with_reducible apply class_by_exc X c I | wp_step))
end
theorem kitx_exc {K:PySem.W.Frag} {a D:Addr} (c:XCls K D):PySem.W.KitX K (.ref a) (.ref D) (fun h=>∃ o,PySem.W.InstAt h a o D none) where
  ty:=fun _ _ _ ⟨_,I⟩=>I.type
  it:=fun _ _ X _=>by
    obtain ⟨cdD,hcD⟩:=Option.isSome_iff_exists.mp c.cl
    unfold PySem.W.clsIn at hcD
    split at hcD
    · rename_i c' d' cd' sl' ho
      intro A' Q' E' s' k q
      unfold isType loadHead
      exact wpAny_bind (wpAny_loadPart (k _ _ (X _ _ ho)) (wpAny_pure q))
    · cases hcD
  ne:=fun h tp dd its n sl X htp=>by
    obtain ⟨cdD,hcD⟩:=Option.isSome_iff_exists.mp c.cl
    refine Bool.eq_false_iff.mpr fun q=>?_
    have e:D = tp:=Value.ref.inj (beq_iff_eq.mp q)
    subst e
    unfold PySem.W.clsIn at hcD
    split at hcD
    · rename_i c' d' cd' sl' ho
      have z:=(X _ _ ho).symm.trans htp
      cases z
    · cases hcD
  ca:=fun {_ _ _ _ _ s} X ⟨o,I⟩ k=>by
    obtain ⟨h,g,d,t,os⟩:=s
    exact class_attr_exc X c I k
end L2
namespace L2
open PySem PySem.Spec PyProof.Rows
def excO (a D:Addr):HO:=.ext fun h=>∃ o vs,PySem.W.InstAt h a o D none∧o.data = .fields vs∧vs[2]? = some .none
theorem InstAt.none_ {h:Heap} {a D:Addr} {o:Obj} (e:h.get? a = some o) (hc:o.cls = .ref D) (hd:o.dict = none) (hn:PySem.W.notCls o = true):PySem.W.InstAt h a o D none :=
  ⟨e,hc,hn,by rw [hd]; trivial⟩
theorem excO_ok {P:Program} {w:World} {H:Hp} {h:Heap} {a D:Addr} (hx:ExcO h a (.ref D)):ObjOk P w H h a (excO a D):=by
  obtain ⟨oe,vs,he,hc,hdn,hd,h2,_⟩:=hx
  refine ⟨⟨oe,vs,InstAt.none_ he hc hdn ?_,hd,h2⟩,⟨_,he⟩,fun h1 h2 ⟨o,vs,I,q1,q2⟩ k=>⟨o,vs,⟨k o I.at_,I.cls,I.no,?_⟩,q1,q2⟩⟩
  · obtain ⟨c,dd,dt,sl⟩:=oe
    cases hd
    rfl
  · have:=I.dict
    revert this
    cases o.dict <;> exact fun z=>z
theorem Rd.exc {P:Program} {w:World} {H:Hp} {h:Heap} {a D:Addr} (ok:HOk P w H h) (e:H a = some (excO a D)):∃ o vs,PySem.W.InstAt h a o D none∧o.data = .fields vs∧vs[2]? = some .none:=(ok a _ e).1
structure Fly (X:Cx) (pins:List (Addr × Obj)) (H:Hp) (s:Shared) (a:Addr) (cls:Value):Prop where
  exc:ExcO s.heap a cls
  hn:H a = none
  s0:X.s₀.heap.get? a = none
  loc:a≠X.env.locals
  cell:∀ x c,X.env.cells.lookup x = some c→c≠a
  pin:∀ p∈X.pn ++ pins,p.1≠a
  st:a ∉ frs X.stack
section
variable {X:Cx} {pins:List (Addr × Obj)} {σ:St} {H H':Hp} {s s':Shared} {a:Addr} {cls:Value}
theorem Inv.fly (I:Inv X pins σ H s) (hex:X.ex = []) (hn:s.heap.get? a = none) (hn':H' a = none) (hx:ExcO s'.heap a cls):Fly X pins H' s' a cls where
  exc:=hx
  hn:=hn'
  s0:=I.fresh0 hex hn
  loc:=fun z=>by
    obtain ⟨m,⟨o,_,_,ho,_⟩,_⟩:=I.loc
    rw [← z,hn] at ho; cases ho
  cell:=fun x c e z=>by
    obtain ⟨v,o,ho,_⟩:=I.cell x c e
    rw [z,hn] at ho; cases ho
  pin:=fun p hp z=>by
    have:=(I.pin p hp).1
    rw [z,hn] at this; cases this
  st:=fun z=>by
    obtain ⟨_,o,ho,_⟩:=I.stack.mem z
    rw [hn] at ho; cases ho
theorem Inv.left {h':Heap} (I:Inv X pins σ H s) (f:Fly X pins H s a cls) (lf:LeftS X.stack a cls s.heap h'):Inv X pins σ H { s with heap:=h' }:=by
  have nst:∀ b,b≠X.env.locals→b ∉ X.fs→b ∉ frs X.stack:=fun b h1 h2 z=>(List.mem_cons.mp (I.stkSub b z)).elim h1 h2
  have upto:∀ b o,s.heap.get? b = some o→b≠a→∃ sl,h'.get? b = some { o with slots:=sl }:=fun b o e ne=>by
    by_cases z:b∈frs X.stack
    · exact lf.slot b o e z ne
    · exact ⟨o.slots,lf.keep b o e z ne⟩
  have cellK:∀ x c,X.env.cells.lookup x = some c→∀ v,s.heap.IsCell c v→h'.IsCell c v:=fun x c e v ⟨o,ho,hd⟩=>by
    obtain ⟨sl,q⟩:=upto c o ho (f.cell x c e)
    exact ⟨_,q,hd⟩
  have ne0:∀ b o,X.s₀.heap.get? b = some o→b≠a:=fun b o e z=>by rw [z,f.s0] at e; cases e
  refine ⟨I.ok,I.os,I.bare,⟨fun b o e n hb hx=>?_,fun b o e n hb hx=>?_,I.base.free,fun b o e hx=>?_,I.base.tups,I.base.frzs,I.base.tbls⟩,?_,fun x c e=>?_,I.free,I.freeC,fun p hp=>?_,fun b u e=>?_,I.len⟩
  · exact lf.keep b o (I.base.keep b o e n hb hx) (nst b (Nat.ne_of_lt (Nat.lt_of_lt_of_le (Heap.lt_size e) I.ok.above)) hb) (ne0 b o e)
  · obtain ⟨sl,e1⟩:=I.base.slot b o e n hb hx
    obtain ⟨sl2,e2⟩:=upto b _ e1 (ne0 b o e)
    exact ⟨sl2,e2⟩
  · obtain ⟨o',e1⟩:=I.base.there b o e hx
    obtain ⟨sl2,e2⟩:=upto b _ e1 (ne0 b o e)
    exact ⟨_,e2⟩
  · obtain ⟨m,⟨o,es,ep,ho,r⟩,hl⟩:=I.loc
    obtain ⟨sl,q⟩:=upto _ o ho (Ne.symm f.loc)
    refine ⟨m,⟨_,es,ep,q,r⟩,fun i x v e1 e2 e3=>?_⟩
    obtain ⟨u,r,l⟩:=hl i x v e1 e2 e3
    refine ⟨u,r,?_⟩
    rcases l with l | ⟨k,c,e,z⟩
    · exact .inl l
    · exact .inr ⟨k,c,e,cellK x c e _ z⟩
  · obtain ⟨v,z⟩:=I.cell x c e
    exact ⟨v,cellK x c e v z⟩
  · obtain ⟨e,n,ne,nf,d⟩:=I.pin p hp
    exact ⟨lf.keep p.1 p.2 e (nst p.1 ne nf) (f.pin p hp),n,ne,nf,d⟩
  · have tr:∀ b u,H b = some u→b ∉ frs X.stack∧b≠a:=fun b u e=>⟨(fun z=>by rw [I.stkFree b z] at e; cases e),(fun z=>by rw [z,f.hn] at e; cases e)⟩
    refine (I.hok b u e).stay (fun c v hc q=>?_) (fun c q=>q) fun c xs q=>q
    rcases hc with rfl | hc
    · exact lf.keep _ v q (tr _ u e).1 (tr _ u e).2
    · exact lf.keep _ v q (tr _ _ hc).1 (tr _ _ hc).2
theorem Inv.trackX {D:Addr} (I:Inv X pins σ H s) (f:Fly X pins H s a (.ref D)):Inv X pins σ (upd H a (excO a D)) s:=by
  have ne0:∀ b o,X.s₀.heap.get? b = some o→b≠a:=fun b o e z=>by rw [z,f.s0] at e; cases e
  have neH:∀ b u,H b = some u→b≠a:=fun b u e z=>by rw [z,f.hn] at e; cases e
  refine ⟨I.ok,I.os,I.bare,⟨I.base.keep,I.base.slot,fun b o e n hx=>?_,I.base.there,fun b xs e=>?_,fun b o u e=>?_,fun b ps e=>?_⟩,I.loc,I.cell,?_,fun x c e=>?_,fun p hp=>?_,fun b u e=>?_,I.len⟩
  · rw [upd_ne (ne0 b o e)]; exact I.base.free b o e n hx
  · have:=I.base.tups b xs e
    rw [upd_ne (neH b _ this)]; exact this
  · have:=I.base.frzs b o u e
    rw [upd_ne (neH b _ this)]; exact this
  · obtain ⟨m,this⟩:=I.base.tbls b ps e
    exact ⟨m,by rw [upd_ne (neH b _ this)]; exact this⟩
  · rw [upd_ne (Ne.symm f.loc)]; exact I.free
  · rw [upd_ne (f.cell x c e)]; exact I.freeC x c e
  · obtain ⟨e,n,ne,nf,d⟩:=I.pin p hp
    exact ⟨e,by rw [upd_ne (f.pin p hp)]; exact n,ne,nf,d⟩
  · by_cases z:b = a
    · subst z
      rw [upd_same] at e; cases e
      exact excO_ok f.exc
    · rw [upd_ne z] at e
      refine (I.hok b u e).stay (fun c v _ q=>q) (fun c q=>?_) fun c xs q=>?_
      · rw [upd_ne (neH c _ q)]; exact q
      · rw [upd_ne (neH c _ q)]; exact q
end
abbrev XR:=Value→St→Hp→Prop
def XP (X:Cx) (pins:List (Addr × Obj)) (R:XR) (e:Value) (s':Shared):Prop:=∃ a cls σ H',e = .ref a∧Inv X pins σ H' s'∧Fly X pins H' s' a cls∧R cls σ H'
abbrev TEx:=St→Hp→VK→(Value→Hp→Prop)→Prop
abbrev TSx:=Ends→XR→St→Hp→Prop
def PEx (X:Cx) (e:Expr) (t:TEx):Prop :=
  ∀ (pins:List (Addr × Obj)) (s:Shared) (σ:St) (H:Hp) (Q:VK) (R:Value→Hp→Prop),Inv X pins σ H s→t σ H Q R→wpAny (model X.prog X.w) X.A (eval e X.env) (EP X pins σ Q) (XP X pins fun cls σ' H'=>σ' = σ∧R cls H') s
def PS1x (X:Cx) (st:Stmt) (t:TSx):Prop :=
  ∀ (pins:List (Addr × Obj)) (s:Shared) (σ:St) (H:Hp) (D:Ends) (R:XR),Inv X pins σ H s→t D R σ H→wpAny (model X.prog X.w) X.A (exec st X.env) (SP X pins D) (XP X pins R) s
def PSx (X:Cx) (st:List Stmt) (t:TSx):Prop :=
  ∀ (pins:List (Addr × Obj)) (s:Shared) (σ:St) (H:Hp) (D:Ends) (R:XR),Inv X pins σ H s→t D R σ H→wpAny (model X.prog X.w) X.A (execs st X.env) (SP X pins D) (XP X pins R) s
section
variable {X:Cx} {e:Expr} {te:TE} {tx:TEx} {st:Stmt} {rest:List Stmt} {ts:TS} {t u:TSx} {pos pos':Pos}
def xDrop (tx:TEx):TSx:=fun D R σ H=>tx σ H (fun _ H1=>D.nx σ H1) fun cls H'=>R cls σ H'
theorem psx_expr (he:PEx X e tx) (hs:swapsWith e none pos.line X.env = pure false:=by rfl):PS1x X (.Expr e pos) (xDrop tx):=by
  intro pins s σ H D R I h
  refine wpAny_Expr_any (wpAny_mono (he pins s σ H _ _ I h) (fun v s1 ⟨x,H1,I1,r1,q1⟩=>⟨σ,H1,I1,q1⟩) fun v s1 ⟨a,cls,σ',H',e1,I1,f,e2,q⟩=>?_) I.quiet hs
  subst e2
  exact ⟨a,cls,_,H',e1,I1,f,q⟩
def xSet (i:Nat) (tx:TEx):TSx:=fun D R σ H=>tx σ H (fun v H1=>D.nx (σ.set i (some v)) H1) fun cls H'=>R cls σ H'
theorem psx_set {i:Nat} {x:Str} (hN:X.N.Nodup) (hi:X.N[i]? = some x) (hx:Loc X.env.scope x) (he:PEx X e tx) (hs:swapsWith e (some (.Name x pos')) pos.line X.env = pure false:=by rfl) (hf:X.fn x = true∨X.env.scope.names.lookup x = some .local:=by first | exact .inl rfl | exact .inr rfl | assumption) :
    PS1x X (.Assign [.Name x pos'] e pos) (xSet i tx):=by
  intro pins s σ H D R I h
  refine wpAny_Assign_Name (wpAny_mono (he pins s σ H _ _ I h) (fun v s1 ⟨y,H1,I1,r1,q1⟩=>?_) fun v s1 ⟨a,cls,σ',H',e1,I1,f,e2,q⟩=>?_) hs
  · exact store_ok I1 hN hi hx r1 (fun s2 I2=>⟨_,H1,I2,q1⟩) hf
  · subst e2
    exact ⟨a,cls,_,H',e1,I1,f,q⟩
theorem psxs_one (h1:PS1x X st t):PSx X [st] t:=by
  intro pins s σ H D R I h
  refine wpAny_execs_cons (thn (h1 pins s σ H D R I h) fun f s1 q=>?_)
  cases f with
  | next=>exact wpAny_execs_nil q
  | ret v=>exact q
  | brk=>exact q
  | cont=>exact q
end
section
variable {X:Cx} {k:Nat} {f C:Addr} {fd:FuncData} {ps:List Str} {sp:Sp} {dvs:List V} {ds:List Value} {x m:Str} {p pos apos:Pos} {e o:Expr} {es:List Expr} {ta:TE} {t:TA}
theorem xp_of {pins:List (Addr × Obj)} {σ:St} {H:Hp} {s s':Shared} {ev:Value} {R:Value→Hp→Prop} (hex:X.ex = []) (I:Inv X pins σ H s) (h:CXE X.prog X.w X.stack H s (fun cls _ H'=>R cls H') ev s') :
    XP X pins (fun cls σ' H'=>σ' = σ∧R cls H') ev s':=by
  obtain ⟨a,cls,H',rfl,os,bare,un,hok,ha,hn,hx,hE⟩:=h
  exact ⟨a,cls,σ,H',rfl,I.call' (s':=s') (ch:=[]) os un hok bare (fun b z=>absurd z (by simp)),I.fly hex ha hn hx,rfl,hE⟩
theorem run_fnx {pins:List (Addr × Obj)} {σ:St} {H:Hp} {s:Shared} {Q:VK} {R:Value→Hp→Prop} {us:List Value} {vs:List V} (F:FnOk X.prog X.w X.K X.mg X.base (CXE X.prog X.w) k f fd ps sp) (hr:Room k X.A) (hb:Binds X.K fd ps ds) (hd:Vals dvs ds) (hex:X.ex = [])
    (I:Inv X pins σ H s) (r:Vals vs us) (h:sp (vs ++ dvs) H Q fun cls _ H'=>R cls H'):wpAny (model X.prog X.w) X.A (call (.ref f) us) (EP X pins σ Q) (XP X pins fun cls σ' H'=>σ' = σ∧R cls H') s:=by
  have r2:Vals (vs ++ dvs) (us ++ ds):=r.append hd
  have hl:(us ++ ds).length = ps.length:=by rw [← r2.length]; exact F.len _ _ _ _ h
  refine wpAny_call (codeAny_mono (F.run X.A X.stack s H ⟨us,[]⟩ (us ++ ds) (vs ++ dvs) Q _ hr I.env0 (hb s us I.kIn hl) r2 h) fun r s' hq=>?_)
  cases r with
  | error e=>exact xp_of hex I hq
  | ok fl =>
    cases fl with
    | ret u=>exact I.after hq
    | next=>exact False.elim hq
    | brk=>exact False.elim hq
    | cont=>exact False.elim hq
def xCall (sp:Sp) (dvs:List V) (t:TA):TEx:=fun σ H Q R=>t σ H fun vs H1=>sp (vs ++ dvs) H1 Q fun cls _ H'=>R cls H'
theorem args_nox {α:Type} {pins:List (Addr × Obj)} {σ:St} {H:Hp} {s:Shared} {Qn:List V→Hp→Prop} {Q:List Value→Shared→Prop} {E:Value→Shared→Prop} {cpos:Pos} (ha:PA X.nox es t) (I:Inv X pins σ H s) (h:t σ H Qn)
    (hf:∀ us s1 vs H1,Inv X pins σ H1 s1→Vals vs us→Qn vs H1→Q us s1):wpAny (model X.prog X.w) X.A (spliced (backTo cpos (starEach es X.env))) Q E s :=
  wpAny_mono (ha cpos pins s σ H Qn (I.wish _) h) (fun us s1 ⟨vs,H1,I1,r,q⟩=>hf us s1 vs H1 I1.unwish r q) fun _ _ z=>False.elim z
theorem pex_call (F:FnOk X.prog X.w X.K X.mg X.base (CXE X.prog X.w) k f fd ps sp) (hr:Room k X.A) (hg:Gl X x) (hm:X.mg x = some (.ref f)) (hk:PySem.W.keepIn X.K (.ref f) = true) (hb:Binds X.K fd ps ds) (hd:Vals dvs ds) (hex:X.ex = [])
    (ha:PA X.nox (e :: es) t) (hdb:(x == ("__debug__" : Str)) = false:=by decide) (he:starEach (e :: es) X.env = (false,eval e X.env) :: starEach es X.env:=by rfl) (hpl:(backTo pos (starEach es X.env)).any (·.1) = false:=by rfl) :
    PEx X (.Call (.Name x p) (e :: es) [] pos) (xCall sp dvs t):=by
  intro pins s σ H Q R I h
  refine wpAny_Call_Name_kw (ld_glob I hg hm ?_ hdb)
  refine PySem.W.callWith_K (h₀:=X.base) I.ok.mod.kin hk (args_nox (α:=Unit) ha I h fun us s1 vs H1 I1 r q=>⟨I1.kIn,?_⟩) he hpl
  exact run_fnx F hr hb hd hex I1 r q
end
end L2
namespace L2
open PySem PySem.Spec PyProof.Rows
abbrev Cx.suite (X:Cx) (a:Addr):Cx:={ X with A:=X.A.mark (some (.ref a)),calm:=false,xe:=fun _ _=>False }
section
variable {X:Cx} {pins:List (Addr × Obj)} {σ:St} {H:Hp} {s:Shared} {a:Addr}
theorem Inv.suite (I:Inv X pins σ H s) (a:Addr):Inv (X.suite a) pins σ H s :=
  ⟨⟨I.ok.mod,I.ok.kind,I.ok.glob,I.ok.blt,I.ok.above,I.ok.inj,I.ok.has,I.ok.cab,(fun z=>nomatch z),I.ok.frames,I.ok.stk,I.ok.exf,I.ok.bs,I.ok.bsz,I.ok.noex,I.ok.exfs,I.ok.funs,I.ok.frf⟩,I.os,I.bare,I.base,I.loc,I.cell,I.free,I.freeC,I.pin,I.hok,I.len⟩
theorem Inv.unsuite (ok:X.Ok) (I:Inv (X.suite a) pins σ H s):Inv X pins σ H s :=
  ⟨ok,I.os,I.bare,I.base,I.loc,I.cell,I.free,I.freeC,I.pin,I.hok,I.len⟩
theorem goes_ok {M:Model} {A:Around} {E:Value→Shared→Prop} {i:Nat} {n:Str} {pos:Pos} {Q:Unit→Shared→Prop} (I:Inv X pins σ H s) (hN:X.N.Nodup) (hi:X.N[i]? = some n) (hk:X.env.kindOf n = some .local)
    (h:∀ s',Inv X pins (σ.set i none) H s'→Q () s'):wpAny M A (do bindName X.env n .none; unbindBehindTheSuite X.env n pos) Q E s:=by
  obtain ⟨m,hn,hl⟩:=id I.loc
  have hcls:(X.env.scope.kind == .class || (X.env.scope.kind == .module && X.env.locals != X.env.globals)) = false:=by rw [I.ok.kind]; rfl
  have hiσ:i < σ.length:=by rw [I.len]; exact (List.getElem?_eq_some_iff.mp hi).1
  have cne:=I.cne
  refine wpAny_nameGoes_keeps hk hn hcls fun h' v hn' hs=>?_
  obtain ⟨oL,_,_,hoL,_⟩:=id hn
  have hok:HOk X.prog X.w H h':=fun b ob e=>by
    refine (I.hok b ob e).stay (fun c w' hc q=>(hs.2 c ?_).trans q) (fun _ q=>q) fun _ _ q=>q
    rintro rfl
    rcases hc with z | hc
    · rw [← z,I.free] at e; cases e
    · rw [I.free] at hc; cases hc
  refine h _ ⟨I.ok,I.os,I.bare,⟨fun b o e n hb hx=>?_,fun b o e n hb hx=>?_,I.base.free,fun b o e hx=>?_,I.base.tups,I.base.frzs,I.base.tbls⟩,⟨_,hn',fun j y v' e1 e2 e3=>?_⟩,fun y c e=>?_,I.free,I.freeC,fun p hp=>?_,hok,by simpa using I.len⟩
  · exact (hs.2 b (Nat.ne_of_lt (Nat.lt_of_lt_of_le (Heap.lt_size e) I.ok.above))).trans (I.base.keep b o e n hb hx)
  · obtain ⟨sl,e1⟩:=I.base.slot b o e n hb hx
    exact ⟨sl,(hs.2 b (Nat.ne_of_lt (Nat.lt_of_lt_of_le (Heap.lt_size e) I.ok.above))).trans e1⟩
  · obtain ⟨o',e1⟩:=I.base.there b o e hx
    exact ⟨o',(hs.2 b (Nat.ne_of_lt (Nat.lt_of_lt_of_le (Heap.lt_size e) I.ok.above))).trans e1⟩
  · by_cases hj:j = i
    · subst hj
      rw [List.getElem?_set_self hiσ] at e2
      cases e2
    · rw [List.getElem?_set_ne (Ne.symm hj)] at e2
      obtain ⟨u',r',q⟩:=hl j y v' e1 e2 e3
      refine ⟨u',r',?_⟩
      rcases q with ⟨k,e⟩ | ⟨k,c,e,z⟩
      · refine .inl ⟨k,?_⟩
        have:y≠n:=fun e=>hj (nodup_ix hN e1 (e ▸ hi))
        simp [this,e]
      · exact .inr ⟨k,c,e,z.sameBut hs (cne y c e)⟩
  · obtain ⟨w',z⟩:=I.cell y c e
    exact ⟨w',z.sameBut hs (cne y c e)⟩
  · obtain ⟨e,n,ne,nf,d⟩:=I.pin p hp
    exact ⟨(hs.2 p.1 ne).trans e,n,ne,nf,d⟩
end
def tTry (K:PySem.W.Frag) (B:Addr) (i:Nat) (tb:TSx) (ts:Addr→TS):TS:=fun D σ H=>tb D (fun cls σ' H'=>∃ C,cls = .ref C∧PySem.W.exmOne K (.ref C) (.ref B) = some true∧∀ a,H' a = none →
  ts a { nx:=fun σ2 H2=>D.nx (σ2.set i none) H2,rt:=D.rt,bk:=fun σ2 H2=>D.bk (σ2.set i none) H2,ct:=fun σ2 H2=>D.ct (σ2.set i none) H2 } (σ'.set i (some (.ref a))) (upd H' a (excO a C))) σ H
section
variable {X:Cx} {i:Nat} {n y:Str} {B:Addr} {body suite:List Stmt} {b₀:Stmt} {tb:TSx} {ts:Addr→TS} {np hp pos:Pos}
theorem met_ok {pins:List (Addr × Obj)} {σ:St} {H:Hp} {s:Shared} {D:Ends} {R:XR} {ev:Value} (hst:X.stack = X.env :: X.outer) (hfr:X.env.frame = some X.env.locals) (hs:∀ a,PSs (X.suite a) (b₀ :: suite) (ts a)) (hg:Gl X y) (hm:X.mg y = some (.ref B))
    (hN:X.N.Nodup) (hi:X.N[i]? = some n) (hk:X.env.kindOf n = some .local)
    (hx:XP X pins (fun cls σ' H'=>∃ C,cls = .ref C∧PySem.W.exmOne X.K (.ref C) (.ref B) = some true∧∀ a,H' a = none →
      ts a { nx:=fun σ2 H2=>D.nx (σ2.set i none) H2,rt:=D.rt,bk:=fun σ2 H2=>D.bk (σ2.set i none) H2,ct:=fun σ2 H2=>D.ct (σ2.set i none) H2 } (σ'.set i (some (.ref a))) (upd H' a (excO a C))) ev s)
    (hdb:(y == ("__debug__" : Str)) = false:=by decide) :
    wpAny (model X.prog X.w) X.A (noteFrame ev X.env) (fun _ s₂=>wpAny (model X.prog X.w) X.A (setFlight ev none) (fun _ s₃=>wpAny (model X.prog X.w) X.A (handleBy ev X.env [.ExceptHandler (some (.Name y np)) (some n) (b₀ :: suite) hp]) (SP X pins D) X.xe s₃) X.xe s₂) X.xe s:=by
  obtain ⟨a,cls,σ,H,rfl,I,fl,C,rfl,hex,hq⟩:=hx
  refine note_s (base:=X.base) (outer:=X.outer) (L:=X.env.locals) (by rw [← hst]; exact I.ok.frames) (by rw [← hst]; exact I.stack) hfr fl.exc fun h' lf=>?_
  rw [← hst] at lf
  have I1:=I.left fl lf
  have fl1:Fly X pins H { s with heap:=h' } a (.ref C):=⟨lf.exc,fl.hn,fl.s0,fl.loc,fl.cell,fl.pin,fl.st⟩
  refine wpAny_handleBy_cons (codeAny_handlers_test (ld_glob (X:=X.suite a) (I1.suite a) hg hm ?_ hdb)) (by intro q; cases q)
  have LT:PySem.W.Looks (model X.prog X.w) h' (typeOf (.ref a)) (.ref C):=by
    obtain ⟨oe,vs,he,hc,_⟩:=lf.exc
    exact hc ▸ (PySem.W.Looks.ld he).andThen .now
  refine (PySem.W.exm_one I1.kIn LT hex) _ _ _ _ (fun _ _ e=>e) ?_
  refine codeAny_handlers_suite_as ?_
  refine land_s fl1.exc fun h2 k2=>?_
  have I2:Inv X pins σ H { s with heap:=h2 }:=I1.kept (t':=s.toks) fun b u q=>(k2 b).trans q
  have fl2:Fly X pins H { s with heap:=h2 } a (.ref C):=⟨fl1.exc.same k2,fl.hn,fl.s0,fl.loc,fl.cell,fl.pin,fl.st⟩
  have I3:=(I2.trackX fl2).suite a
  refine store_ok (X:=X.suite a) (v:=.ref a) I3 hN hi (.inl hk) rfl (fun s4 I4=>?_) (.inr hk)
  refine wpAny_mono (hs a pins s4 _ _ _ I4 (hq a fl.hn)) (fun f s5 hf=>?_) fun _ _ z=>False.elim z
  have fin:∀ {σ2:St} {H2:Hp},Inv (X.suite a) pins σ2 H2 s5→∀ Q:Unit→Shared→Prop,(∀ s',Inv X pins (σ2.set i none) H2 s'→Q () s')→wpAny (model X.prog X.w) X.A (do bindName X.env n .none; unbindBehindTheSuite X.env n hp) Q X.xe s5 :=
    fun J Q hQ=>goes_ok (J.unsuite I.ok) hN hi hk hQ
  cases f with
  | next=>obtain ⟨σ2,H2,J,q⟩:=hf; exact fin J _ fun s' I'=>⟨_,_,I',q⟩
  | brk=>obtain ⟨σ2,H2,J,q⟩:=hf; exact fin J _ fun s' I'=>⟨_,_,I',q⟩
  | cont=>obtain ⟨σ2,H2,J,q⟩:=hf; exact fin J _ fun s' I'=>⟨_,_,I',q⟩
  | ret u=>obtain ⟨v,σ2,H2,J,r,q⟩:=hf; exact fin J _ fun s' I'=>⟨v,_,_,I',r,q⟩
theorem ps_try (hst:X.stack = X.env :: X.outer) (hfr:X.env.frame = some X.env.locals) (hb:PSx X body tb) (hs:∀ a,PSs (X.suite a) (b₀ :: suite) (ts a)) (hg:Gl X y) (hm:X.mg y = some (.ref B))
    (hN:X.N.Nodup) (hi:X.N[i]? = some n) (hk:X.env.kindOf n = some .local) (hdb:(y == ("__debug__" : Str)) = false:=by decide) :
    PS X (.Try body [.ExceptHandler (some (.Name y np)) (some n) (b₀ :: suite) hp] [] [] pos) (tTry X.K B i tb ts):=by
  intro pins s σ H D I h
  refine wpAny_Try_except (wpAny_mono (hb pins s σ H _ _ I h) (fun f s1 q=>?_) fun e s1 q=>met_ok (σ:=σ) (H:=H) (R:=fun _ _ _=>True) hst hfr hs hg hm hN hi hk q hdb)
  cases f with
  | next=>exact wpAny_execs_nil q
  | ret v=>exact q
  | brk=>exact q
  | cont=>exact q
end
end L2
namespace L2
open PySem PySem.Spec PyProof.Rows
abbrev bmVE:List Value:=[.type "ValueError", .type "Exception", .type "BaseException", .type "object"]
def OwnVE (K:PySem.W.Frag) (C:Addr):Prop:=PySem.W.excIn K C bmVE "ValueError.__new__" = true
theorem own_obj {K:PySem.W.Frag} {h:Heap} {C:Addr} {bmB:List Value} {newId:String} (X:K.In h) (q:PySem.W.excIn K C bmB newId = true):∃ bm N nm q bs hdct sn sub ab col dd k0 k1 k2 k3 k5 mN,h.get? C = some (excClassObj nm q C N bs bm hdct sn sub ab col dd k0 k1 k2 k3 k5 newId)∧h.Ns N mN∧mN "__init__" = none∧OwnTail h bmB bm:=by
  unfold PySem.W.excIn at q
  split at q
  · rename_i dd cd sl ho
    split at q
    · rename_i C' bm k0 k1 k2 k3 n k5 hm hs
      simp only [Bool.and_eq_true,beq_iff_eq,Bool.not_eq_true'] at q
      obtain ⟨⟨⟨⟨⟨rfl,rfl⟩,hdel⟩,ht⟩,hok⟩,hni⟩:=q
      obtain ⟨nm,bs,mro,ns,qn,hd,sn,sub,ab,col,del⟩:=cd
      dsimp only at hm hdel hok hni
      subst hm hdel
      have hsl:sl = #[k0,k1,k2,k3,some (.builtin n),k5]:=by
        obtain ⟨l⟩:=sl
        simp only at hs
        rw [hs]
      subst hsl
      exact ⟨bm,ns,nm,qn,bs,hd,sn,sub,ab,col,dd,k0,k1,k2,k3,k5,_,X _ _ ho,.of_isNs (PySem.W.isNs_of_in X hok),PySem.W.nsMap_none_of_in X hok hni,PySem.W.tail_of_in X ht⟩
    · cases q
  · cases q
theorem ObjOk.get {P:Program} {w:World} {H:Hp} {h:Heap} {a:Addr} {o:HO} (x:ObjOk P w H h a o):∃ ob,h.get? a = some ob:=by
  cases o with
  | lst xs=>obtain ⟨_,_,_,_,e⟩:=x; exact ⟨_,e⟩
  | tup xs=>obtain ⟨_,_,_,ob,e,_⟩:=x; exact ⟨_,e⟩
  | dK kvs=>obtain ⟨_,_,_,_,o,_,_,e,_⟩:=x; exact ⟨_,e⟩
  | dT kvs=>obtain ⟨_,_,_,_,o,_,_,e,_⟩:=x; exact ⟨_,e⟩
  | set S n=>obtain ⟨o,_,_,_,e,_⟩:=x; exact ⟨_,e⟩
  | ins C dx fs=>obtain ⟨_,_,_,e,_⟩:=x; exact ⟨_,e⟩
  | own y=>obtain ⟨_,e⟩:=x; exact ⟨_,e⟩
  | xd fs=>obtain ⟨_,⟨_,_,_,e,_⟩,_⟩:=x; exact ⟨_,e⟩
  | rng lo hi=>obtain ⟨_,_,_,e⟩:=x; exact ⟨_,e⟩
  | frz ob u=>obtain ⟨e,_⟩:=x; exact ⟨_,e⟩
  | tbl ps=>exact ⟨_,(show h.get? a = some _ from x)⟩
  | met f y=>exact ⟨_,(show h.get? a = some _ from x)⟩
  | ext φ=>obtain ⟨_,⟨_,e⟩,_⟩:=x; exact ⟨_,e⟩
theorem HOk.off {P:Program} {w:World} {H:Hp} {h:Heap} {a:Addr} (x:HOk P w H h) (e:h.get? a = none):H a = none:=by
  cases q:H a with
  | none=>rfl
  | some u =>
    obtain ⟨ob,z⟩:=(x a u q).get
    rw [e] at z; cases z
def Raises (X:Cx) (E:XK):Prop:=∀ (pins:List (Addr × Obj)) (σ:St) (H:Hp) (s:Shared) (a:Addr) (cls:Value),Inv X pins σ H s→ExcO s.heap a cls→X.s₀.heap.get? a = none→H a = none→E cls none H→X.xe (.ref a) s
def tRaise (C:Addr) (E:XK) (t:TA):TS:=fun _ σ H=>t σ H fun vs H1=>vs.length≤sizeLine∧E (.ref C) none H1
theorem raisesE {P:Program} {w:World} {K:PySem.W.Frag} {mg:Str→Option Value} {base:Heap} {N:List Str} {qual:Str} {scope:Scope} {f:Addr} {cd:Value} {A:Around} {outer:List Env} {s0:Shared} {H0:Hp} {E:XK} :
    Raises (cxOf (CXE P w) P w K mg base N qual scope f cd A outer s0 H0 E) E:=fun pins σ H s a cls I hx ha hn hE=>xe_of I hx ha hn hE
section
variable {X:Cx} {C:Addr} {E:XK} {x:Str} {e₀:Expr} {rest:List Expr} {t:TA} {np cpos pos:Pos}
theorem ps_raise (hc:X.calm = true) (hex:X.ex = []) (own:OwnVE X.K C) (hg:Gl X x) (hm:X.mg x = some (.ref C)) (hE:Raises X E) (ha:PA X (e₀ :: rest) t)
    (hd:(x == ("__debug__" : Str)) = false:=by decide) (he:starEach (e₀ :: rest) X.env = (false,eval e₀ X.env) :: starEach rest X.env:=by rfl) (hplain:(backTo cpos (starEach rest X.env)).any (·.1) = false:=by rfl) :
    PS X (.Raise (some (.Call (.Name x np) (e₀ :: rest) [] cpos)) none pos) (tRaise C E t):=by
  intro pins s σ H D I h
  obtain ⟨tl,N,nm,q,bs,hdct,sn,sub,ab,col,dd,k0,k1,k2,k3,k5,mN,hC,hN,hni,T⟩:=own_obj I.mod.kin own
  have FB:=PySem.F.excBase_ValueError
  refine wpAny_Raise_call_subT (C:=C) (nm:=nm) (q:=q) (N:=N) (bs:=bs) (bm:=tl) (hdct:=hdct) (sn:=sn) (sub:=sub) (ab:=ab) (col:=col) (dd:=dd) (k0:=k0) (k1:=k1) (k2:=k2) (k3:=k3) (k5:=k5)
    FB (mN:=mN) (T.hasType FB.hasBase) (I.ok.hd hc) (by rw [he]; show (false || (backTo cpos (starEach rest X.env)).any (·.1)) = false; rw [hplain]; rfl) hni (ld_glob I hg hm ⟨rfl,?_⟩ hd)
  have hA:=thn (ha cpos pins s σ H _ I h) (Q':=fun us s2=>us.length≤sizeLine∧(∀ b o,X.base.get? b = some o→s2.heap.get? b = some o)∧∀ h' e,Heap.MadeExcOf s2.heap h' e (.ref C) us→X.xe (.ref e) { s2 with heap:=h' }) fun us s2 ⟨vs,H1,I1,r,hl,hq⟩=>by
    refine ⟨by rw [← r.length]; exact hl,I1.bk,fun h' e mk=>?_⟩
    obtain ⟨t,h1,h2,h3⟩:=mk.there
    have hn:=I1.hok.off mk.new
    exact hE pins σ H1 _ e (.ref C) (I1.kept (t':=s2.toks) mk.keeps) ⟨_,_,h1,rfl,rfl,rfl,by rfl,.inl (by rfl)⟩ (I1.fresh0 hex mk.new) hn hq
  rw [he] at hA ⊢
  exact Calls.evalArgs_plain (wpAny_mono hA (fun vs s₂ h₂=>⟨rfl,h₂.1,h₂.2.1 _ _ hC,hN.keeps h₂.2.1,T.keeps h₂.2.1,h₂.2.2⟩) fun _ _ y=>y)
end
end L2
namespace L2
open PySem PySem.Spec PyProof.Rows
theorem entry_unchain:entryFor table "proto.unchain" = some Builtin.«proto.unchain»:=entryFor_of_tree (by kernel_rfl)
section
variable {prog:Program} {w:World} {A:Around} {E:Value→Shared→Prop} {s:Shared}
theorem range_endH {it e:Addr} {oe:Obj} {vs:Array Value} {x left step:Int} {Q:Option Value→Shared→Prop} (hh:A.handled = some (.ref e)) (he:s.heap.get? e = some oe) (hd:oe.data = .fields vs) (h2:vs[2]? = some .none)
    (hit:IsRangeIter s.heap it x left step) (hleft:left≤0) (hQ:∀ h',Heap.ExtBut it s.heap h'→Q none { s with heap:=h' }):wpAny (model prog w) A (pyNext (.ref it)) Q E s:=by
  have hT:s.TypeIs (.ref it) "range_iterator" := ⟨_,hit,rfl⟩
  unfold pyNext
  refine wpAny_bind (wpAny_attempt (wpAny_callSpecial?_slot (name:=Str.ofString "__next__") hT F.slot_range_iterator_next
    (wpAny_call_entry F.slot_range_iterator_next hT F.entry_range_iterator_next ?_ (F.args_range_iterator_next_1 _))))
  show wpAny _ _ (field (.ref it) 0 >>= _) _ _ s
  refine wpAny_bind (wpAny_field hit rfl (x:=rawInt x) rfl ?_)
  show wpAny _ _ (field (.ref it) 1 >>= _) _ _ s
  refine wpAny_bind (wpAny_field hit rfl (x:=rawInt left) rfl ?_)
  show wpAny _ _ (field (.ref it) 2 >>= _) _ _ s
  refine wpAny_bind (wpAny_field hit rfl (x:=rawInt step) rfl ?_)
  show wpAny _ _ (if left≤0 then _ else _) _ _ s
  rw [if_pos hleft]
  refine wpAny_bind (wpAny_rule ?_)
  refine wpAny_bind ?_
  show wpAny _ _ (newExc (.type "StopIteration") [] >>= _) _ _ _
  refine wpAny_bind ?_
  simp only [newExc,newTuple]
  refine wpAny_bind (wpAny_newObj_type ?_ (by size_fits))
  refine wpAny_bind (m:=firstArgMember _ _) (wpAny_of_eq (a:=Value.none) (by first | rfl | (simp only [firstArgMember]; rfl)) ?_)
  refine wpAny_newObj_type ?_ (by size_fits)
  simp only [raiseNew]
  refine wpAny_bind (wpAny_handled ?_)
  rw [show A.in1.handled = some (.ref e) from hh]
  dsimp only
  have lt:e < s.heap.objs.size:=Heap.lt_size he
  have ne:(Value.ref e != Value.ref (s.heap.push { cls:=.type "tuple", data:=.seq #[] }).objs.size) = true:=by
    have:e≠(s.heap.push { cls:=.type "tuple", data:=.seq #[] }).objs.size:=by rw [Heap.size_push]; exact Nat.ne_of_lt (Nat.lt_succ_of_lt lt)
    simpa using this
  rw [if_pos ne]
  refine wpAny_bind (wpAny_holding (wpAny_runValue (codeAny_builtin entry_unchain ?_)))
  show wpAny _ _ (field (.ref e) 2 >>= _) _ _ _
  refine wpAny_bind (wpAny_field (Heap.get?_push_of_some _ (Heap.get?_push_of_some _ he)) hd h2 ?_)
  rw [if_pos (by rfl)]
  refine wpAny_bind (wpAny_pure (wpAny_pure ?_))
  refine wpAny_bind (show wpAny _ _ (setField (.ref _) 2 (.ref e)) _ _ _ from wpAny_setField (Heap.get?_push_size _ rfl) rfl (by simp; omega) ?_)
  refine wpAny_throw ?_
  refine wpAny_bind (wpAny_isInstance (T := "StopIteration") (b:=true) ⟨_,Heap.get?_update_self _ (Heap.get?_push_size _ rfl) (by rfl),rfl⟩ isSubtype_stop ?_)
  refine wpAny_pure (hQ _ fun b o hb q=>?_)
  have hb2:b≠(s.heap.push { cls:=.type "tuple", data:=.seq #[] }).objs.size:=by
    rw [Heap.size_push]; exact Nat.ne_of_lt (Nat.lt_succ_of_lt (Heap.lt_size q))
  rw [Heap.get?_update_other _ _ (Ne.symm hb2)]
  exact Heap.get?_push_of_some _ (Heap.get?_push_of_some _ q)
end
abbrev HandE (e:Addr) (X:Cx):Prop:=X.A.handled = some (.ref e)
def ItrH (e:Addr) (lo:Int) (n:Nat):It:=⟨fun i _=>i < n,fun i H x H'=>H' = H∧x = .int (lo + i),fun i H=>n≤i∧∃ D,H e = some (excO e D)⟩
theorem turn_rangeH {P:Program} {w:World} {K:PySem.W.Frag} {tg:Expr} (e it:Addr) (lo:Int) (n:Nat):Turn P w K tg (ItrH e lo n) [it] it (fun i h=>IsRangeIter h it (lo + (i:Nat) * 1) ((n:Int) - (i:Nat)) 1) (HandE e) where
  mem:=by simp
  obj:=fun i h st b hb=>by
    have e:b = it:=by simpa using hb
    subst e
    exact ⟨_,st,fun v z=>by
      have z':Data.fields _ = Data.cell v:=z
      cases z'⟩
  keep:=fun i h h' st k=>k it (by simp) _ st
  item:=by
    intro X hP hw hK hc i pins s σ H E I hf st hg
    subst hP hw hK
    obtain ⟨f0,f1,f2,f3,f4,f5⟩:=hf it (by simp)
    refine wpAny_pyNext_range_item st (by have:i < n:=hg; omega) fun h' hit' hs'=>?_
    have I1:Inv X pins σ H { s with heap:=h',toks:=s.toks + 1 }:=I.turned (fun b o hb e=>hs'.extBut b o hb e) f0 f1 f3 f4 f5
    have st':IsRangeIter h' it (lo + ((i + 1:Nat):Int) * 1) ((n:Int) - ((i + 1:Nat):Int)) 1:=by
      have e1:lo + ((i + 1:Nat):Int) * 1 = lo + (i:Int) * 1 + 1:=by push_cast; omega
      have e2:(n:Int) - ((i + 1:Nat):Int) = (n:Int) - (i:Int) - 1:=by push_cast; omega
      rw [e1,e2]; exact hit'
    refine ⟨_,rfl,go_of (s:={ s with heap:=h',toks:=s.toks + 1 }) (n := "range_iterator") st' rfl rfl (by decide) ⟨.int (lo + i),H,I1,⟨s.toks,?_⟩,⟨rfl,rfl⟩,st',fun b hb=>(hf b hb).1⟩⟩
    rw [Int.mul_one]
  done:=by
    intro X hP hw hK hc i pins s σ H E I hf st hg
    subst hP hw hK
    obtain ⟨f0,f1,f2,f3,f4,f5⟩:=hf it (by simp)
    obtain ⟨hn,D,hD⟩:=hg
    obtain ⟨oe,vs,J,hd,h2⟩:=Rd.exc I.hok hD
    exact range_endH hc J.at_ hd h2 st (by omega) fun h' eb=>⟨rfl,I.turned (t':=s.toks) (fun b o hb e=>eb b o hb e) f0 f1 f3 f4 f5⟩
  self:=fun _ _ _ _ _ st h=>wpAny_pyIter_rangeiter st h
section
variable {X:Cx} {tg:Expr} {e:Addr}
theorem range_itH {pins:List (Addr × Obj)} {σ:St} {H:Hp} {s:Shared} {R:It→Hp→Prop} {E:Value→Shared→Prop} {lo hi:Int} {t u v:Tok} {tk:Nat} (I:Inv X pins σ H s) (h1:-(2 ^ 62)≤lo) (h2:lo < 2 ^ 62) (h3:-(2 ^ 62)≤hi) (h4:hi < 2 ^ 62)
    (q:R (ItrH e lo (hi - lo).toNat) H):wpAny (model X.prog X.w) X.A (pyIter (.ref s.heap.objs.size)) (PIEr (HandE e) X pins σ tg R) E { s with heap:=s.heap.push { cls:=.type "range", data:=.fields #[.int lo t,.int hi u,.int 1 v] },toks:=tk }:=by
  refine wpAny_pyIter_range (IsRange.new ..) (small_one h1 h2 h3 h4) ?_
  have I1:Inv X pins σ H { s with heap:=s.heap.push { cls:=.type "range", data:=.fields #[.int lo t,.int hi u,.int 1 v] },toks:=tk }:=I.kept fun b o e=>Heap.get?_push_of_some _ e
  refine ⟨(s.heap.push { cls:=.type "range", data:=.fields #[.int lo t,.int hi u,.int 1 v] }).objs.size,[(s.heap.push { cls:=.type "range", data:=.fields #[.int lo t,.int hi u,.int 1 v] }).objs.size],_,_,H,rfl,
    I1.kept (t':=tk) fun b o e=>Heap.get?_push_of_some _ e,turn_rangeH e _ lo (hi - lo).toNat,?_,fun b hb=>?_,q⟩
  · have e1:lo + ((0:Nat):Int) * 1 = lo:=by simp
    have e2:(((hi - lo).toNat:Nat):Int) - ((0:Nat):Int) = Builtin.Range.rangeSize lo hi 1:=by rw [rangeSize_one]; split <;> omega
    show IsRangeIter _ _ (lo + ((0:Nat):Int) * 1) ((((hi - lo).toNat:Nat):Int) - ((0:Nat):Int)) 1
    rw [e1,e2]
    exact Heap.get?_push_size _ rfl
  · have e:b = (s.heap.push { cls:=.type "range", data:=.fields #[.int lo t,.int hi u,.int 1 v] }).objs.size:=by simpa using hb
    subst e
    exact I1.fpOk (Nat.le_refl _) (I1.hok.fresh (Nat.le_refl _))
def iRng1H (e:Addr) (ta:TA):TI:=fun σ H R=>ta σ H fun vs H1=>∃ j:Int,vs = [.int j]∧-(2 ^ 62)≤j∧j < 2 ^ 62∧R (ItrH e 0 j.toNat) H1
theorem pi_range1H {a:Expr} {ta:TA} {p pos:Pos} (hg:Gl X "range") (hm:X.mg "range" = none) (ha:PA X [a] ta) (hs:starEach [a] X.env = [(false,eval a X.env)]:=by rfl):PIr (HandE e) X tg (.Call (.Name "range" p) [a] [] pos) (iRng1H e ta):=by
  intro pins s σ H R I h
  refine Call_ (ld_blt I hg hm boot_range (PyProof.Rows.callWith_type1 (thn (ha pos pins s σ H _ I h) fun us s1 ⟨vs,H1,I1,r1,q1⟩=>?_) hs rfl))
  obtain ⟨j,e,q1,q2,q⟩:=q1
  subst e
  cases r1 with
  | cons r rr =>
    cases rr
    obtain ⟨t,rfl⟩:=r
    exact call_range_1 (range_itH I1 (by omega) (by omega) q1 q2 (by simpa using q))
def clsV:V→Value
  | .ref a=>.ref a
  | .ty n=>.type n
  | _=>.none
def isCV:V→Bool
  | .ref _=>true
  | .ty _=>true
  | _=>false
theorem call_isiX {K:PySem.W.Frag} (hK:X.K = K):CallR X (.builtin "isinstance") (fun xs H Q=>∃ a D c b,xs = [.ref a,c]∧H a = some (excO a D)∧XCls K D∧isCV c = true∧PySem.W.kitOne K (.ref D) (clsV c) = some b∧Q (.bl b) H):=by
  subst hK
  rintro pins s σ H xs us Q I r ⟨a,D,c,b,rfl,ha,cl,ic,ek,q⟩
  cases r with
  | cons r1 r2 =>
    cases r2 with
    | cons r3 r4 =>
      cases r4
      rename_i u1 u2
      obtain ⟨o,vs,J,_⟩:=Rd.exc I.hok ha
      have eu1:u1 = Value.ref a:=r1
      subst eu1
      have eu:u2 = clsV c:=by
        cases c with
        | ref a=>exact r3
        | ty n=>exact r3
        | _=>cases ic
      subst eu
      exact PySem.W.kia_one (kitx_exc cl) I.kIn ⟨o,J⟩ ek (fun z=>nomatch z) fun tk=>⟨.bl b,H,I.tok _,rfl,q⟩
end
structure RoomH (k:Nat) (A:Around):Prop where
  gd:A.guards = some []
  dp:A.depth + 3 * k + 5 < recursionLimit
  un:A.units + 16 * k + 200 < cLine
theorem RoomH.of {k:Nat} {A:Around} (r:Room k A) (v:Option Value):RoomH k (A.mark v):=⟨r.gd,r.dp,r.un⟩
structure FnOkH (P:Program) (w:World) (K:PySem.W.Frag) (mg:Str→Option Value) (base:Heap) (ex:Addr) (k:Nat) (f:Addr) (fd:FuncData) (ps:List Str) (sp:Sp):Prop where
  len:∀ vs H Q E,sp vs H Q E→vs.length = ps.length
  run:∀ (A:Around) (outer:List Env) (s:Shared) (H:Hp) (args:Args) (us:List Value) (vs:List V) (Q:VK) (E:XK),RoomH k A→A.handled = some (.ref ex)→Env0 P w K mg base A outer s H→BindsTo s fd args (ps.zip us)→Vals vs us→sp vs H Q E →
    codeAny (model P w) A (.call (.ref f) args) (CR CX0 outer P w H s Q E) s
abbrev cxOfH (P:Program) (w:World) (K:PySem.W.Frag) (mg:Str→Option Value) (base:Heap) (N:List Str) (qual:Str) (scope:Scope) (f:Addr) (cd:Value) (A:Around) (outer:List Env) (s:Shared) (H:Hp) (E:XK):Cx :=
  { cxOf CX0 P w K mg base N qual scope f cd A outer s H E with calm:=false }
theorem fn_ofH {P:Program} {w:World} {K:PySem.W.Frag} {mg:Str→Option Value} {base:Heap} {ex:Addr} {k:Nat} {f:Addr} {name qual:Str} {params:Arguments} {body:List Stmt} {scope:Scope} {dV kV doc pm cdv ct oc:Value} {an od:Option Addr}
    {osl:Array (Option Value)} {N ps:List Str} {sp:Sp} (lk:K.lookup f = some ⟨oc,od,.func (PySem.W.fnOf name qual params body scope dV kV doc pm an cdv ct),osl⟩) (hcd:PySem.W.codeIn K cdv qual = true) (S:FnScope N ps scope)
    (len:∀ vs H Q E,sp vs H Q E→vs.length = ps.length)
    (hbody:∀ (A:Around) (outer:List Env) (s:Shared) (H:Hp) (vs:List V) (Q:VK) (E:XK),RoomH k (A.deeper (envOfC qual scope s.heap.objs.size f cdv))→A.handled = some (.ref ex)→sp vs H Q E →
      ∃ t,PSs (cxOfH P w K mg base N qual scope f cdv A outer s H E) body t∧t { nx:=fun _ H'=>Q .non H',rt:=Q } (start N vs) H) :
    FnOkH P w K mg base ex (k + 1) f (PySem.W.fnOf name qual params body scope dV kV doc pm an cdv ct) ps sp:=by
  refine ⟨len,fun A outer s H args us vs Q E hr hh e0 hb r hsp=>?_⟩
  have hl:=len _ _ _ _ hsp
  have KX:K.In s.heap:=e0.mod.kin.keeps fun b o e=>(e0.bs b o e).1
  have lim:s.heap.NoLimit:=e0.mod.nolimit.keeps fun b o e=>(e0.bs b o e).1
  have hkind:∀ y∈ps.zip us,scope.names.lookup y.1 = some .local∨(scope.names.lookup y.1 = some .cell∧((cellsFrom (s.heap.objs.size + 1) scope.names []).lookup y.1).isSome = true):=fun ⟨n,v⟩ hy=>by
    rcases S.par n (List.of_mem_zip hy).1 with q | q
    · exact .inl q
    · exact .inr ⟨q,PySem.W.cellsFrom_some _ _ _ (.inl q)⟩
  refine codeAny_call_function (by have:=hr.dp; omega) (KX _ _ lk) rfl S.co S.gen rfl (PySem.W.codeRec_of KX hcd) (hb _ _ _ _ ?_)
  refine wpAny_newFunctionEnv_cells S.kind hkind fun env he s1 x=>?_
  subst he
  refine ⟨lim.keeps x.toInCall.keep,codeAny_func ?_⟩
  have hrd:RoomH k (A.deeper (envOfC qual scope s.heap.objs.size f cdv)):=⟨hr.gd,by have:=hr.dp; show A.depth + 1 + 3 * k + 5 < _; omega,by have:=hr.un; show A.units + 3 + 16 * k + 200 < _; omega⟩
  obtain ⟨t,ht,hq⟩:=hbody A outer s H vs Q E hrd hh hsp
  have e1:Env0 P w K mg base { A with handled:=none } outer s H:=⟨e0.frames,e0.mod,e0.bs,e0.bsz,e0.funs,e0.frf,e0.hok,e0.bare⟩
  have I0:Inv (cxOf CX0 P w K mg base N qual scope f cdv { A with handled:=none } outer s H E) [] (start N vs) H s1:=inv_start S rfl e1 hl r x
  have I:Inv (cxOfH P w K mg base N qual scope f cdv A outer s H E) [] (start N vs) H s1 :=
    ⟨⟨I0.ok.mod,I0.ok.kind,I0.ok.glob,I0.ok.blt,I0.ok.above,I0.ok.inj,I0.ok.has,I0.ok.cab,(fun z=>nomatch z),I0.ok.frames,I0.ok.stk,I0.ok.exf,I0.ok.bs,I0.ok.bsz,I0.ok.noex,I0.ok.exfs,I0.ok.funs,I0.ok.frf⟩,I0.os,I0.bare,I0.base,I0.loc,I0.cell,I0.free,I0.freeC,I0.pin,I0.hok,I0.len⟩
  refine wpAny_mono (ht [] s1 (start N vs) H _ I hq) (fun fl s' hs=>?_) fun e s' hs=>hs
  have fin:∀ {σ':St} {H':Hp} {v:V} {u:Value},Inv (cxOfH P w K mg base N qual scope f cdv A outer s H E) [] σ' H' s'→RelV v u→Q v H'→CE outer P w H s Q u s' :=
    fun {σ' H' v u} J rv q=>⟨v,H',J.os,J.bare,J.base,J.hok,rv,q⟩
  cases fl with
  | ret u =>
    obtain ⟨v,σ',H',J,rv,q⟩:=hs
    exact fin J rv q
  | next =>
    obtain ⟨σ',H',J,q⟩:=hs
    exact fin (v:=V.non) (u:=Value.none) J rfl q
  | brk =>
    obtain ⟨_,_,_,q⟩:=hs
    exact False.elim q
  | cont =>
    obtain ⟨_,_,_,q⟩:=hs
    exact False.elim q
theorem Fun.okH {P:Program} {w:World} {K:PySem.W.Frag} {mg:Str→Option Value} {base:Heap} {ex:Addr} {x qual:Str} {st:Stmt} {f:Addr} {fd:FuncData} {N ps:List Str} {k:Nat} {sp:Sp} (F:Fun K x qual st f fd) (S:FnScope N ps (defScope st)) (len:∀ vs H Q E,sp vs H Q E→vs.length = ps.length)
    (hbody:∀ (cdv:Value) (A:Around) (outer:List Env) (s:Shared) (H:Hp) (vs:List V) (Q:VK) (E:XK),RoomH k (A.deeper (envOfC qual (defScope st) s.heap.objs.size f cdv))→A.handled = some (.ref ex)→sp vs H Q E →
      ∃ t,PSs (cxOfH P w K mg base N qual (defScope st) f cdv A outer s H E) (defBody st) t∧t { nx:=fun _ H'=>Q .non H',rt:=Q } (start N vs) H):FnOkH P w K mg base ex (k + 1) f fd ps sp:=by
  obtain ⟨oc,od,kV,doc,pm,an,cdv,ct,osl,rfl,lk,hcd⟩:=F.ex
  exact fn_ofH lk hcd S len fun A outer s H vs Q E hr hh hsp=>hbody cdv A outer s H vs Q E hr hh hsp
section
variable {X:Cx} {k:Nat} {f ex:Addr} {fd:FuncData} {ps:List Str} {sp:Sp} {dvs:List V} {ds:List Value} {x:Str} {p pos:Pos} {e:Expr} {es:List Expr} {t:TA} {E:XK}
theorem pe_callH (F:FnOkH X.prog X.w X.K X.mg X.base ex k f fd ps sp) (hr:RoomH k X.A) (hh:X.A.handled = some (.ref ex)) (hg:Gl X x) (hm:X.mg x = some (.ref f)) (hk:PySem.W.keepIn X.K (.ref f) = true) (hb:Binds X.K fd ps ds) (hd:Vals dvs ds)
    (ha:PA X (e :: es) t) (hdb:(x == ("__debug__" : Str)) = false:=by decide) (he:starEach (e :: es) X.env = (false,eval e X.env) :: starEach es X.env:=by rfl) (hpl:(backTo pos (starEach es X.env)).any (·.1) = false:=by rfl) :
    PE X (.Call (.Name x p) (e :: es) [] pos) (tCall sp dvs E t):=by
  intro pins s σ H Q I h
  refine wpAny_Call_Name_kw (ld_glob I hg hm ?_ hdb)
  refine PySem.W.callWith_K (h₀:=X.base) I.ok.mod.kin hk (thn (ha pos pins s σ H _ I h) fun us s1 ⟨vs,H1,I1,r,q⟩=>⟨I1.kIn,?_⟩) he hpl
  have r2:Vals (vs ++ dvs) (us ++ ds):=r.append hd
  have hl:(us ++ ds).length = ps.length:=by rw [← r2.length]; exact F.len _ _ _ _ q
  refine wpAny_call (codeAny_mono (F.run X.A X.stack s1 H1 ⟨us,[]⟩ (us ++ ds) (vs ++ dvs) Q E hr hh I1.env0 (hb s1 us I1.kIn hl) r2 q) fun r s' hq=>?_)
  cases r with
  | error e=>exact hq.elim
  | ok fl =>
    cases fl with
    | ret u=>exact I1.after hq
    | next=>exact False.elim hq
    | brk=>exact False.elim hq
    | cont=>exact False.elim hq
end
end L2
namespace L2
open PySem PySem.Spec PyProof.Rows
abbrev TF:=St→Hp→(Hp→Prop)→Prop
def PF (X:Cx) (e:Expr) (t:TF):Prop :=
  ∀ (pins:List (Addr × Obj)) (s:Shared) (σ:St) (H:Hp) (Q:Hp→Prop),Inv X pins σ H s→t σ H Q→wpAny (model X.prog X.w) X.A (eval e X.env) (fun v s1=>∃ y tk H1,v = .str y tk∧y.length≤3000∧Inv X pins σ H1 s1∧Q H1) X.xe s
def PFs (X:Cx) (es:List Expr) (t:TF):Prop :=
  ∀ (acc:Str) (n:Nat) (pins:List (Addr × Obj)) (s:Shared) (σ:St) (H:Hp) (Q:Hp→Prop),acc.length≤3000 * n→n + es.length≤100→Inv X pins σ H s→t σ H Q →
    Joins (model X.prog X.w) X.A X.xe (evalEach es X.env) acc (fun out s1=>out.length≤sizeLine∧∃ H1,Inv X pins σ H1 s1∧Q H1) s
section
variable {X:Cx} {e v₁ v₂:Expr} {es rest:List Expr} {t u:TF} {te:TE} {pos:Pos}
def fTxt:TF:=fun _ H Q=>Q H
theorem pf_str {x:Str} {j pos} (hx:x.length≤3000:=by decide):PF X (.Constant (.str x) j pos) fTxt:=fun _ _ _ H _ I h=>Calls.Constant_str ⟨x,_,H,rfl,hx,I.tok _,h⟩
def fInt (te:TE):TF:=fun σ H Q=>te σ H fun v H1=>∃ i:Int,v = .int i∧i.natAbs.log2 < 1920∧Q H1
theorem pf_int (he:PE X e te):PF X (.FormattedValue e (-1) none pos) (fInt te):=by
  intro pins s σ H Q I h
  refine wpAny_FormattedValue_plain (thn (he pins s σ H _ I h) fun v s1 ⟨x,H1,I1,r,i,ex,hi,q⟩=>?_)
  subst ex
  obtain ⟨tk,rfl⟩:=(show ∃ t,v = Value.int i t from r)
  refine wpAny_formatField_int hi ⟨_,_,H1,rfl,?_,I1.tok _,q⟩
  have e:=int_text_length_le (k:=1920) (by decide) hi
  rw [PySem.ofString_length]; omega
def fNil:TF:=fun _ H Q=>Q H
def fCons (t u:TF):TF:=fun σ H Q=>t σ H fun H1=>u σ H1 Q
theorem pfs_nil:PFs X [] fNil:=fun acc n pins s σ H Q ha hn I h=>⟨by rw [sizeLine_eq]; have:n≤100:=hn; omega,H,I,h⟩
theorem pfs_cons (h1:PF X e t) (h2:PFs X es u):PFs X (e :: es) (fCons t u):=by
  intro acc n pins s σ H Q ha hn I h
  show wpAny _ _ (eval e X.env) _ _ s
  refine thn (h1 pins s σ H _ I h) fun v s1 ⟨y,tk,H1,ev,hy,I1,q⟩=>⟨y,tk,ev,?_,?_⟩
  · rw [strLen_append,sizeLine_eq]
    have:n + (es.length + 1)≤100:=hn
    omega
  · refine h2 (acc ++ y) (n + 1) pins s1 σ H1 Q ?_ ?_ I1 q
    · rw [strLen_append]; omega
    · have:n + (es.length + 1)≤100:=hn
      omega
def tFst (t:TF):TE:=fun σ H Q=>t σ H fun H1=>∀ x:Str,Q (.str x) H1
theorem pe_fst (h:PFs X (v₁ :: v₂ :: rest) t) (hn:rest.length≤90:=by decide):PE X (.JoinedStr (v₁ :: v₂ :: rest) pos) (tFst t):=by
  intro pins s σ H Q I hq
  refine wpAny_JoinedStr ?_
  have:=h Str.empty 0 pins s σ H _ (by decide) (by show 0 + (rest.length + 1 + 1)≤100; omega) I hq
  refine joins_mono _ _ this fun out s1 ⟨hz,H1,I1,q⟩=>⟨hz,.str out,H1,I1.tok _,⟨_,rfl⟩,q out⟩
where
  joins_mono {M:Model} {A:Around} {E:Value→Shared→Prop} {Q Q':Str→Shared→Prop}:∀ (l:List (Sem Value)) (acc:Str) {s:Shared},Joins M A E l acc Q s→(∀ o s,Q o s→Q' o s)→Joins M A E l acc Q' s
    | [],_,_,h,k=>k _ _ h
    | _ :: r,acc,_,h,k=>wpAny_mono h (fun _ _ ⟨y,t,e,z,q⟩=>⟨y,t,e,z,joins_mono r (acc ++ y) q k⟩) fun _ _ z=>z
end
end L2
namespace L2
open PySem PySem.Spec PyProof.Rows
theorem bt_ValueError:bootBuiltins "ValueError" = some (.type "ValueError"):=by decide +kernel
structure AskC (K:PySem.W.Frag) (C:Addr):Prop where
  cl:(PySem.W.clsIn K C).isSome = true
  ty:PySem.W.typeIn K (.ref C) = some (.type "type")
structure ExcB (K:PySem.W.Frag) (B:Addr):Prop where
  cl:(PySem.W.clsIn K B).isSome = true
  ty:PySem.W.typeIn K (.ref B) = some (.type "type")
  bx:PySem.W.mroIn K B (.type "BaseException") = some true
structure ExcC (K:PySem.W.Frag) (B D:Addr):Prop where
  own:OwnVE K D
  ga:PySem.W.findIn K (.ref D) "__getattribute__" = some (some (.builtin "BaseException.__getattribute__"))
  gt:PySem.W.findIn K (.ref D) "__getattr__" = some none
  ca:PySem.W.findIn K (.ref D) "__class__" = some (some (.builtin "object.__class__"))
  mro:(PySem.W.clsIn K D).map (·.mro) = some (.ref D :: .ref B :: bmVE)
section
variable {K:PySem.W.Frag} {B C D:Addr}
theorem ExcC.mroIn (x:ExcC K B D) (v:Value):PySem.W.mroIn K D v = some ((Value.ref D :: .ref B :: bmVE).contains v):=by
  have m:=x.mro
  unfold PySem.W.mroIn
  cases h:PySem.W.clsIn K D with
  | none=>rw [h] at m; cases m
  | some cd =>
    rw [h] at m
    have e:cd.mro = .ref D :: .ref B :: bmVE:=Option.some.inj m
    show (if cd.mro.isEmpty = true then none else some (cd.mro.contains v)) = _
    rw [e]
    rfl
theorem ExcC.xcls (x:ExcC K B D):XCls K D:=⟨x.ga,x.gt,x.ca,by rw [x.mroIn]; rfl,by rw [x.mroIn]; rfl,by
  have m:=x.mro
  cases h:PySem.W.clsIn K D with
  | none=>rw [h] at m; cases m
  | some cd=>rfl⟩
theorem kitCls_ref (q:AskC K C) (t:Value):PySem.W.kitCls K t (.ref C) = PySem.W.subIn K t (.ref C):=by
  show (if ((PySem.W.clsIn K C).isSome && PySem.W.typeIn K (.ref C) == some (.type "type")) = true then PySem.W.subIn K t (.ref C) else none) = _
  rw [if_pos (by rw [q.cl,q.ty]; rfl)]
theorem kit_self:PySem.W.kitOne K (.ref D) (.ref D) = some true:=by
  unfold PySem.W.kitOne
  rw [if_pos (by simp)]
theorem kit_ne (x:ExcC K B D) (q:AskC K C) (h1:D≠C) (h2:B≠C):PySem.W.kitOne K (.ref D) (.ref C) = some false:=by
  unfold PySem.W.kitOne
  rw [if_neg (by simpa using h1),kitCls_ref q]
  show PySem.W.mroIn K D (.ref C) = some false
  rw [x.mroIn]
  have e1:(Value.ref C == Value.ref D) = false:=by simpa using Ne.symm h1
  have e2:(Value.ref C == Value.ref B) = false:=by simpa using Ne.symm h2
  rw [List.contains_cons,List.contains_cons,e1,e2]
  rfl
theorem kit_eq (x:ExcC K B D) (q:AskC K C) (h2:B≠C):PySem.W.kitOne K (.ref D) (.ref C) = some (decide (D = C)):=by
  by_cases z:D = C
  · subst z; rw [kit_self]; simp
  · rw [kit_ne x q z h2]; simp [z]
theorem kit_ve (x:ExcC K B D):PySem.W.kitOne K (.ref D) (.type "ValueError") = some true:=by
  unfold PySem.W.kitOne
  rw [if_neg (by simp)]
  unfold PySem.W.kitCls
  have h:PySem.W.kitMeta "ValueError" = true:=by decide +kernel
  show (if PySem.W.kitMeta "ValueError" = true then PySem.W.subIn K (.ref D) (.type "ValueError") else none) = _
  rw [if_pos h]
  show PySem.W.mroIn K D (.type "ValueError") = _
  rw [x.mroIn]
  rfl
theorem exm_of (b:ExcB K B) (x:ExcC K B D):PySem.W.exmOne K (.ref D) (.ref B) = some true:=by
  unfold PySem.W.exmOne
  have e:PySem.W.subIn K (.ref B) (.type "BaseException") = some true:=b.bx
  rw [e,if_pos (by rfl),kitCls_ref ⟨b.cl,b.ty⟩]
  show PySem.W.mroIn K D (.ref B) = _
  rw [x.mroIn]
  simp
end
section
variable {X:Cx} {c e1 e2:Expr} {t1 t2:TEx} {tc:TT} {pos:Pos}
end
section
variable {X:Cx} {y:Str} {B:Addr} {body suite:List Stmt} {b₀:Stmt} {tb:TSx} {ts:Addr→TS} {np hp pos:Pos}
end
end L2
namespace Sen
open PySem L2 Bdd
abbrev Small (i:Int):Prop:=i.natAbs.log2 < 1920
def Bad (n:Nat) (i:Int):Prop:=i < 0∨(n:Int)≤i
theorem eq_flatsB {K:PySem.W.Frag} {α:Type} [DecidableEq α] (f:α→V) (hf:∀ x,flatV (f x) = true) (he:∀ x y,eqV (f x) (f y) = decide (x = y)) {H:Hp} {n:Nat} {p q:Addr} {xs ys:List α} (hp:SqL K H p (xs.map f)) (hq:SqL K H q (ys.map f)):EqD K H (n + 1) (.ref p) (.ref q) (decide (xs = ys)):=by
  by_cases hl:xs.length = ys.length
  · have z:EqD K H (n + 1) (.ref p) (.ref q) ((List.range (xs.map f).length).all fun j=>decide (xs[j]? = ys[j]?)):=.ll hp hq (by rw [List.length_map,List.length_map,hl]) fun j x y h1 h2=>by
      rw [List.getElem?_map] at h1 h2
      cases e1:xs[j]? with
      | none=>rw [e1] at h1; cases h1
      | some x' =>
        cases e2:ys[j]? with
        | none=>rw [e2] at h2; cases h2
        | some y' =>
          rw [e1] at h1; rw [e2] at h2
          cases h1; cases h2
          have e:decide (some x' = some y') = eqV (f x') (f y'):=by
            rw [he,Bool.eq_iff_iff]
            simp
          rw [e]
          exact .flat (hf _) (hf _)
    have e:((List.range (xs.map f).length).all fun j=>decide (xs[j]? = ys[j]?)) = decide (xs = ys):=by
      rw [Bool.eq_iff_iff,List.all_eq_true,decide_eq_true_iff]
      constructor
      · intro h
        refine List.ext_getElem? fun j=>?_
        by_cases hj:j < xs.length
        · exact of_decide_eq_true (h j (by rw [List.mem_range,List.length_map]; exact hj))
        · rw [List.getElem?_eq_none (by omega),List.getElem?_eq_none (by omega)]
      · rintro rfl j _
        simp
    rw [e] at z
    exact z
  · have e:decide (xs = ys) = false:=by
      rw [decide_eq_false_iff_not]
      rintro rfl
      exact hl rfl
    rw [e]
    exact .ln hp hq (by rw [List.length_map,List.length_map]; exact hl)
theorem eq_strsB {K:PySem.W.Frag} {H:Hp} {n:Nat} {p q:Addr} {xs ys:List Str} (hp:SqL K H p (xs.map V.str)) (hq:SqL K H q (ys.map V.str)):EqD K H (n + 1) (.ref p) (.ref q) (decide (xs = ys)) :=
  eq_flatsB V.str (fun _=>rfl) (fun x y=>by unfold eqV; rw [Bool.eq_iff_iff]; simp) hp hq
theorem made_same {H0 H':Hp} {bk dx:Addr} {o1 o2:HO} (hbk:H0 bk = none) (hdx:H0 dx = none) (keep:∀ x o,upd (upd H0 dx o1) bk o2 x = some o→x≠bk→H' x = some o):Same H0 H' :=
  fun x o e=>keep x o (by rw [upd_ne (ne_of_none e hbk),upd_ne (ne_of_none e hdx)]; exact e) (ne_of_none e hbk)
theorem made_foot {H0:Hp} {bk dx:Addr} {o1 o2:HO} {F:Foot} (hbk:H0 bk = none) (hdx:H0 dx = none) (hne:dx≠bk) (hF:∀ x,F x→x = bk∨x = dx∨upd (upd H0 dx o1) bk o2 x = none):∀ x,F x→H0 x = none:=fun x hx=>by
  rcases hF x hx with z | z | z
  · rw [z]; exact hbk
  · rw [z]; exact hdx
  · by_cases e1:x = bk
    · rw [e1] at z; rw [upd_same] at z; cases z
    · by_cases e2:x = dx
      · rw [e2,upd_ne hne,upd_same] at z; cases z
      · rw [upd_ne e1,upd_ne e2] at z; exact z
theorem small_of {i:Int} (h:i.natAbs < 2 ^ 1000):Small i:=by
  unfold Small
  by_cases z:i.natAbs = 0
  · rw [z]; decide
  · exact Nat.lt_of_lt_of_le ((Nat.log2_lt z).mpr h) (by decide)
end Sen
namespace L2
open PySem PySem.Spec PyProof.Rows
section
variable {X:Cx} {e:Expr} {te:TE} {pos:Pos}
end
end L2
namespace Sen
open PySem L2 Bdd
end Sen
namespace L2
open PySem PySem.Spec PyProof.Rows
theorem lc_genH {ex:Addr} {n:Nat} {σ:St} {js:List Nat} {tt:TT} {te:TE} {H:Hp} {Qf:Addr→Hp→List V→Prop} (Pv:Nat→List V→Hp→Prop) (h0:Pv 0 [] H) (hz:n≤sizeLine) (hl:∀ i ys H,i≤n→Pv i ys H→ys.length≤i)
    (hx:∀ ys H,Pv n ys H→∃ D,H ex = some (excO ex D))
    (hs:∀ (i:Nat) ys H (N1:V→Hp→Prop) (N2:Hp→Prop),i < n→Pv i ys H→(∀ v H3,Pv (i + 1) (ys ++ [v]) H3→N1 v H3)→(∀ H2,Pv (i + 1) ys H2→N2 H2) →
      tt (lcS σ js (some (.int ((0:Int) + i)))) H fun b H2=>if b = true then te (lcS σ js (some (.int ((0:Int) + i)))) H2 N1 else N2 H2)
    (hd:∀ ys H p,Pv n ys H→H p = none→Qf p H ys) :
    ∃ W:Nat→Nat→List V→Hp→Prop,(∃ m,W 0 m [] H)∧∀ i m ys H,W i m ys H →
      ((ItrH ex 0 n).stop i H∧∀ p,H p = none→Qf p H ys) ∨
      ((ItrH ex 0 n).go i H∧ys.length < sizeLine∧∀ x H',(ItrH ex 0 n).yld i H x H'→tt (lcS σ js (some x)) H' fun b H2 =>
        if b = true then te (lcS σ js (some x)) H2 fun v H3=>∃ m',m' < m∧W (i + 1) m' (ys ++ [v]) H3 else ∃ m',m' < m∧W (i + 1) m' ys H2):=by
  refine ⟨fun i m ys H=>m = n - i∧i≤n∧Pv i ys H,⟨n,by simp,Nat.zero_le _,h0⟩,?_⟩
  rintro i m ys H ⟨rfl,hi,p⟩
  have hy:=hl i ys H hi p
  by_cases hlt:i < n
  · refine .inr ⟨hlt,by omega,fun x H' y=>?_⟩
    obtain ⟨e,y⟩:=y
    subst e y
    exact hs i ys _ _ _ hlt p (fun v H3 p3=>⟨_,Nat.sub_lt_sub_left hlt (Nat.lt_succ_self i),rfl,hlt,p3⟩) (fun H2 p2=>⟨_,Nat.sub_lt_sub_left hlt (Nat.lt_succ_self i),rfl,hlt,p2⟩)
  · have e:i = n:=by omega
    subst e
    exact .inl ⟨⟨Nat.le_refl _,hx ys H p⟩,fun q hq=>hd ys H q p hq⟩
end L2
namespace Sen
open PySem L2 Bdd
def termsB:List Str:=["order", "mark", "room", "row", "number", "weights", "shares", "cover", "great"]
def spWhichB (K:PySem.W.Frag) (B:Addr) (cs:List Addr) (e:Addr):Sp:=fun vs H Q _=>∃ (D:Addr) (n:Nat),vs = [.ref e]∧H e = some (excO e D)∧ExcC K B D∧n < 9∧cs.map (fun C=>decide (D = C)) = (List.range 9).map (fun i=>decide (i = n)) ∧
  ∀ (t l:Addr) (H':Hp),Same H H'→H' t = some (.tup [.str "refused", .ref l])→H' l = some (.lst [.str (termsB.getD n "")])→Q (.ref t) H'
def spIsB (K:PySem.W.Frag):Sp:=fun vs H Q _=>∃ (t l:Addr) (x:Str),vs = [.ref t,.str x]∧H t = some (.tup [.str "refused", .ref l])∧SqL K H l [.str x]∧∀ H',Same H H'→Q (.bl true) H'
end Sen
namespace Sen
open PySem L2 Bdd
structure Moved (os ps:List Str) (rs ns:List Rm) (js:List Nat):Prop where
  len:js.length = rs.length
  at_:∀ (k j:Nat),js[k]? = some j→Means ns j (fun r=>yes rs k (trn os ps r))
def spExchR (C D:Addr):Sp:=fun zs H _ E=>∃ (b:Addr) (os:List Str) (rs:List Rm) (F:Foot) (m:Int),zs = [.ref b,.int m]∧BookAt C H b os rs F∧Bad (os.length - 1) m∧Small m∧∀ H',Same H H'→E (.ref D) none H'
def spExchE (C D:Addr):Sp:=fun zs H Q E=>spExchanged C zs H Q E∨spExchR C D zs H Q E
def spMet51 (C:Addr):Sp:=fun zs H Q E=>spExchanged C zs H Q E ∨
  (∃ (b:Addr) (os:List Str) (rs:List Rm) (F:Foot) (m:Int),zs = [.ref b,.int m]∧BookAt C H b os rs F∧Bad (os.length - 1) m∧Small m∧∀ (t l:Addr) (H':Hp),Same H H'→H' t = some (.tup [.str "refused", .ref l])→H' l = some (.lst [.str "number"])→Q (.ref t) H')
def spSame51 (C:Addr):Sp:=fun zs H Q _=>∃ (b o:Addr) (os ps:List Str) (rs ns:List Rm) (F G:Foot) (k j:Nat),zs = [.ref b,.int (k:Nat),.ref o,.int (j:Nat)]∧BookAt C H b os rs F∧BookAt C H o ps ns G∧Marks os ps∧k < rs.length∧Means ns j (fun r=>yes rs k (trn os ps r))∧∀ H',Same H H'→Q (.bl true) H'
def spFine51 (C:Addr) (K:PySem.W.Frag):Sp:=fun zs H Q _=>∃ (b ol t o l:Addr) (os ps:List Str) (rs ns:List Rm) (F G:Foot) (js:List Nat),zs = [.ref b,.ref ol,.ref t]∧BookAt C H b os rs F∧SqL K H ol (ps.map V.str)∧H t = some (.tup [.ref o,.ref l])∧BookAt C H o ps ns G∧Marks os ps∧H l = some (.lst (js.map fun j=>V.int (j:Nat)))∧Moved os ps rs ns js∧rs.length≤100000∧∀ H',Same H H'→Q (.bl true) H'
def spEntered51 (C:Addr) (K:PySem.W.Frag):Sp:=fun zs H Q _=>∃ (b sl t o l:Addr) (os ps:List Str) (rs ns:List Rm) (F G:Foot) (js:List Nat) (ss:List Sn) (qs:List Addr),zs = [.ref b,.ref sl,.ref t]∧BookAt C H b os rs F∧SqL K H sl (qs.map V.ref)∧H t = some (.tup [.ref o,.ref l])∧BookAt C H o ps ns G∧Marks os ps∧H l = some (.lst (js.map fun j=>V.int (j:Nat)))∧Moved os ps rs ns js ∧
  Paired (IsS H) ss qs∧qs.length≤3∧(∀ s∈ss,s.inO os∧s.count≤200∧s.depth≤24∧∃ k,Means rs k (fun r=>s.val (envR os r)))∧∀ H',Same H H'→Q (.bl true) H'
def byName (os ps:List Str) (r:List Bool):List Bool:=ps.map fun x=>r.getD (ix os x) false
theorem byName_trn {os ps:List Str} (ho:os.Nodup) (hp:ps.Nodup) (hm:Marks os ps) (r:List Bool) {i:Nat} (hi:i < os.length):trn os ps (rowL (byName os ps r)) i = rowL r i:=by
  have e:os.getD i ⟨#[]⟩ = os[i]:=by rw [List.getD_eq_getElem?_getD,List.getElem?_eq_getElem hi]; rfl
  unfold trn rowL byName
  rw [e]
  have hx:os[i]∈ps:=(hm.mem _).mp (List.getElem_mem hi)
  obtain ⟨j,hj,ej⟩:=List.getElem_of_mem hx
  have e1:ix ps os[i] = j:=by rw [← ej]; exact ix_at hp (List.getElem?_eq_getElem hj)
  have e2:ix os os[i] = i:=ix_at ho (List.getElem?_eq_getElem hi)
  rw [e1,List.getD_eq_getElem?_getD,List.getElem?_map,List.getElem?_eq_getElem hj,ej]
  show (r.getD (ix os os[i]) false) = _
  rw [e2]
structure Thr51 (C:Addr) (K:PySem.W.Frag) (sc:Addr) (ns:List Int) (H1:Hp) (ol bk:Addr) (os:List Str) (sl p0 p1 p2:Addr) (s0 s1 s2:Sn) (k1 k2 m:Nat) (H:Hp) (rs:List Rm) (F:Foot):Prop where
  hs:SqL K H1 sc (ns.map V.int)
  ho:H1 ol = some (.lst (os.map V.str))
  hl:H1 sl = some (.lst [.ref p0,.ref p1,.ref p2])
  i0:IsS H1 s0 p0
  i1:IsS H1 s1 p1
  i2:IsS H1 s2 p2
  ok0:s0.inO os∧s0.count≤200∧s0.depth≤24
  ok1:s1.inO os∧s1.count≤200∧s1.depth≤24
  ok2:s2.inO os∧s2.count≤200∧s2.depth≤24
  led:LedH C H1 bk os m H rs F
  m1:Means rs k1 (fun r=>s0.val (envR os r))
  m2:Means rs k2 (fun r=>s1.val (envR os r))
theorem Thr51.new {C:Addr} {K:PySem.W.Frag} {sc:Addr} {ns:List Int} {H1:Hp} {ol bk:Addr} {os:List Str} {sl p0 p1 p2:Addr} {s0 s1 s2:Sn} {k1 k2 m:Nat} {H H':Hp} {rs:List Rm} {F:Foot} (h:Thr51 C K sc ns H1 ol bk os sl p0 p1 p2 s0 s1 s2 k1 k2 m H rs F) (g:Same H H'):Thr51 C K sc ns H1 ol bk os sl p0 p1 p2 s0 s1 s2 k1 k2 m H' rs F :=
  ⟨h.hs,h.ho,h.hl,h.i0,h.i1,h.i2,h.ok0,h.ok1,h.ok2,h.led.new g,h.m1,h.m2⟩
theorem split2:∀ {os:List Str} {i:Nat},i + 1 < os.length→∃ us x y vs,os = us ++ x :: y :: vs∧us.length = i
  | [],i,h=>absurd h (Nat.not_lt_zero _)
  | [_],i,h=>by rw [List.length_singleton] at h; omega
  | x :: y :: vs,0,h=>⟨[],x,y,vs,rfl,rfl⟩
  | z :: y :: vs,i + 1,h=>by
    obtain ⟨us,a,b,ws,e,l⟩:=split2 (os:=y :: vs) (i:=i) (by rw [List.length_cons] at h; omega)
    exact ⟨z :: us,a,b,ws,by rw [e]; rfl,by rw [List.length_cons,l]⟩
end Sen
namespace K51
open PySem L2
def top (i:Nat):Stmt:=PySem.Challenge.pw_decidebook_k51_neighbours_exchanged.main.body.getD i (.Pass ⟨0,0,0,0⟩)
abbrev S_all_rows:Stmt:=top 14
abbrev S_rows_with:Stmt:=top 15
abbrev S_flipped:Stmt:=top 16
abbrev S_held_at:Stmt:=top 17
abbrev S_hangs_on:Stmt:=top 18
abbrev S_first_place:Stmt:=top 19
abbrev S_without:Stmt:=top 20
abbrev S_chosen:Stmt:=top 21
abbrev S_is_mark:Stmt:=top 27
abbrev S_is_order:Stmt:=top 28
abbrev S_letters_of:Stmt:=top 29
abbrev S_parts_of:Stmt:=top 30
abbrev S_parts_of_all:Stmt:=top 31
abbrev S_is_shaped:Stmt:=top 32
abbrev S_is_sentence:Stmt:=top 33
abbrev S_must_be_order:Stmt:=top 34
abbrev S_must_be_sentence:Stmt:=top 35
abbrev S_must_have_mark:Stmt:=top 36
abbrev S_must_have_marks:Stmt:=top 37
abbrev S_tuples_in:Stmt:=top 38
abbrev S_letters_in:Stmt:=top 39
abbrev S_table_of:Stmt:=top 40
abbrev S_table_of_two:Stmt:=top 41
abbrev S_Book_init:Stmt:=inClass (top 43) 0
abbrev S_Book_order:Stmt:=inClass (top 43) 1
abbrev S_Book_size:Stmt:=inClass (top 43) 2
abbrev S_Book_enter:Stmt:=inClass (top 43) 3
abbrev S_Book_room:Stmt:=inClass (top 43) 4
abbrev S_Book_must_be_room:Stmt:=inClass (top 43) 7
abbrev S_Book_place_of:Stmt:=inClass (top 43) 8
abbrev S_Book_going:Stmt:=inClass (top 43) 9
abbrev S_Book_table_at:Stmt:=inClass (top 43) 11
abbrev S_Book_room_with:Stmt:=inClass (top 43) 12
abbrev S_exchanged:Stmt:=top 45
abbrev S_reordered:Stmt:=top 46
abbrev S_rooms_in:Stmt:=top 47
abbrev S_room_in:Stmt:=top 48
abbrev S_x_law_cell_at:Stmt:=top 50
abbrev S_x_law_draw:Stmt:=top 51
abbrev S_x_law_order:Stmt:=top 52
abbrev S_x_law_sentence:Stmt:=top 53
abbrev S_x_law_rows:Stmt:=top 54
abbrev S_x_law_whole:Stmt:=top 55
abbrev S_x_law_leads:Stmt:=top 56
abbrev S_x_law_same:Stmt:=top 57
abbrev S_x_law_fine:Stmt:=top 58
abbrev S_x_law_entered:Stmt:=top 59
abbrev S_x_law_which:Stmt:=top 60
abbrev S_x_law_is:Stmt:=top 61
abbrev S_x_law_met:Stmt:=top 62
abbrev S_law:Stmt:=top 63
theorem sc_all_rows:FnScope ["marks"] ["marks"] (defScope S_all_rows):=⟨rfl,rfl,rfl,by decide +kernel,rfl,by decide +kernel,by decide +kernel⟩
theorem sc_rows_with:FnScope ["place", "marks", "half", "table", "further"] ["place", "marks"] (defScope S_rows_with):=⟨rfl,rfl,rfl,by decide +kernel,rfl,by decide +kernel,by decide +kernel⟩
theorem sc_flipped:FnScope ["table", "place", "marks", "ones", "noughts"] ["table", "place", "marks"] (defScope S_flipped):=⟨rfl,rfl,rfl,by decide +kernel,rfl,by decide +kernel,by decide +kernel⟩
theorem sc_held_at:FnScope ["table", "place", "value", "marks", "ones", "kept"] ["table", "place", "value", "marks"] (defScope S_held_at):=⟨rfl,rfl,rfl,by decide +kernel,rfl,by decide +kernel,by decide +kernel⟩
theorem sc_hangs_on:FnScope ["table", "place", "marks"] ["table", "place", "marks"] (defScope S_hangs_on):=⟨rfl,rfl,rfl,by decide +kernel,rfl,by decide +kernel,by decide +kernel⟩
theorem sc_first_place:FnScope ["table", "marks", "place"] ["table", "marks"] (defScope S_first_place):=⟨rfl,rfl,rfl,by decide +kernel,rfl,by decide +kernel,by decide +kernel⟩
theorem sc_without:FnScope ["table", "other"] ["table", "other"] (defScope S_without):=⟨rfl,rfl,rfl,by decide +kernel,rfl,by decide +kernel,by decide +kernel⟩
theorem sc_chosen:FnScope ["where", "low", "high"] ["where", "low", "high"] (defScope S_chosen):=⟨rfl,rfl,rfl,by decide +kernel,rfl,by decide +kernel,by decide +kernel⟩
theorem sc_is_mark:FnScope ["letter"] ["letter"] (defScope S_is_mark):=⟨rfl,rfl,rfl,by decide +kernel,rfl,by decide +kernel,by decide +kernel⟩
theorem sc_is_order:FnScope ["order"] ["order"] (defScope S_is_order):=⟨rfl,rfl,rfl,by decide +kernel,rfl,by decide +kernel,by decide +kernel⟩
theorem sc_letters_of:FnScope ["sentence"] ["sentence"] (defScope S_letters_of):=⟨rfl,rfl,rfl,by decide +kernel,rfl,by decide +kernel,by decide +kernel⟩
theorem sc_parts_of:FnScope ["sentence"] ["sentence"] (defScope S_parts_of):=⟨rfl,rfl,rfl,by decide +kernel,rfl,by decide +kernel,by decide +kernel⟩
theorem sc_parts_of_all:FnScope ["level", "found", "sentence"] ["level"] (defScope S_parts_of_all):=⟨rfl,rfl,rfl,by decide +kernel,rfl,by decide +kernel,by decide +kernel⟩
theorem sc_is_shaped:FnScope ["some", "shape"] ["some"] (defScope S_is_shaped):=⟨rfl,rfl,rfl,by decide +kernel,rfl,by decide +kernel,by decide +kernel⟩
theorem sc_is_sentence:FnScope ["some", "level", "deep", "tuples"] ["some"] (defScope S_is_sentence):=⟨rfl,rfl,rfl,by decide +kernel,rfl,by decide +kernel,by decide +kernel⟩
theorem sc_must_be_order:FnScope ["order"] ["order"] (defScope S_must_be_order):=⟨rfl,rfl,rfl,by decide +kernel,rfl,by decide +kernel,by decide +kernel⟩
theorem sc_must_be_sentence:FnScope ["some"] ["some"] (defScope S_must_be_sentence):=⟨rfl,rfl,rfl,by decide +kernel,rfl,by decide +kernel,by decide +kernel⟩
theorem sc_must_have_mark:FnScope ["order", "letter"] ["order", "letter"] (defScope S_must_have_mark):=⟨rfl,rfl,rfl,by decide +kernel,rfl,by decide +kernel,by decide +kernel⟩
theorem sc_must_have_marks:FnScope ["order", "sentence", "letter"] ["order", "sentence"] (defScope S_must_have_marks):=⟨rfl,rfl,rfl,by decide +kernel,rfl,by decide +kernel,by decide +kernel⟩
theorem sc_tuples_in:FnScope ["sentence", "found", "level"] ["sentence"] (defScope S_tuples_in):=⟨rfl,rfl,rfl,by decide +kernel,rfl,by decide +kernel,by decide +kernel⟩
theorem sc_letters_in:FnScope ["sentence", "found", "part"] ["sentence"] (defScope S_letters_in):=⟨rfl,rfl,rfl,by decide +kernel,rfl,by decide +kernel,by decide +kernel⟩
theorem sc_table_of:FnScope ["sentence", "order", "word", "marks", "tables"] ["sentence", "order"] (defScope S_table_of):=⟨rfl,rfl,rfl,by decide +kernel,rfl,by decide +kernel,by decide +kernel⟩
theorem sc_table_of_two:FnScope ["word", "one", "other", "every"] ["word", "one", "other", "every"] (defScope S_table_of_two):=⟨rfl,rfl,rfl,by decide +kernel,rfl,by decide +kernel,by decide +kernel⟩
theorem sc_Book_init:FnScope ["self", "order", "marks"] ["self", "order"] (defScope S_Book_init):=⟨rfl,rfl,rfl,by decide +kernel,rfl,by decide +kernel,by decide +kernel⟩
theorem sc_Book_order:FnScope ["self"] ["self"] (defScope S_Book_order):=⟨rfl,rfl,rfl,by decide +kernel,rfl,by decide +kernel,by decide +kernel⟩
theorem sc_Book_size:FnScope ["self"] ["self"] (defScope S_Book_size):=⟨rfl,rfl,rfl,by decide +kernel,rfl,by decide +kernel,by decide +kernel⟩
theorem sc_Book_enter:FnScope ["self", "sentence"] ["self", "sentence"] (defScope S_Book_enter):=⟨rfl,rfl,rfl,by decide +kernel,rfl,by decide +kernel,by decide +kernel⟩
theorem sc_Book_room:FnScope ["self", "number"] ["self", "number"] (defScope S_Book_room):=⟨rfl,rfl,rfl,by decide +kernel,rfl,by decide +kernel,by decide +kernel⟩
theorem sc_Book_must_be_room:FnScope ["self", "number"] ["self", "number"] (defScope S_Book_must_be_room):=⟨rfl,rfl,rfl,by decide +kernel,rfl,by decide +kernel,by decide +kernel⟩
theorem sc_Book_place_of:FnScope ["self", "number"] ["self", "number"] (defScope S_Book_place_of):=⟨rfl,rfl,rfl,by decide +kernel,rfl,by decide +kernel,by decide +kernel⟩
theorem sc_Book_going:FnScope ["self", "number", "value"] ["self", "number", "value"] (defScope S_Book_going):=⟨rfl,rfl,rfl,by decide +kernel,rfl,by decide +kernel,by decide +kernel⟩
theorem sc_Book_table_at:FnScope ["self", "number"] ["self", "number"] (defScope S_Book_table_at):=⟨rfl,rfl,rfl,by decide +kernel,rfl,by decide +kernel,by decide +kernel⟩
theorem sc_Book_room_with:FnScope ["self", "table", "marks", "place", "low", "high"] ["self", "table"] (defScope S_Book_room_with):=⟨rfl,rfl,rfl,by decide +kernel,rfl,by decide +kernel,by decide +kernel⟩
theorem sc_exchanged:FnScope ["book", "at", "order"] ["book", "at"] (defScope S_exchanged):=⟨rfl,rfl,rfl,by decide +kernel,rfl,by decide +kernel,by decide +kernel⟩
theorem sc_reordered:FnScope ["book", "order", "new"] ["book", "order"] (defScope S_reordered):=⟨rfl,rfl,rfl,by decide +kernel,rfl,by decide +kernel,by decide +kernel⟩
theorem sc_rooms_in:FnScope ["new", "book", "rooms", "known", "number"] ["new", "book", "rooms"] (defScope S_rooms_in):=⟨rfl,rfl,rfl,by decide +kernel,rfl,by decide +kernel,by decide +kernel⟩
theorem sc_room_in:FnScope ["new", "book", "number", "known", "told", "order", "where"] ["new", "book", "number", "known"] (defScope S_room_in):=⟨rfl,rfl,rfl,by decide +kernel,rfl,by decide +kernel,by decide +kernel⟩
theorem sc_x_law_cell_at:FnScope ["script", "k"] ["script", "k"] (defScope S_x_law_cell_at):=⟨rfl,rfl,rfl,by decide +kernel,rfl,by decide +kernel,by decide +kernel⟩
theorem sc_x_law_draw:FnScope ["cell", "k", "bound", "stir", "left", "j"] ["cell", "k", "bound"] (defScope S_x_law_draw):=⟨rfl,rfl,rfl,by decide +kernel,rfl,by decide +kernel,by decide +kernel⟩
theorem sc_x_law_order:FnScope ["cell", "limit", "found", "k"] ["cell", "limit"] (defScope S_x_law_order):=⟨rfl,rfl,rfl,by decide +kernel,rfl,by decide +kernel,by decide +kernel⟩
theorem sc_x_law_sentence:FnScope ["script", "at", "many", "order", "kinds", "made", "k", "cell", "kind", "one", "other", "letter"] ["script", "at", "many", "order"] (defScope S_x_law_sentence):=⟨rfl,rfl,rfl,by decide +kernel,rfl,by decide +kernel,by decide +kernel⟩
theorem sc_x_law_rows:FnScope ["size", "found", "k", "longer", "row"] ["size"] (defScope S_x_law_rows):=⟨rfl,rfl,rfl,by decide +kernel,rfl,by decide +kernel,by decide +kernel⟩
theorem sc_x_law_whole:FnScope ["found"] ["found"] (defScope S_x_law_whole):=⟨rfl,rfl,rfl,by decide +kernel,rfl,by decide +kernel,by decide +kernel⟩
theorem sc_x_law_leads:FnScope ["book", "room", "row", "mark", "low", "high"] ["book", "room", "row"] (defScope S_x_law_leads):=⟨rfl,rfl,rfl,by decide +kernel,rfl,by decide +kernel,by decide +kernel⟩
theorem sc_x_law_same:FnScope ["book", "room", "other", "there", "order", "row", "values"] ["book", "room", "other", "there"] (defScope S_x_law_same):=⟨rfl,rfl,rfl,by decide +kernel,rfl,by decide +kernel,by decide +kernel⟩
theorem sc_x_law_fine:FnScope ["book", "order", "found", "other", "places"] ["book", "order", "found"] (defScope S_x_law_fine):=⟨rfl,rfl,rfl,by decide +kernel,rfl,by decide +kernel,by decide +kernel⟩
theorem sc_x_law_entered:FnScope ["book", "some", "found", "rooms", "other", "places"] ["book", "some", "found"] (defScope S_x_law_entered):=⟨rfl,rfl,rfl,by decide +kernel,rfl,by decide +kernel,by decide +kernel⟩
theorem sc_x_law_which:FnScope ["e", "kinds", "terms"] ["e"] (defScope S_x_law_which):=⟨rfl,rfl,rfl,by decide +kernel,rfl,by decide +kernel,by decide +kernel⟩
theorem sc_x_law_is:FnScope ["told", "word"] ["told", "word"] (defScope S_x_law_is):=⟨rfl,rfl,rfl,by decide +kernel,rfl,by decide +kernel,by decide +kernel⟩
theorem sc_x_law_met:FnScope ["book", "at", "told", "e"] ["book", "at"] (defScope S_x_law_met):=⟨rfl,rfl,rfl,by decide +kernel,rfl,by decide +kernel,by decide +kernel⟩
theorem sc_law:FnScope ["script", "order", "cell", "some", "book", "one", "kept", "far", "at", "found", "due"] ["script"] (defScope S_law):=⟨rfl,rfl,rfl,by decide +kernel,rfl,by decide +kernel,by decide +kernel⟩
def tb_SHAPES:List (Str × Int × Int):=[("yes", 0,0),("no", 0,0),("mark", 1,0),("not", 0,1),("and", 0,2),("or", 0,2),("either", 0,2),("if", 0,2),("some", 1,1),("each", 1,1)]
theorem ln_0 {α:Type} {us:List α} (h:us.length = 0):us = []:=List.length_eq_zero_iff.mp h
theorem ln_s {α:Type} {us:List α} {n:Nat} (h:us.length = n + 1):∃ a vs,us = a :: vs∧vs.length = n:=by
  cases us with
  | nil=>cases h
  | cons a vs=>exact ⟨a,vs,rfl,by simpa using h⟩
theorem ln_1 {α:Type} {us:List α} (h:us.length = 1):∃ a,us = [a]:=by
  obtain ⟨a,v,e,h⟩:=ln_s h
  rw [e,ln_0 h]
  exact ⟨a,rfl⟩
theorem ln_2 {α:Type} {us:List α} (h:us.length = 2):∃ a b,us = [a,b]:=by
  obtain ⟨a,v,e,h⟩:=ln_s h
  obtain ⟨b,e2⟩:=ln_1 h
  exact ⟨a,b,by rw [e,e2]⟩
theorem ln_3 {α:Type} {us:List α} (h:us.length = 3):∃ a b c,us = [a,b,c]:=by
  obtain ⟨a,v,e,h⟩:=ln_s h
  obtain ⟨b,c,e2⟩:=ln_2 h
  exact ⟨a,b,c,by rw [e,e2]⟩
theorem ln_4 {α:Type} {us:List α} (h:us.length = 4):∃ a b c d,us = [a,b,c,d]:=by
  obtain ⟨a,v,e,h⟩:=ln_s h
  obtain ⟨b,c,d,e2⟩:=ln_3 h
  exact ⟨a,b,c,d,by rw [e,e2]⟩
set_option genInjectivity false in
set_option genSizeOf false in
structure Ad where
  a_all_rows:Addr
  d_all_rows:FuncData
  a_rows_with:Addr
  d_rows_with:FuncData
  a_flipped:Addr
  d_flipped:FuncData
  a_held_at:Addr
  d_held_at:FuncData
  a_hangs_on:Addr
  d_hangs_on:FuncData
  a_first_place:Addr
  d_first_place:FuncData
  a_without:Addr
  d_without:FuncData
  a_chosen:Addr
  d_chosen:FuncData
  a_is_mark:Addr
  d_is_mark:FuncData
  a_is_order:Addr
  d_is_order:FuncData
  a_letters_of:Addr
  d_letters_of:FuncData
  a_parts_of:Addr
  d_parts_of:FuncData
  a_parts_of_all:Addr
  d_parts_of_all:FuncData
  a_is_shaped:Addr
  d_is_shaped:FuncData
  a_is_sentence:Addr
  d_is_sentence:FuncData
  a_must_be_order:Addr
  d_must_be_order:FuncData
  a_must_be_sentence:Addr
  d_must_be_sentence:FuncData
  a_must_have_mark:Addr
  d_must_have_mark:FuncData
  a_must_have_marks:Addr
  d_must_have_marks:FuncData
  a_tuples_in:Addr
  d_tuples_in:FuncData
  a_letters_in:Addr
  d_letters_in:FuncData
  a_table_of:Addr
  d_table_of:FuncData
  a_table_of_two:Addr
  d_table_of_two:FuncData
  a_Book_init:Addr
  d_Book_init:FuncData
  a_Book_order:Addr
  d_Book_order:FuncData
  a_Book_size:Addr
  d_Book_size:FuncData
  a_Book_enter:Addr
  d_Book_enter:FuncData
  a_Book_room:Addr
  d_Book_room:FuncData
  a_Book_must_be_room:Addr
  d_Book_must_be_room:FuncData
  a_Book_place_of:Addr
  d_Book_place_of:FuncData
  a_Book_going:Addr
  d_Book_going:FuncData
  a_Book_table_at:Addr
  d_Book_table_at:FuncData
  a_Book_room_with:Addr
  d_Book_room_with:FuncData
  a_exchanged:Addr
  d_exchanged:FuncData
  a_reordered:Addr
  d_reordered:FuncData
  a_rooms_in:Addr
  d_rooms_in:FuncData
  a_room_in:Addr
  d_room_in:FuncData
  a_x_law_cell_at:Addr
  d_x_law_cell_at:FuncData
  a_x_law_draw:Addr
  d_x_law_draw:FuncData
  a_x_law_order:Addr
  d_x_law_order:FuncData
  a_x_law_sentence:Addr
  d_x_law_sentence:FuncData
  a_x_law_rows:Addr
  d_x_law_rows:FuncData
  a_x_law_whole:Addr
  d_x_law_whole:FuncData
  a_x_law_leads:Addr
  d_x_law_leads:FuncData
  a_x_law_same:Addr
  d_x_law_same:FuncData
  a_x_law_fine:Addr
  d_x_law_fine:FuncData
  a_x_law_entered:Addr
  d_x_law_entered:FuncData
  a_x_law_which:Addr
  d_x_law_which:FuncData
  a_x_law_is:Addr
  d_x_law_is:FuncData
  a_x_law_met:Addr
  d_x_law_met:FuncData
  a_law:Addr
  d_law:FuncData
  a_Book:Addr
  a_BookError:Addr
  a_NoOrder:Addr
  a_NoSentence:Addr
  a_NoMark:Addr
  a_NoRoom:Addr
  a_NoRow:Addr
  a_NoNumber:Addr
  a_NoWeights:Addr
  a_NoShares:Addr
  a_NoCover:Addr
  a_TooGreat:Addr
  a_MARKS:Addr
  t_MOST_TUPLES:Tok
  t_MOST_DEEP:Tok
  a_SHAPES:Addr
  kv_SHAPES:List (Str × Value)
structure Txt (P:Program) (w:World) (K:PySem.W.Frag) (mg:Str→Option Value) (a:Ad):Prop where
  F_all_rows:Fun K "all_rows" "all_rows" S_all_rows a.a_all_rows a.d_all_rows
  b_all_rows:Binds K a.d_all_rows ["marks"] []
  m_all_rows:mg "all_rows" = some (.ref a.a_all_rows)
  F_rows_with:Fun K "rows_with" "rows_with" S_rows_with a.a_rows_with a.d_rows_with
  b_rows_with:Binds K a.d_rows_with ["place", "marks"] []
  m_rows_with:mg "rows_with" = some (.ref a.a_rows_with)
  F_flipped:Fun K "flipped" "flipped" S_flipped a.a_flipped a.d_flipped
  b_flipped:Binds K a.d_flipped ["table", "place", "marks"] []
  m_flipped:mg "flipped" = some (.ref a.a_flipped)
  F_held_at:Fun K "held_at" "held_at" S_held_at a.a_held_at a.d_held_at
  b_held_at:Binds K a.d_held_at ["table", "place", "value", "marks"] []
  m_held_at:mg "held_at" = some (.ref a.a_held_at)
  F_hangs_on:Fun K "hangs_on" "hangs_on" S_hangs_on a.a_hangs_on a.d_hangs_on
  b_hangs_on:Binds K a.d_hangs_on ["table", "place", "marks"] []
  m_hangs_on:mg "hangs_on" = some (.ref a.a_hangs_on)
  F_first_place:Fun K "first_place" "first_place" S_first_place a.a_first_place a.d_first_place
  b_first_place:Binds K a.d_first_place ["table", "marks"] []
  m_first_place:mg "first_place" = some (.ref a.a_first_place)
  F_without:Fun K "without" "without" S_without a.a_without a.d_without
  b_without:Binds K a.d_without ["table", "other"] []
  m_without:mg "without" = some (.ref a.a_without)
  F_chosen:Fun K "chosen" "chosen" S_chosen a.a_chosen a.d_chosen
  b_chosen:Binds K a.d_chosen ["where", "low", "high"] []
  m_chosen:mg "chosen" = some (.ref a.a_chosen)
  F_is_mark:Fun K "is_mark" "is_mark" S_is_mark a.a_is_mark a.d_is_mark
  b_is_mark:Binds K a.d_is_mark ["letter"] []
  m_is_mark:mg "is_mark" = some (.ref a.a_is_mark)
  F_is_order:Fun K "is_order" "is_order" S_is_order a.a_is_order a.d_is_order
  b_is_order:Binds K a.d_is_order ["order"] []
  m_is_order:mg "is_order" = some (.ref a.a_is_order)
  F_letters_of:Fun K "letters_of" "letters_of" S_letters_of a.a_letters_of a.d_letters_of
  b_letters_of:Binds K a.d_letters_of ["sentence"] []
  m_letters_of:mg "letters_of" = some (.ref a.a_letters_of)
  F_parts_of:Fun K "parts_of" "parts_of" S_parts_of a.a_parts_of a.d_parts_of
  b_parts_of:Binds K a.d_parts_of ["sentence"] []
  m_parts_of:mg "parts_of" = some (.ref a.a_parts_of)
  F_parts_of_all:Fun K "parts_of_all" "parts_of_all" S_parts_of_all a.a_parts_of_all a.d_parts_of_all
  b_parts_of_all:Binds K a.d_parts_of_all ["level"] []
  m_parts_of_all:mg "parts_of_all" = some (.ref a.a_parts_of_all)
  F_is_shaped:Fun K "is_shaped" "is_shaped" S_is_shaped a.a_is_shaped a.d_is_shaped
  b_is_shaped:Binds K a.d_is_shaped ["some"] []
  m_is_shaped:mg "is_shaped" = some (.ref a.a_is_shaped)
  F_is_sentence:Fun K "is_sentence" "is_sentence" S_is_sentence a.a_is_sentence a.d_is_sentence
  b_is_sentence:Binds K a.d_is_sentence ["some"] []
  m_is_sentence:mg "is_sentence" = some (.ref a.a_is_sentence)
  F_must_be_order:Fun K "must_be_order" "must_be_order" S_must_be_order a.a_must_be_order a.d_must_be_order
  b_must_be_order:Binds K a.d_must_be_order ["order"] []
  m_must_be_order:mg "must_be_order" = some (.ref a.a_must_be_order)
  F_must_be_sentence:Fun K "must_be_sentence" "must_be_sentence" S_must_be_sentence a.a_must_be_sentence a.d_must_be_sentence
  b_must_be_sentence:Binds K a.d_must_be_sentence ["some"] []
  m_must_be_sentence:mg "must_be_sentence" = some (.ref a.a_must_be_sentence)
  F_must_have_mark:Fun K "must_have_mark" "must_have_mark" S_must_have_mark a.a_must_have_mark a.d_must_have_mark
  b_must_have_mark:Binds K a.d_must_have_mark ["order", "letter"] []
  m_must_have_mark:mg "must_have_mark" = some (.ref a.a_must_have_mark)
  F_must_have_marks:Fun K "must_have_marks" "must_have_marks" S_must_have_marks a.a_must_have_marks a.d_must_have_marks
  b_must_have_marks:Binds K a.d_must_have_marks ["order", "sentence"] []
  m_must_have_marks:mg "must_have_marks" = some (.ref a.a_must_have_marks)
  F_tuples_in:Fun K "tuples_in" "tuples_in" S_tuples_in a.a_tuples_in a.d_tuples_in
  b_tuples_in:Binds K a.d_tuples_in ["sentence"] []
  m_tuples_in:mg "tuples_in" = some (.ref a.a_tuples_in)
  F_letters_in:Fun K "letters_in" "letters_in" S_letters_in a.a_letters_in a.d_letters_in
  b_letters_in:Binds K a.d_letters_in ["sentence"] []
  m_letters_in:mg "letters_in" = some (.ref a.a_letters_in)
  F_table_of:Fun K "table_of" "table_of" S_table_of a.a_table_of a.d_table_of
  b_table_of:Binds K a.d_table_of ["sentence", "order"] []
  m_table_of:mg "table_of" = some (.ref a.a_table_of)
  F_table_of_two:Fun K "table_of_two" "table_of_two" S_table_of_two a.a_table_of_two a.d_table_of_two
  b_table_of_two:Binds K a.d_table_of_two ["word", "one", "other", "every"] []
  m_table_of_two:mg "table_of_two" = some (.ref a.a_table_of_two)
  F_Book_init:Fun K "__init__" "Book.__init__" S_Book_init a.a_Book_init a.d_Book_init
  b_Book_init:Binds K a.d_Book_init ["self", "order"] []
  e_Book_init:Meth K a.a_Book "__init__" a.a_Book_init
  F_Book_order:Fun K "order" "Book.order" S_Book_order a.a_Book_order a.d_Book_order
  b_Book_order:Binds K a.d_Book_order ["self"] []
  e_Book_order:Meth K a.a_Book "order" a.a_Book_order
  F_Book_size:Fun K "size" "Book.size" S_Book_size a.a_Book_size a.d_Book_size
  b_Book_size:Binds K a.d_Book_size ["self"] []
  e_Book_size:Meth K a.a_Book "size" a.a_Book_size
  F_Book_enter:Fun K "enter" "Book.enter" S_Book_enter a.a_Book_enter a.d_Book_enter
  b_Book_enter:Binds K a.d_Book_enter ["self", "sentence"] []
  e_Book_enter:Meth K a.a_Book "enter" a.a_Book_enter
  F_Book_room:Fun K "room" "Book.room" S_Book_room a.a_Book_room a.d_Book_room
  b_Book_room:Binds K a.d_Book_room ["self", "number"] []
  e_Book_room:Meth K a.a_Book "room" a.a_Book_room
  F_Book_must_be_room:Fun K "must_be_room" "Book.must_be_room" S_Book_must_be_room a.a_Book_must_be_room a.d_Book_must_be_room
  b_Book_must_be_room:Binds K a.d_Book_must_be_room ["self", "number"] []
  e_Book_must_be_room:Meth K a.a_Book "must_be_room" a.a_Book_must_be_room
  F_Book_place_of:Fun K "place_of" "Book.place_of" S_Book_place_of a.a_Book_place_of a.d_Book_place_of
  b_Book_place_of:Binds K a.d_Book_place_of ["self", "number"] []
  e_Book_place_of:Meth K a.a_Book "place_of" a.a_Book_place_of
  F_Book_going:Fun K "going" "Book.going" S_Book_going a.a_Book_going a.d_Book_going
  b_Book_going:Binds K a.d_Book_going ["self", "number", "value"] []
  e_Book_going:Meth K a.a_Book "going" a.a_Book_going
  F_Book_table_at:Fun K "table_at" "Book.table_at" S_Book_table_at a.a_Book_table_at a.d_Book_table_at
  b_Book_table_at:Binds K a.d_Book_table_at ["self", "number"] []
  e_Book_table_at:Meth K a.a_Book "table_at" a.a_Book_table_at
  F_Book_room_with:Fun K "room_with" "Book.room_with" S_Book_room_with a.a_Book_room_with a.d_Book_room_with
  b_Book_room_with:Binds K a.d_Book_room_with ["self", "table"] []
  e_Book_room_with:Meth K a.a_Book "room_with" a.a_Book_room_with
  F_exchanged:Fun K "exchanged" "exchanged" S_exchanged a.a_exchanged a.d_exchanged
  b_exchanged:Binds K a.d_exchanged ["book", "at"] []
  m_exchanged:mg "exchanged" = some (.ref a.a_exchanged)
  F_reordered:Fun K "reordered" "reordered" S_reordered a.a_reordered a.d_reordered
  b_reordered:Binds K a.d_reordered ["book", "order"] []
  m_reordered:mg "reordered" = some (.ref a.a_reordered)
  F_rooms_in:Fun K "rooms_in" "rooms_in" S_rooms_in a.a_rooms_in a.d_rooms_in
  b_rooms_in:Binds K a.d_rooms_in ["new", "book", "rooms"] []
  m_rooms_in:mg "rooms_in" = some (.ref a.a_rooms_in)
  F_room_in:Fun K "room_in" "room_in" S_room_in a.a_room_in a.d_room_in
  b_room_in:Binds K a.d_room_in ["new", "book", "number", "known"] []
  m_room_in:mg "room_in" = some (.ref a.a_room_in)
  F_x_law_cell_at:Fun K "_law_cell_at" "_law_cell_at" S_x_law_cell_at a.a_x_law_cell_at a.d_x_law_cell_at
  b_x_law_cell_at:Binds K a.d_x_law_cell_at ["script", "k"] []
  m_x_law_cell_at:mg "_law_cell_at" = some (.ref a.a_x_law_cell_at)
  F_x_law_draw:Fun K "_law_draw" "_law_draw" S_x_law_draw a.a_x_law_draw a.d_x_law_draw
  b_x_law_draw:Binds K a.d_x_law_draw ["cell", "k", "bound"] []
  m_x_law_draw:mg "_law_draw" = some (.ref a.a_x_law_draw)
  F_x_law_order:Fun K "_law_order" "_law_order" S_x_law_order a.a_x_law_order a.d_x_law_order
  b_x_law_order:Binds K a.d_x_law_order ["cell", "limit"] []
  m_x_law_order:mg "_law_order" = some (.ref a.a_x_law_order)
  F_x_law_sentence:Fun K "_law_sentence" "_law_sentence" S_x_law_sentence a.a_x_law_sentence a.d_x_law_sentence
  b_x_law_sentence:Binds K a.d_x_law_sentence ["script", "at", "many", "order"] []
  m_x_law_sentence:mg "_law_sentence" = some (.ref a.a_x_law_sentence)
  F_x_law_rows:Fun K "_law_rows" "_law_rows" S_x_law_rows a.a_x_law_rows a.d_x_law_rows
  b_x_law_rows:Binds K a.d_x_law_rows ["size"] []
  m_x_law_rows:mg "_law_rows" = some (.ref a.a_x_law_rows)
  F_x_law_whole:Fun K "_law_whole" "_law_whole" S_x_law_whole a.a_x_law_whole a.d_x_law_whole
  b_x_law_whole:Binds K a.d_x_law_whole ["found"] []
  m_x_law_whole:mg "_law_whole" = some (.ref a.a_x_law_whole)
  F_x_law_leads:Fun K "_law_leads" "_law_leads" S_x_law_leads a.a_x_law_leads a.d_x_law_leads
  b_x_law_leads:Binds K a.d_x_law_leads ["book", "room", "row"] []
  m_x_law_leads:mg "_law_leads" = some (.ref a.a_x_law_leads)
  F_x_law_same:Fun K "_law_same" "_law_same" S_x_law_same a.a_x_law_same a.d_x_law_same
  b_x_law_same:Binds K a.d_x_law_same ["book", "room", "other", "there"] []
  m_x_law_same:mg "_law_same" = some (.ref a.a_x_law_same)
  F_x_law_fine:Fun K "_law_fine" "_law_fine" S_x_law_fine a.a_x_law_fine a.d_x_law_fine
  b_x_law_fine:Binds K a.d_x_law_fine ["book", "order", "found"] []
  m_x_law_fine:mg "_law_fine" = some (.ref a.a_x_law_fine)
  F_x_law_entered:Fun K "_law_entered" "_law_entered" S_x_law_entered a.a_x_law_entered a.d_x_law_entered
  b_x_law_entered:Binds K a.d_x_law_entered ["book", "some", "found"] []
  m_x_law_entered:mg "_law_entered" = some (.ref a.a_x_law_entered)
  F_x_law_which:Fun K "_law_which" "_law_which" S_x_law_which a.a_x_law_which a.d_x_law_which
  b_x_law_which:Binds K a.d_x_law_which ["e"] []
  m_x_law_which:mg "_law_which" = some (.ref a.a_x_law_which)
  F_x_law_is:Fun K "_law_is" "_law_is" S_x_law_is a.a_x_law_is a.d_x_law_is
  b_x_law_is:Binds K a.d_x_law_is ["told", "word"] []
  m_x_law_is:mg "_law_is" = some (.ref a.a_x_law_is)
  F_x_law_met:Fun K "_law_met" "_law_met" S_x_law_met a.a_x_law_met a.d_x_law_met
  b_x_law_met:Binds K a.d_x_law_met ["book", "at"] []
  m_x_law_met:mg "_law_met" = some (.ref a.a_x_law_met)
  F_law:Fun K "law" "law" S_law a.a_law a.d_law
  b_law:Binds K a.d_law ["script"] []
  m_law:mg "law" = some (.ref a.a_law)
  c_Book:Cls K a.a_Book
  m_Book:mg "Book" = some (.ref a.a_Book)
  mk_Book:Mk K a.a_Book a.a_Book_init
  na_Book_marks:NoAttr K a.a_Book "marks"
  na_Book_rooms:NoAttr K a.a_Book "rooms"
  na_Book_tables:NoAttr K a.a_Book "tables"
  na_Book_numbers:NoAttr K a.a_Book "numbers"
  m_BookError:mg "BookError" = some (.ref a.a_BookError)
  m_NoOrder:mg "NoOrder" = some (.ref a.a_NoOrder)
  m_NoSentence:mg "NoSentence" = some (.ref a.a_NoSentence)
  m_NoMark:mg "NoMark" = some (.ref a.a_NoMark)
  m_NoRoom:mg "NoRoom" = some (.ref a.a_NoRoom)
  m_NoRow:mg "NoRow" = some (.ref a.a_NoRow)
  m_NoNumber:mg "NoNumber" = some (.ref a.a_NoNumber)
  m_NoWeights:mg "NoWeights" = some (.ref a.a_NoWeights)
  m_NoShares:mg "NoShares" = some (.ref a.a_NoShares)
  m_NoCover:mg "NoCover" = some (.ref a.a_NoCover)
  m_TooGreat:mg "TooGreat" = some (.ref a.a_TooGreat)
  ac_NoOrder:AskC K a.a_NoOrder
  ac_NoSentence:AskC K a.a_NoSentence
  ac_NoMark:AskC K a.a_NoMark
  ac_NoRoom:AskC K a.a_NoRoom
  ac_NoRow:AskC K a.a_NoRow
  ac_NoNumber:AskC K a.a_NoNumber
  ac_NoWeights:AskC K a.a_NoWeights
  ac_NoShares:AskC K a.a_NoShares
  ac_NoCover:AskC K a.a_NoCover
  ac_TooGreat:AskC K a.a_TooGreat
  xc_NoOrder:ExcC K a.a_BookError a.a_NoOrder
  xc_NoSentence:ExcC K a.a_BookError a.a_NoSentence
  xc_NoMark:ExcC K a.a_BookError a.a_NoMark
  xc_NoRoom:ExcC K a.a_BookError a.a_NoRoom
  xc_NoNumber:ExcC K a.a_BookError a.a_NoNumber
  xb:ExcB K a.a_BookError
  xd:[a.a_BookError,a.a_NoOrder,a.a_NoSentence,a.a_NoMark,a.a_NoRoom,a.a_NoRow,a.a_NoNumber,a.a_NoWeights,a.a_NoShares,a.a_NoCover,a.a_TooGreat].Nodup
  n_ValueError:mg "ValueError" = none
  x_law:∀ (s:Shared) (u:Value),BindsTo s a.d_law ⟨[u],[]⟩ [("script", u)]
  m_MARKS:mg "MARKS" = some (.ref a.a_MARKS)
  q_MARKS:∀ H,SqT K H a.a_MARKS ((["a", "b", "c", "d", "e", "f", "g", "h"]:List Str).map V.str)
  m_MOST_TUPLES:mg "MOST_TUPLES" = some (.int 200 a.t_MOST_TUPLES)
  m_MOST_DEEP:mg "MOST_DEEP" = some (.int 24 a.t_MOST_DEEP)
  m_SHAPES:mg "SHAPES" = some (.ref a.a_SHAPES)
  d_SHAPES:DicK K P w a.a_SHAPES a.kv_SHAPES
  y_SHAPES:∀ k m n,(k,m,n)∈tb_SHAPES→∃ p,valueAt a.kv_SHAPES k = some (.ref p)∧∀ H,SqT K H p [.int m,.int n]
  z_SHAPES:∀ k,(∀ e∈tb_SHAPES,e.1≠k)→valueAt a.kv_SHAPES k = none
  n_all:mg "all" = none
  n_bool:mg "bool" = none
  n_dict:mg "dict" = none
  n_int:mg "int" = none
  n_isinstance:mg "isinstance" = none
  n_len:mg "len" = none
  n_list:mg "list" = none
  n_range:mg "range" = none
  n_set:mg "set" = none
  n_sorted:mg "sorted" = none
  n_str:mg "str" = none
  n_tuple:mg "tuple" = none
  n_zip:mg "zip" = none
theorem txt_mk {P:Program} {w:World} {K:PySem.W.Frag} {h:Heap} {mg:Str→Option Value} (X:K.In h) (G:h.Ns mainGlobals mg)
    {p_Book:Addr}
    {f0 f1 f2 f3 f4 f5 f6 f7 f8 f9 f10 f11 f12 f13 f14 f15 f16 f17 f18 f19 f20 f21 f22 f23 f24 f25 f26 f27 f28 f29 f30 f31 f32 f33 f34 f35 f36 f37 f38 f39 f40 f41 f42 f43 f44 f45 f46 f47 f48 f49 f50:Addr} {d0 d1 d2 d3 d4 d5 d6 d7 d8 d9 d10 d11 d12 d13 d14 d15 d16 d17 d18 d19 d20 d21 d22 d23 d24 d25 d26 d27 d28 d29 d30 d31 d32 d33 d34 d35 d36 d37 d38 d39 d40 d41 d42 d43 d44 d45 d46 d47 d48 d49 d50:FuncData}
    {p_BookError:Addr}
    {p_NoOrder:Addr}
    {p_NoSentence:Addr}
    {p_NoMark:Addr}
    {p_NoRoom:Addr}
    {p_NoRow:Addr}
    {p_NoNumber:Addr}
    {p_NoWeights:Addr}
    {p_NoShares:Addr}
    {p_NoCover:Addr}
    {p_TooGreat:Addr}
    {p_MARKS:Addr}
    {od_MARKS:Option Addr} {it_MARKS:Array Value} {n_MARKS:Nat} {sl_MARKS:Array (Option Value)}
    {t_MOST_TUPLES:Tok}
    {t_MOST_DEEP:Tok}
    {p_SHAPES:Addr}
    {es_SHAPES:Array DictEntry} {ep_SHAPES:Nat}
    {tSHAPES_0:Tok} {pSHAPES_0:Addr} {odSHAPES_0:Option Addr} {itSHAPES_0:Array Value} {nSHAPES_0:Nat} {slSHAPES_0:Array (Option Value)}
    {tSHAPES_1:Tok} {pSHAPES_1:Addr} {odSHAPES_1:Option Addr} {itSHAPES_1:Array Value} {nSHAPES_1:Nat} {slSHAPES_1:Array (Option Value)}
    {tSHAPES_2:Tok} {pSHAPES_2:Addr} {odSHAPES_2:Option Addr} {itSHAPES_2:Array Value} {nSHAPES_2:Nat} {slSHAPES_2:Array (Option Value)}
    {tSHAPES_3:Tok} {pSHAPES_3:Addr} {odSHAPES_3:Option Addr} {itSHAPES_3:Array Value} {nSHAPES_3:Nat} {slSHAPES_3:Array (Option Value)}
    {tSHAPES_4:Tok} {pSHAPES_4:Addr} {odSHAPES_4:Option Addr} {itSHAPES_4:Array Value} {nSHAPES_4:Nat} {slSHAPES_4:Array (Option Value)}
    {tSHAPES_5:Tok} {pSHAPES_5:Addr} {odSHAPES_5:Option Addr} {itSHAPES_5:Array Value} {nSHAPES_5:Nat} {slSHAPES_5:Array (Option Value)}
    {tSHAPES_6:Tok} {pSHAPES_6:Addr} {odSHAPES_6:Option Addr} {itSHAPES_6:Array Value} {nSHAPES_6:Nat} {slSHAPES_6:Array (Option Value)}
    {tSHAPES_7:Tok} {pSHAPES_7:Addr} {odSHAPES_7:Option Addr} {itSHAPES_7:Array Value} {nSHAPES_7:Nat} {slSHAPES_7:Array (Option Value)}
    {tSHAPES_8:Tok} {pSHAPES_8:Addr} {odSHAPES_8:Option Addr} {itSHAPES_8:Array Value} {nSHAPES_8:Nat} {slSHAPES_8:Array (Option Value)}
    {tSHAPES_9:Tok} {pSHAPES_9:Addr} {odSHAPES_9:Option Addr} {itSHAPES_9:Array Value} {nSHAPES_9:Nat} {slSHAPES_9:Array (Option Value)}
    (a_Book:PySem.W.nsIn K mainGlobals "Book" = some (some (.ref p_Book)))
    (a0:PySem.W.nsIn K mainGlobals "all_rows" = some (some (.ref f0)))
    (F0:Fun K "all_rows" "all_rows" S_all_rows f0 d0)
    (a1:PySem.W.nsIn K mainGlobals "rows_with" = some (some (.ref f1)))
    (F1:Fun K "rows_with" "rows_with" S_rows_with f1 d1)
    (a2:PySem.W.nsIn K mainGlobals "flipped" = some (some (.ref f2)))
    (F2:Fun K "flipped" "flipped" S_flipped f2 d2)
    (a3:PySem.W.nsIn K mainGlobals "held_at" = some (some (.ref f3)))
    (F3:Fun K "held_at" "held_at" S_held_at f3 d3)
    (a4:PySem.W.nsIn K mainGlobals "hangs_on" = some (some (.ref f4)))
    (F4:Fun K "hangs_on" "hangs_on" S_hangs_on f4 d4)
    (a5:PySem.W.nsIn K mainGlobals "first_place" = some (some (.ref f5)))
    (F5:Fun K "first_place" "first_place" S_first_place f5 d5)
    (a6:PySem.W.nsIn K mainGlobals "without" = some (some (.ref f6)))
    (F6:Fun K "without" "without" S_without f6 d6)
    (a7:PySem.W.nsIn K mainGlobals "chosen" = some (some (.ref f7)))
    (F7:Fun K "chosen" "chosen" S_chosen f7 d7)
    (a8:PySem.W.nsIn K mainGlobals "is_mark" = some (some (.ref f8)))
    (F8:Fun K "is_mark" "is_mark" S_is_mark f8 d8)
    (a9:PySem.W.nsIn K mainGlobals "is_order" = some (some (.ref f9)))
    (F9:Fun K "is_order" "is_order" S_is_order f9 d9)
    (a10:PySem.W.nsIn K mainGlobals "letters_of" = some (some (.ref f10)))
    (F10:Fun K "letters_of" "letters_of" S_letters_of f10 d10)
    (a11:PySem.W.nsIn K mainGlobals "parts_of" = some (some (.ref f11)))
    (F11:Fun K "parts_of" "parts_of" S_parts_of f11 d11)
    (a12:PySem.W.nsIn K mainGlobals "parts_of_all" = some (some (.ref f12)))
    (F12:Fun K "parts_of_all" "parts_of_all" S_parts_of_all f12 d12)
    (a13:PySem.W.nsIn K mainGlobals "is_shaped" = some (some (.ref f13)))
    (F13:Fun K "is_shaped" "is_shaped" S_is_shaped f13 d13)
    (a14:PySem.W.nsIn K mainGlobals "is_sentence" = some (some (.ref f14)))
    (F14:Fun K "is_sentence" "is_sentence" S_is_sentence f14 d14)
    (a15:PySem.W.nsIn K mainGlobals "must_be_order" = some (some (.ref f15)))
    (F15:Fun K "must_be_order" "must_be_order" S_must_be_order f15 d15)
    (a16:PySem.W.nsIn K mainGlobals "must_be_sentence" = some (some (.ref f16)))
    (F16:Fun K "must_be_sentence" "must_be_sentence" S_must_be_sentence f16 d16)
    (a17:PySem.W.nsIn K mainGlobals "must_have_mark" = some (some (.ref f17)))
    (F17:Fun K "must_have_mark" "must_have_mark" S_must_have_mark f17 d17)
    (a18:PySem.W.nsIn K mainGlobals "must_have_marks" = some (some (.ref f18)))
    (F18:Fun K "must_have_marks" "must_have_marks" S_must_have_marks f18 d18)
    (a19:PySem.W.nsIn K mainGlobals "tuples_in" = some (some (.ref f19)))
    (F19:Fun K "tuples_in" "tuples_in" S_tuples_in f19 d19)
    (a20:PySem.W.nsIn K mainGlobals "letters_in" = some (some (.ref f20)))
    (F20:Fun K "letters_in" "letters_in" S_letters_in f20 d20)
    (a21:PySem.W.nsIn K mainGlobals "table_of" = some (some (.ref f21)))
    (F21:Fun K "table_of" "table_of" S_table_of f21 d21)
    (a22:PySem.W.nsIn K mainGlobals "table_of_two" = some (some (.ref f22)))
    (F22:Fun K "table_of_two" "table_of_two" S_table_of_two f22 d22)
    (a23:PySem.W.findIn K (.ref p_Book) "__init__" = some (some (.ref f23)))
    (i23:PySem.W.isFn K (.ref f23) = true)
    (F23:Fun K "__init__" "Book.__init__" S_Book_init f23 d23)
    (a24:PySem.W.findIn K (.ref p_Book) "order" = some (some (.ref f24)))
    (i24:PySem.W.isFn K (.ref f24) = true)
    (F24:Fun K "order" "Book.order" S_Book_order f24 d24)
    (a25:PySem.W.findIn K (.ref p_Book) "size" = some (some (.ref f25)))
    (i25:PySem.W.isFn K (.ref f25) = true)
    (F25:Fun K "size" "Book.size" S_Book_size f25 d25)
    (a26:PySem.W.findIn K (.ref p_Book) "enter" = some (some (.ref f26)))
    (i26:PySem.W.isFn K (.ref f26) = true)
    (F26:Fun K "enter" "Book.enter" S_Book_enter f26 d26)
    (a27:PySem.W.findIn K (.ref p_Book) "room" = some (some (.ref f27)))
    (i27:PySem.W.isFn K (.ref f27) = true)
    (F27:Fun K "room" "Book.room" S_Book_room f27 d27)
    (a28:PySem.W.findIn K (.ref p_Book) "must_be_room" = some (some (.ref f28)))
    (i28:PySem.W.isFn K (.ref f28) = true)
    (F28:Fun K "must_be_room" "Book.must_be_room" S_Book_must_be_room f28 d28)
    (a29:PySem.W.findIn K (.ref p_Book) "place_of" = some (some (.ref f29)))
    (i29:PySem.W.isFn K (.ref f29) = true)
    (F29:Fun K "place_of" "Book.place_of" S_Book_place_of f29 d29)
    (a30:PySem.W.findIn K (.ref p_Book) "going" = some (some (.ref f30)))
    (i30:PySem.W.isFn K (.ref f30) = true)
    (F30:Fun K "going" "Book.going" S_Book_going f30 d30)
    (a31:PySem.W.findIn K (.ref p_Book) "table_at" = some (some (.ref f31)))
    (i31:PySem.W.isFn K (.ref f31) = true)
    (F31:Fun K "table_at" "Book.table_at" S_Book_table_at f31 d31)
    (a32:PySem.W.findIn K (.ref p_Book) "room_with" = some (some (.ref f32)))
    (i32:PySem.W.isFn K (.ref f32) = true)
    (F32:Fun K "room_with" "Book.room_with" S_Book_room_with f32 d32)
    (a33:PySem.W.nsIn K mainGlobals "exchanged" = some (some (.ref f33)))
    (F33:Fun K "exchanged" "exchanged" S_exchanged f33 d33)
    (a34:PySem.W.nsIn K mainGlobals "reordered" = some (some (.ref f34)))
    (F34:Fun K "reordered" "reordered" S_reordered f34 d34)
    (a35:PySem.W.nsIn K mainGlobals "rooms_in" = some (some (.ref f35)))
    (F35:Fun K "rooms_in" "rooms_in" S_rooms_in f35 d35)
    (a36:PySem.W.nsIn K mainGlobals "room_in" = some (some (.ref f36)))
    (F36:Fun K "room_in" "room_in" S_room_in f36 d36)
    (a37:PySem.W.nsIn K mainGlobals "_law_cell_at" = some (some (.ref f37)))
    (F37:Fun K "_law_cell_at" "_law_cell_at" S_x_law_cell_at f37 d37)
    (a38:PySem.W.nsIn K mainGlobals "_law_draw" = some (some (.ref f38)))
    (F38:Fun K "_law_draw" "_law_draw" S_x_law_draw f38 d38)
    (a39:PySem.W.nsIn K mainGlobals "_law_order" = some (some (.ref f39)))
    (F39:Fun K "_law_order" "_law_order" S_x_law_order f39 d39)
    (a40:PySem.W.nsIn K mainGlobals "_law_sentence" = some (some (.ref f40)))
    (F40:Fun K "_law_sentence" "_law_sentence" S_x_law_sentence f40 d40)
    (a41:PySem.W.nsIn K mainGlobals "_law_rows" = some (some (.ref f41)))
    (F41:Fun K "_law_rows" "_law_rows" S_x_law_rows f41 d41)
    (a42:PySem.W.nsIn K mainGlobals "_law_whole" = some (some (.ref f42)))
    (F42:Fun K "_law_whole" "_law_whole" S_x_law_whole f42 d42)
    (a43:PySem.W.nsIn K mainGlobals "_law_leads" = some (some (.ref f43)))
    (F43:Fun K "_law_leads" "_law_leads" S_x_law_leads f43 d43)
    (a44:PySem.W.nsIn K mainGlobals "_law_same" = some (some (.ref f44)))
    (F44:Fun K "_law_same" "_law_same" S_x_law_same f44 d44)
    (a45:PySem.W.nsIn K mainGlobals "_law_fine" = some (some (.ref f45)))
    (F45:Fun K "_law_fine" "_law_fine" S_x_law_fine f45 d45)
    (a46:PySem.W.nsIn K mainGlobals "_law_entered" = some (some (.ref f46)))
    (F46:Fun K "_law_entered" "_law_entered" S_x_law_entered f46 d46)
    (a47:PySem.W.nsIn K mainGlobals "_law_which" = some (some (.ref f47)))
    (F47:Fun K "_law_which" "_law_which" S_x_law_which f47 d47)
    (a48:PySem.W.nsIn K mainGlobals "_law_is" = some (some (.ref f48)))
    (F48:Fun K "_law_is" "_law_is" S_x_law_is f48 d48)
    (a49:PySem.W.nsIn K mainGlobals "_law_met" = some (some (.ref f49)))
    (F49:Fun K "_law_met" "_law_met" S_x_law_met f49 d49)
    (a50:PySem.W.nsIn K mainGlobals "law" = some (some (.ref f50)))
    (F50:Fun K "law" "law" S_law f50 d50)
    (pg_Book:PySem.W.plainGet K p_Book Str.empty = true)
    (hd_Book:PySem.W.hasDictIn K p_Book = true)
    (po_Book:PySem.W.plainOver K p_Book = true)
    (sa_Book:PySem.W.findIn K (.ref p_Book) "__setattr__" = some (some (.builtin "object.__setattr__")))
    (mk_Book:PySem.W.makesIn K p_Book = true)
    (kc_Book:PySem.W.keepIn K (.ref p_Book) = true)
    (na_Book_marks:PySem.W.findIn K (.ref p_Book) "marks" = some none)
    (na_Book_rooms:PySem.W.findIn K (.ref p_Book) "rooms" = some none)
    (na_Book_tables:PySem.W.findIn K (.ref p_Book) "tables" = some none)
    (na_Book_numbers:PySem.W.findIn K (.ref p_Book) "numbers" = some none)
    (a_BookError:PySem.W.nsIn K mainGlobals "BookError" = some (some (.ref p_BookError)))
    (a_NoOrder:PySem.W.nsIn K mainGlobals "NoOrder" = some (some (.ref p_NoOrder)))
    (a_NoSentence:PySem.W.nsIn K mainGlobals "NoSentence" = some (some (.ref p_NoSentence)))
    (a_NoMark:PySem.W.nsIn K mainGlobals "NoMark" = some (some (.ref p_NoMark)))
    (a_NoRoom:PySem.W.nsIn K mainGlobals "NoRoom" = some (some (.ref p_NoRoom)))
    (a_NoRow:PySem.W.nsIn K mainGlobals "NoRow" = some (some (.ref p_NoRow)))
    (a_NoNumber:PySem.W.nsIn K mainGlobals "NoNumber" = some (some (.ref p_NoNumber)))
    (a_NoWeights:PySem.W.nsIn K mainGlobals "NoWeights" = some (some (.ref p_NoWeights)))
    (a_NoShares:PySem.W.nsIn K mainGlobals "NoShares" = some (some (.ref p_NoShares)))
    (a_NoCover:PySem.W.nsIn K mainGlobals "NoCover" = some (some (.ref p_NoCover)))
    (a_TooGreat:PySem.W.nsIn K mainGlobals "TooGreat" = some (some (.ref p_TooGreat)))
    (cl_NoOrder:PySem.W.isClsIn K p_NoOrder = true)
    (ty_NoOrder:PySem.W.typeIn K (.ref p_NoOrder) = some (.type "type"))
    (cl_NoSentence:PySem.W.isClsIn K p_NoSentence = true)
    (ty_NoSentence:PySem.W.typeIn K (.ref p_NoSentence) = some (.type "type"))
    (cl_NoMark:PySem.W.isClsIn K p_NoMark = true)
    (ty_NoMark:PySem.W.typeIn K (.ref p_NoMark) = some (.type "type"))
    (cl_NoRoom:PySem.W.isClsIn K p_NoRoom = true)
    (ty_NoRoom:PySem.W.typeIn K (.ref p_NoRoom) = some (.type "type"))
    (cl_NoRow:PySem.W.isClsIn K p_NoRow = true)
    (ty_NoRow:PySem.W.typeIn K (.ref p_NoRow) = some (.type "type"))
    (cl_NoNumber:PySem.W.isClsIn K p_NoNumber = true)
    (ty_NoNumber:PySem.W.typeIn K (.ref p_NoNumber) = some (.type "type"))
    (cl_NoWeights:PySem.W.isClsIn K p_NoWeights = true)
    (ty_NoWeights:PySem.W.typeIn K (.ref p_NoWeights) = some (.type "type"))
    (cl_NoShares:PySem.W.isClsIn K p_NoShares = true)
    (ty_NoShares:PySem.W.typeIn K (.ref p_NoShares) = some (.type "type"))
    (cl_NoCover:PySem.W.isClsIn K p_NoCover = true)
    (ty_NoCover:PySem.W.typeIn K (.ref p_NoCover) = some (.type "type"))
    (cl_TooGreat:PySem.W.isClsIn K p_TooGreat = true)
    (ty_TooGreat:PySem.W.typeIn K (.ref p_TooGreat) = some (.type "type"))
    (ow_NoOrder:PySem.W.excIn K p_NoOrder bmVE "ValueError.__new__" = true)
    (ga_NoOrder:PySem.W.findIn K (.ref p_NoOrder) "__getattribute__" = some (some (.builtin "BaseException.__getattribute__")))
    (gt_NoOrder:PySem.W.findIn K (.ref p_NoOrder) "__getattr__" = some none)
    (ca_NoOrder:PySem.W.findIn K (.ref p_NoOrder) "__class__" = some (some (.builtin "object.__class__")))
    (mr_NoOrder:(PySem.W.clsIn K p_NoOrder).map (·.mro) = some (.ref p_NoOrder :: .ref p_BookError :: bmVE))
    (ow_NoSentence:PySem.W.excIn K p_NoSentence bmVE "ValueError.__new__" = true)
    (ga_NoSentence:PySem.W.findIn K (.ref p_NoSentence) "__getattribute__" = some (some (.builtin "BaseException.__getattribute__")))
    (gt_NoSentence:PySem.W.findIn K (.ref p_NoSentence) "__getattr__" = some none)
    (ca_NoSentence:PySem.W.findIn K (.ref p_NoSentence) "__class__" = some (some (.builtin "object.__class__")))
    (mr_NoSentence:(PySem.W.clsIn K p_NoSentence).map (·.mro) = some (.ref p_NoSentence :: .ref p_BookError :: bmVE))
    (ow_NoMark:PySem.W.excIn K p_NoMark bmVE "ValueError.__new__" = true)
    (ga_NoMark:PySem.W.findIn K (.ref p_NoMark) "__getattribute__" = some (some (.builtin "BaseException.__getattribute__")))
    (gt_NoMark:PySem.W.findIn K (.ref p_NoMark) "__getattr__" = some none)
    (ca_NoMark:PySem.W.findIn K (.ref p_NoMark) "__class__" = some (some (.builtin "object.__class__")))
    (mr_NoMark:(PySem.W.clsIn K p_NoMark).map (·.mro) = some (.ref p_NoMark :: .ref p_BookError :: bmVE))
    (ow_NoRoom:PySem.W.excIn K p_NoRoom bmVE "ValueError.__new__" = true)
    (ga_NoRoom:PySem.W.findIn K (.ref p_NoRoom) "__getattribute__" = some (some (.builtin "BaseException.__getattribute__")))
    (gt_NoRoom:PySem.W.findIn K (.ref p_NoRoom) "__getattr__" = some none)
    (ca_NoRoom:PySem.W.findIn K (.ref p_NoRoom) "__class__" = some (some (.builtin "object.__class__")))
    (mr_NoRoom:(PySem.W.clsIn K p_NoRoom).map (·.mro) = some (.ref p_NoRoom :: .ref p_BookError :: bmVE))
    (ow_NoNumber:PySem.W.excIn K p_NoNumber bmVE "ValueError.__new__" = true)
    (ga_NoNumber:PySem.W.findIn K (.ref p_NoNumber) "__getattribute__" = some (some (.builtin "BaseException.__getattribute__")))
    (gt_NoNumber:PySem.W.findIn K (.ref p_NoNumber) "__getattr__" = some none)
    (ca_NoNumber:PySem.W.findIn K (.ref p_NoNumber) "__class__" = some (some (.builtin "object.__class__")))
    (mr_NoNumber:(PySem.W.clsIn K p_NoNumber).map (·.mro) = some (.ref p_NoNumber :: .ref p_BookError :: bmVE))
    (cl_BookError:PySem.W.isClsIn K p_BookError = true)
    (ty_BookError:PySem.W.typeIn K (.ref p_BookError) = some (.type "type"))
    (bx_BookError:PySem.W.mroIn K p_BookError (.type "BaseException") = some true)
    (x_d:decide ([p_BookError,p_NoOrder,p_NoSentence,p_NoMark,p_NoRoom,p_NoRow,p_NoNumber,p_NoWeights,p_NoShares,p_NoCover,p_TooGreat].Nodup) = true)
    (z_ValueError:PySem.W.nsIn K mainGlobals "ValueError" = some none)
    (a_MARKS:PySem.W.nsIn K mainGlobals "MARKS" = some (some (.ref p_MARKS)))
    (l_MARKS:K.lookup p_MARKS = some ⟨.type "tuple", od_MARKS,.seq it_MARKS n_MARKS,sl_MARKS⟩)
    (v_MARKS:it_MARKS.toList.map absV = ((["a", "b", "c", "d", "e", "f", "g", "h"]:List Str).map V.str).map some)
    (a_MOST_TUPLES:PySem.W.nsIn K mainGlobals "MOST_TUPLES" = some (some (.int 200 t_MOST_TUPLES)))
    (a_MOST_DEEP:PySem.W.nsIn K mainGlobals "MOST_DEEP" = some (some (.int 24 t_MOST_DEEP)))
    (a_SHAPES:PySem.W.nsIn K mainGlobals "SHAPES" = some (some (.ref p_SHAPES)))
    (l_SHAPES:K.lookup p_SHAPES = some ⟨.type "dict", none,.dict es_SHAPES ep_SHAPES,#[]⟩)
    (e_SHAPES:es_SHAPES.toList = [⟨hashStr w "yes", .str "yes" tSHAPES_0,.ref pSHAPES_0⟩,⟨hashStr w "no", .str "no" tSHAPES_1,.ref pSHAPES_1⟩,⟨hashStr w "mark", .str "mark" tSHAPES_2,.ref pSHAPES_2⟩,⟨hashStr w "not", .str "not" tSHAPES_3,.ref pSHAPES_3⟩,⟨hashStr w "and", .str "and" tSHAPES_4,.ref pSHAPES_4⟩,⟨hashStr w "or", .str "or" tSHAPES_5,.ref pSHAPES_5⟩,⟨hashStr w "either", .str "either" tSHAPES_6,.ref pSHAPES_6⟩,⟨hashStr w "if", .str "if" tSHAPES_7,.ref pSHAPES_7⟩,⟨hashStr w "some", .str "some" tSHAPES_8,.ref pSHAPES_8⟩,⟨hashStr w "each", .str "each" tSHAPES_9,.ref pSHAPES_9⟩])
    (s_SHAPES:(p_SHAPES == sysModules) = false)
    (lSHAPES_0:K.lookup pSHAPES_0 = some ⟨.type "tuple", odSHAPES_0,.seq itSHAPES_0 nSHAPES_0,slSHAPES_0⟩)
    (vSHAPES_0:itSHAPES_0.toList.map absV = [V.int 0,V.int 0].map some)
    (lSHAPES_1:K.lookup pSHAPES_1 = some ⟨.type "tuple", odSHAPES_1,.seq itSHAPES_1 nSHAPES_1,slSHAPES_1⟩)
    (vSHAPES_1:itSHAPES_1.toList.map absV = [V.int 0,V.int 0].map some)
    (lSHAPES_2:K.lookup pSHAPES_2 = some ⟨.type "tuple", odSHAPES_2,.seq itSHAPES_2 nSHAPES_2,slSHAPES_2⟩)
    (vSHAPES_2:itSHAPES_2.toList.map absV = [V.int 1,V.int 0].map some)
    (lSHAPES_3:K.lookup pSHAPES_3 = some ⟨.type "tuple", odSHAPES_3,.seq itSHAPES_3 nSHAPES_3,slSHAPES_3⟩)
    (vSHAPES_3:itSHAPES_3.toList.map absV = [V.int 0,V.int 1].map some)
    (lSHAPES_4:K.lookup pSHAPES_4 = some ⟨.type "tuple", odSHAPES_4,.seq itSHAPES_4 nSHAPES_4,slSHAPES_4⟩)
    (vSHAPES_4:itSHAPES_4.toList.map absV = [V.int 0,V.int 2].map some)
    (lSHAPES_5:K.lookup pSHAPES_5 = some ⟨.type "tuple", odSHAPES_5,.seq itSHAPES_5 nSHAPES_5,slSHAPES_5⟩)
    (vSHAPES_5:itSHAPES_5.toList.map absV = [V.int 0,V.int 2].map some)
    (lSHAPES_6:K.lookup pSHAPES_6 = some ⟨.type "tuple", odSHAPES_6,.seq itSHAPES_6 nSHAPES_6,slSHAPES_6⟩)
    (vSHAPES_6:itSHAPES_6.toList.map absV = [V.int 0,V.int 2].map some)
    (lSHAPES_7:K.lookup pSHAPES_7 = some ⟨.type "tuple", odSHAPES_7,.seq itSHAPES_7 nSHAPES_7,slSHAPES_7⟩)
    (vSHAPES_7:itSHAPES_7.toList.map absV = [V.int 0,V.int 2].map some)
    (lSHAPES_8:K.lookup pSHAPES_8 = some ⟨.type "tuple", odSHAPES_8,.seq itSHAPES_8 nSHAPES_8,slSHAPES_8⟩)
    (vSHAPES_8:itSHAPES_8.toList.map absV = [V.int 1,V.int 1].map some)
    (lSHAPES_9:K.lookup pSHAPES_9 = some ⟨.type "tuple", odSHAPES_9,.seq itSHAPES_9 nSHAPES_9,slSHAPES_9⟩)
    (vSHAPES_9:itSHAPES_9.toList.map absV = [V.int 1,V.int 1].map some)
    (z_all:PySem.W.nsIn K mainGlobals "all" = some none)
    (z_bool:PySem.W.nsIn K mainGlobals "bool" = some none)
    (z_dict:PySem.W.nsIn K mainGlobals "dict" = some none)
    (z_int:PySem.W.nsIn K mainGlobals "int" = some none)
    (z_isinstance:PySem.W.nsIn K mainGlobals "isinstance" = some none)
    (z_len:PySem.W.nsIn K mainGlobals "len" = some none)
    (z_list:PySem.W.nsIn K mainGlobals "list" = some none)
    (z_range:PySem.W.nsIn K mainGlobals "range" = some none)
    (z_set:PySem.W.nsIn K mainGlobals "set" = some none)
    (z_sorted:PySem.W.nsIn K mainGlobals "sorted" = some none)
    (z_str:PySem.W.nsIn K mainGlobals "str" = some none)
    (z_tuple:PySem.W.nsIn K mainGlobals "tuple" = some none)
    (z_zip:PySem.W.nsIn K mainGlobals "zip" = some none) :
    ∃ a:Ad,Txt P w K mg a:=by
  exact ⟨⟨f0,d0,f1,d1,f2,d2,f3,d3,f4,d4,f5,d5,f6,d6,f7,d7,f8,d8,f9,d9,f10,d10,f11,d11,f12,d12,f13,d13,f14,d14,f15,d15,f16,d16,f17,d17,f18,d18,f19,d19,f20,d20,f21,d21,f22,d22,f23,d23,f24,d24,f25,d25,f26,d26,f27,d27,f28,d28,f29,d29,f30,d30,f31,d31,f32,d32,f33,d33,f34,d34,f35,d35,f36,d36,f37,d37,f38,d38,f39,d39,f40,d40,f41,d41,f42,d42,f43,d43,f44,d44,f45,d45,f46,d46,f47,d47,f48,d48,f49,d49,f50,d50,p_Book,p_BookError,p_NoOrder,p_NoSentence,p_NoMark,p_NoRoom,p_NoRow,p_NoNumber,p_NoWeights,p_NoShares,p_NoCover,p_TooGreat,p_MARKS,t_MOST_TUPLES,t_MOST_DEEP,p_SHAPES,[("yes", .ref pSHAPES_0),("no", .ref pSHAPES_1),("mark", .ref pSHAPES_2),("not", .ref pSHAPES_3),("and", .ref pSHAPES_4),("or", .ref pSHAPES_5),("either", .ref pSHAPES_6),("if", .ref pSHAPES_7),("some", .ref pSHAPES_8),("each", .ref pSHAPES_9)]⟩,{
    m_Book:=PySem.W.mg_of X G a_Book
    F_all_rows:=F0
    b_all_rows:=F0.binds fun _ _ _ _ _ _ us hl=>by obtain ⟨_,rfl⟩:=ln_1 hl; rfl
    m_all_rows:=PySem.W.mg_of X G a0
    F_rows_with:=F1
    b_rows_with:=F1.binds fun _ _ _ _ _ _ us hl=>by obtain ⟨_,_,rfl⟩:=ln_2 hl; rfl
    m_rows_with:=PySem.W.mg_of X G a1
    F_flipped:=F2
    b_flipped:=F2.binds fun _ _ _ _ _ _ us hl=>by obtain ⟨_,_,_,rfl⟩:=ln_3 hl; rfl
    m_flipped:=PySem.W.mg_of X G a2
    F_held_at:=F3
    b_held_at:=F3.binds fun _ _ _ _ _ _ us hl=>by obtain ⟨_,_,_,_,rfl⟩:=ln_4 hl; rfl
    m_held_at:=PySem.W.mg_of X G a3
    F_hangs_on:=F4
    b_hangs_on:=F4.binds fun _ _ _ _ _ _ us hl=>by obtain ⟨_,_,_,rfl⟩:=ln_3 hl; rfl
    m_hangs_on:=PySem.W.mg_of X G a4
    F_first_place:=F5
    b_first_place:=F5.binds fun _ _ _ _ _ _ us hl=>by obtain ⟨_,_,rfl⟩:=ln_2 hl; rfl
    m_first_place:=PySem.W.mg_of X G a5
    F_without:=F6
    b_without:=F6.binds fun _ _ _ _ _ _ us hl=>by obtain ⟨_,_,rfl⟩:=ln_2 hl; rfl
    m_without:=PySem.W.mg_of X G a6
    F_chosen:=F7
    b_chosen:=F7.binds fun _ _ _ _ _ _ us hl=>by obtain ⟨_,_,_,rfl⟩:=ln_3 hl; rfl
    m_chosen:=PySem.W.mg_of X G a7
    F_is_mark:=F8
    b_is_mark:=F8.binds fun _ _ _ _ _ _ us hl=>by obtain ⟨_,rfl⟩:=ln_1 hl; rfl
    m_is_mark:=PySem.W.mg_of X G a8
    F_is_order:=F9
    b_is_order:=F9.binds fun _ _ _ _ _ _ us hl=>by obtain ⟨_,rfl⟩:=ln_1 hl; rfl
    m_is_order:=PySem.W.mg_of X G a9
    F_letters_of:=F10
    b_letters_of:=F10.binds fun _ _ _ _ _ _ us hl=>by obtain ⟨_,rfl⟩:=ln_1 hl; rfl
    m_letters_of:=PySem.W.mg_of X G a10
    F_parts_of:=F11
    b_parts_of:=F11.binds fun _ _ _ _ _ _ us hl=>by obtain ⟨_,rfl⟩:=ln_1 hl; rfl
    m_parts_of:=PySem.W.mg_of X G a11
    F_parts_of_all:=F12
    b_parts_of_all:=F12.binds fun _ _ _ _ _ _ us hl=>by obtain ⟨_,rfl⟩:=ln_1 hl; rfl
    m_parts_of_all:=PySem.W.mg_of X G a12
    F_is_shaped:=F13
    b_is_shaped:=F13.binds fun _ _ _ _ _ _ us hl=>by obtain ⟨_,rfl⟩:=ln_1 hl; rfl
    m_is_shaped:=PySem.W.mg_of X G a13
    F_is_sentence:=F14
    b_is_sentence:=F14.binds fun _ _ _ _ _ _ us hl=>by obtain ⟨_,rfl⟩:=ln_1 hl; rfl
    m_is_sentence:=PySem.W.mg_of X G a14
    F_must_be_order:=F15
    b_must_be_order:=F15.binds fun _ _ _ _ _ _ us hl=>by obtain ⟨_,rfl⟩:=ln_1 hl; rfl
    m_must_be_order:=PySem.W.mg_of X G a15
    F_must_be_sentence:=F16
    b_must_be_sentence:=F16.binds fun _ _ _ _ _ _ us hl=>by obtain ⟨_,rfl⟩:=ln_1 hl; rfl
    m_must_be_sentence:=PySem.W.mg_of X G a16
    F_must_have_mark:=F17
    b_must_have_mark:=F17.binds fun _ _ _ _ _ _ us hl=>by obtain ⟨_,_,rfl⟩:=ln_2 hl; rfl
    m_must_have_mark:=PySem.W.mg_of X G a17
    F_must_have_marks:=F18
    b_must_have_marks:=F18.binds fun _ _ _ _ _ _ us hl=>by obtain ⟨_,_,rfl⟩:=ln_2 hl; rfl
    m_must_have_marks:=PySem.W.mg_of X G a18
    F_tuples_in:=F19
    b_tuples_in:=F19.binds fun _ _ _ _ _ _ us hl=>by obtain ⟨_,rfl⟩:=ln_1 hl; rfl
    m_tuples_in:=PySem.W.mg_of X G a19
    F_letters_in:=F20
    b_letters_in:=F20.binds fun _ _ _ _ _ _ us hl=>by obtain ⟨_,rfl⟩:=ln_1 hl; rfl
    m_letters_in:=PySem.W.mg_of X G a20
    F_table_of:=F21
    b_table_of:=F21.binds fun _ _ _ _ _ _ us hl=>by obtain ⟨_,_,rfl⟩:=ln_2 hl; rfl
    m_table_of:=PySem.W.mg_of X G a21
    F_table_of_two:=F22
    b_table_of_two:=F22.binds fun _ _ _ _ _ _ us hl=>by obtain ⟨_,_,_,_,rfl⟩:=ln_4 hl; rfl
    m_table_of_two:=PySem.W.mg_of X G a22
    F_Book_init:=F23
    b_Book_init:=F23.binds fun _ _ _ _ _ _ us hl=>by obtain ⟨_,_,rfl⟩:=ln_2 hl; rfl
    e_Book_init:=⟨a23,i23,F23.2⟩
    mk_Book:=⟨mk_Book,a23,i23,kc_Book⟩
    F_Book_order:=F24
    b_Book_order:=F24.binds fun _ _ _ _ _ _ us hl=>by obtain ⟨_,rfl⟩:=ln_1 hl; rfl
    e_Book_order:=⟨a24,i24,F24.2⟩
    F_Book_size:=F25
    b_Book_size:=F25.binds fun _ _ _ _ _ _ us hl=>by obtain ⟨_,rfl⟩:=ln_1 hl; rfl
    e_Book_size:=⟨a25,i25,F25.2⟩
    F_Book_enter:=F26
    b_Book_enter:=F26.binds fun _ _ _ _ _ _ us hl=>by obtain ⟨_,_,rfl⟩:=ln_2 hl; rfl
    e_Book_enter:=⟨a26,i26,F26.2⟩
    F_Book_room:=F27
    b_Book_room:=F27.binds fun _ _ _ _ _ _ us hl=>by obtain ⟨_,_,rfl⟩:=ln_2 hl; rfl
    e_Book_room:=⟨a27,i27,F27.2⟩
    F_Book_must_be_room:=F28
    b_Book_must_be_room:=F28.binds fun _ _ _ _ _ _ us hl=>by obtain ⟨_,_,rfl⟩:=ln_2 hl; rfl
    e_Book_must_be_room:=⟨a28,i28,F28.2⟩
    F_Book_place_of:=F29
    b_Book_place_of:=F29.binds fun _ _ _ _ _ _ us hl=>by obtain ⟨_,_,rfl⟩:=ln_2 hl; rfl
    e_Book_place_of:=⟨a29,i29,F29.2⟩
    F_Book_going:=F30
    b_Book_going:=F30.binds fun _ _ _ _ _ _ us hl=>by obtain ⟨_,_,_,rfl⟩:=ln_3 hl; rfl
    e_Book_going:=⟨a30,i30,F30.2⟩
    F_Book_table_at:=F31
    b_Book_table_at:=F31.binds fun _ _ _ _ _ _ us hl=>by obtain ⟨_,_,rfl⟩:=ln_2 hl; rfl
    e_Book_table_at:=⟨a31,i31,F31.2⟩
    F_Book_room_with:=F32
    b_Book_room_with:=F32.binds fun _ _ _ _ _ _ us hl=>by obtain ⟨_,_,rfl⟩:=ln_2 hl; rfl
    e_Book_room_with:=⟨a32,i32,F32.2⟩
    F_exchanged:=F33
    b_exchanged:=F33.binds fun _ _ _ _ _ _ us hl=>by obtain ⟨_,_,rfl⟩:=ln_2 hl; rfl
    m_exchanged:=PySem.W.mg_of X G a33
    F_reordered:=F34
    b_reordered:=F34.binds fun _ _ _ _ _ _ us hl=>by obtain ⟨_,_,rfl⟩:=ln_2 hl; rfl
    m_reordered:=PySem.W.mg_of X G a34
    F_rooms_in:=F35
    b_rooms_in:=F35.binds fun _ _ _ _ _ _ us hl=>by obtain ⟨_,_,_,rfl⟩:=ln_3 hl; rfl
    m_rooms_in:=PySem.W.mg_of X G a35
    F_room_in:=F36
    b_room_in:=F36.binds fun _ _ _ _ _ _ us hl=>by obtain ⟨_,_,_,_,rfl⟩:=ln_4 hl; rfl
    m_room_in:=PySem.W.mg_of X G a36
    F_x_law_cell_at:=F37
    b_x_law_cell_at:=F37.binds fun _ _ _ _ _ _ us hl=>by obtain ⟨_,_,rfl⟩:=ln_2 hl; rfl
    m_x_law_cell_at:=PySem.W.mg_of X G a37
    F_x_law_draw:=F38
    b_x_law_draw:=F38.binds fun _ _ _ _ _ _ us hl=>by obtain ⟨_,_,_,rfl⟩:=ln_3 hl; rfl
    m_x_law_draw:=PySem.W.mg_of X G a38
    F_x_law_order:=F39
    b_x_law_order:=F39.binds fun _ _ _ _ _ _ us hl=>by obtain ⟨_,_,rfl⟩:=ln_2 hl; rfl
    m_x_law_order:=PySem.W.mg_of X G a39
    F_x_law_sentence:=F40
    b_x_law_sentence:=F40.binds fun _ _ _ _ _ _ us hl=>by obtain ⟨_,_,_,_,rfl⟩:=ln_4 hl; rfl
    m_x_law_sentence:=PySem.W.mg_of X G a40
    F_x_law_rows:=F41
    b_x_law_rows:=F41.binds fun _ _ _ _ _ _ us hl=>by obtain ⟨_,rfl⟩:=ln_1 hl; rfl
    m_x_law_rows:=PySem.W.mg_of X G a41
    F_x_law_whole:=F42
    b_x_law_whole:=F42.binds fun _ _ _ _ _ _ us hl=>by obtain ⟨_,rfl⟩:=ln_1 hl; rfl
    m_x_law_whole:=PySem.W.mg_of X G a42
    F_x_law_leads:=F43
    b_x_law_leads:=F43.binds fun _ _ _ _ _ _ us hl=>by obtain ⟨_,_,_,rfl⟩:=ln_3 hl; rfl
    m_x_law_leads:=PySem.W.mg_of X G a43
    F_x_law_same:=F44
    b_x_law_same:=F44.binds fun _ _ _ _ _ _ us hl=>by obtain ⟨_,_,_,_,rfl⟩:=ln_4 hl; rfl
    m_x_law_same:=PySem.W.mg_of X G a44
    F_x_law_fine:=F45
    b_x_law_fine:=F45.binds fun _ _ _ _ _ _ us hl=>by obtain ⟨_,_,_,rfl⟩:=ln_3 hl; rfl
    m_x_law_fine:=PySem.W.mg_of X G a45
    F_x_law_entered:=F46
    b_x_law_entered:=F46.binds fun _ _ _ _ _ _ us hl=>by obtain ⟨_,_,_,rfl⟩:=ln_3 hl; rfl
    m_x_law_entered:=PySem.W.mg_of X G a46
    F_x_law_which:=F47
    b_x_law_which:=F47.binds fun _ _ _ _ _ _ us hl=>by obtain ⟨_,rfl⟩:=ln_1 hl; rfl
    m_x_law_which:=PySem.W.mg_of X G a47
    F_x_law_is:=F48
    b_x_law_is:=F48.binds fun _ _ _ _ _ _ us hl=>by obtain ⟨_,_,rfl⟩:=ln_2 hl; rfl
    m_x_law_is:=PySem.W.mg_of X G a48
    F_x_law_met:=F49
    b_x_law_met:=F49.binds fun _ _ _ _ _ _ us hl=>by obtain ⟨_,_,rfl⟩:=ln_2 hl; rfl
    m_x_law_met:=PySem.W.mg_of X G a49
    F_law:=F50
    b_law:=F50.binds fun _ _ _ _ _ _ us hl=>by obtain ⟨_,rfl⟩:=ln_1 hl; rfl
    m_law:=PySem.W.mg_of X G a50
    c_Book:=⟨pg_Book,hd_Book,po_Book,sa_Book⟩
    na_Book_marks:=na_Book_marks
    na_Book_rooms:=na_Book_rooms
    na_Book_tables:=na_Book_tables
    na_Book_numbers:=na_Book_numbers
    m_BookError:=PySem.W.mg_of X G a_BookError
    m_NoOrder:=PySem.W.mg_of X G a_NoOrder
    m_NoSentence:=PySem.W.mg_of X G a_NoSentence
    m_NoMark:=PySem.W.mg_of X G a_NoMark
    m_NoRoom:=PySem.W.mg_of X G a_NoRoom
    m_NoRow:=PySem.W.mg_of X G a_NoRow
    m_NoNumber:=PySem.W.mg_of X G a_NoNumber
    m_NoWeights:=PySem.W.mg_of X G a_NoWeights
    m_NoShares:=PySem.W.mg_of X G a_NoShares
    m_NoCover:=PySem.W.mg_of X G a_NoCover
    m_TooGreat:=PySem.W.mg_of X G a_TooGreat
    ac_NoOrder:=⟨cl_NoOrder,ty_NoOrder⟩
    ac_NoSentence:=⟨cl_NoSentence,ty_NoSentence⟩
    ac_NoMark:=⟨cl_NoMark,ty_NoMark⟩
    ac_NoRoom:=⟨cl_NoRoom,ty_NoRoom⟩
    ac_NoRow:=⟨cl_NoRow,ty_NoRow⟩
    ac_NoNumber:=⟨cl_NoNumber,ty_NoNumber⟩
    ac_NoWeights:=⟨cl_NoWeights,ty_NoWeights⟩
    ac_NoShares:=⟨cl_NoShares,ty_NoShares⟩
    ac_NoCover:=⟨cl_NoCover,ty_NoCover⟩
    ac_TooGreat:=⟨cl_TooGreat,ty_TooGreat⟩
    xc_NoOrder:=⟨ow_NoOrder,ga_NoOrder,gt_NoOrder,ca_NoOrder,mr_NoOrder⟩
    xc_NoSentence:=⟨ow_NoSentence,ga_NoSentence,gt_NoSentence,ca_NoSentence,mr_NoSentence⟩
    xc_NoMark:=⟨ow_NoMark,ga_NoMark,gt_NoMark,ca_NoMark,mr_NoMark⟩
    xc_NoRoom:=⟨ow_NoRoom,ga_NoRoom,gt_NoRoom,ca_NoRoom,mr_NoRoom⟩
    xc_NoNumber:=⟨ow_NoNumber,ga_NoNumber,gt_NoNumber,ca_NoNumber,mr_NoNumber⟩
    xb:=⟨cl_BookError,ty_BookError,bx_BookError⟩
    xd:=of_decide_eq_true x_d
    n_ValueError:=PySem.W.mg_none_of X G z_ValueError
    x_law:=by
      obtain ⟨_,_,_,_,_,_,_,_,_,rfl,_,_⟩:=F50.ex
      exact fun s u=>.of_eq rfl
    m_MARKS:=PySem.W.mg_of X G a_MARKS
    q_MARKS:=fun H=>sqT_K l_MARKS v_MARKS (by decide)
    m_MOST_TUPLES:=PySem.W.mg_of X G a_MOST_TUPLES
    m_MOST_DEEP:=PySem.W.mg_of X G a_MOST_DEEP
    m_SHAPES:=PySem.W.mg_of X G a_SHAPES
    d_SHAPES:=dicK_mk l_SHAPES e_SHAPES s_SHAPES (kvs:=[("yes", .ref pSHAPES_0),("no", .ref pSHAPES_1),("mark", .ref pSHAPES_2),("not", .ref pSHAPES_3),("and", .ref pSHAPES_4),("or", .ref pSHAPES_5),("either", .ref pSHAPES_6),("if", .ref pSHAPES_7),("some", .ref pSHAPES_8),("each", .ref pSHAPES_9)]) (dk_cons (dk_cons (dk_cons (dk_cons (dk_cons (dk_cons (dk_cons (dk_cons (dk_cons (dk_cons (dk_nil))))))))))) (by show (["yes", "no", "mark", "not", "and", "or", "either", "if", "some", "each"]:List Str).Nodup; decide +kernel)
    y_SHAPES:=by
      intro k m n h
      simp only [tb_SHAPES,List.mem_cons,List.not_mem_nil,or_false,Prod.mk.injEq] at h
      rcases h with ⟨rfl,rfl,rfl⟩ | ⟨rfl,rfl,rfl⟩ | ⟨rfl,rfl,rfl⟩ | ⟨rfl,rfl,rfl⟩ | ⟨rfl,rfl,rfl⟩ | ⟨rfl,rfl,rfl⟩ | ⟨rfl,rfl,rfl⟩ | ⟨rfl,rfl,rfl⟩ | ⟨rfl,rfl,rfl⟩ | ⟨rfl,rfl,rfl⟩
      · exact ⟨_,rfl,fun H=>sqT_K lSHAPES_0 vSHAPES_0 (by decide)⟩
      · exact ⟨_,rfl,fun H=>sqT_K lSHAPES_1 vSHAPES_1 (by decide)⟩
      · exact ⟨_,rfl,fun H=>sqT_K lSHAPES_2 vSHAPES_2 (by decide)⟩
      · exact ⟨_,rfl,fun H=>sqT_K lSHAPES_3 vSHAPES_3 (by decide)⟩
      · exact ⟨_,rfl,fun H=>sqT_K lSHAPES_4 vSHAPES_4 (by decide)⟩
      · exact ⟨_,rfl,fun H=>sqT_K lSHAPES_5 vSHAPES_5 (by decide)⟩
      · exact ⟨_,rfl,fun H=>sqT_K lSHAPES_6 vSHAPES_6 (by decide)⟩
      · exact ⟨_,rfl,fun H=>sqT_K lSHAPES_7 vSHAPES_7 (by decide)⟩
      · exact ⟨_,rfl,fun H=>sqT_K lSHAPES_8 vSHAPES_8 (by decide)⟩
      · exact ⟨_,rfl,fun H=>sqT_K lSHAPES_9 vSHAPES_9 (by decide)⟩
    z_SHAPES:=by
      intro k h
      refine vals_none fun e he=>?_
      simp only [List.mem_cons,List.not_mem_nil,or_false] at he
      rcases he with rfl | rfl | rfl | rfl | rfl | rfl | rfl | rfl | rfl | rfl
      · exact h ("yes", 0,0) (by decide +kernel)
      · exact h ("no", 0,0) (by decide +kernel)
      · exact h ("mark", 1,0) (by decide +kernel)
      · exact h ("not", 0,1) (by decide +kernel)
      · exact h ("and", 0,2) (by decide +kernel)
      · exact h ("or", 0,2) (by decide +kernel)
      · exact h ("either", 0,2) (by decide +kernel)
      · exact h ("if", 0,2) (by decide +kernel)
      · exact h ("some", 1,1) (by decide +kernel)
      · exact h ("each", 1,1) (by decide +kernel)
    n_all:=PySem.W.mg_none_of X G z_all
    n_bool:=PySem.W.mg_none_of X G z_bool
    n_dict:=PySem.W.mg_none_of X G z_dict
    n_int:=PySem.W.mg_none_of X G z_int
    n_isinstance:=PySem.W.mg_none_of X G z_isinstance
    n_len:=PySem.W.mg_none_of X G z_len
    n_list:=PySem.W.mg_none_of X G z_list
    n_range:=PySem.W.mg_none_of X G z_range
    n_set:=PySem.W.mg_none_of X G z_set
    n_sorted:=PySem.W.mg_none_of X G z_sorted
    n_str:=PySem.W.mg_none_of X G z_str
    n_tuple:=PySem.W.mg_none_of X G z_tuple
    n_zip:=PySem.W.mg_none_of X G z_zip }⟩
end K51
namespace K51
open PySem L2 Sen
section
variable {P:Program} {w:World} {K:PySem.W.Frag} {mg:Str→Option Value} {base:Heap} {a:Ad} {k:Nat}
theorem ok_all_rows (T:Txt P w K mg a):FnOk P w K mg base CX0 (k + 1) a.a_all_rows a.d_all_rows ["marks"] spAllRows:=by
  refine T.F_all_rows.ok sc_all_rows (fun vs H Q E h=>?_) (fun cdv A outer s H vs Q E hr h=>?_)
  · obtain ⟨n,rfl,_⟩:=h
    rfl
  obtain ⟨n,rfl,hn,q⟩:=h
  refine ⟨_,(pss_one (ps_ret (pe_op op_sub (pe_op op_shlN pe_int (pe_op op_shlN pe_int (pv 0))) pe_int))),?_⟩
  have h1:=two8 hn
  have one:1 < 2 ^ 10000:=lt10k (k:=1) (by decide) (by decide)
  refine ⟨_,rfl,1,n,rfl,rfl,one,by omega,1,1 * 2 ^ n,rfl,rfl,one,by omega,_,1,rfl,rfl,?_⟩
  have e:(((1 * 2 ^ (1 * 2 ^ n):Nat):Int) - 1) = ((2 ^ 2 ^ n - 1:Nat):Int):=by
    rw [Nat.one_mul,Nat.one_mul]
    have:=Nat.two_pow_pos (2 ^ n)
    omega
  show Q (.int (((1 * 2 ^ (1 * 2 ^ n):Nat):Int) - 1)) H
  rw [e]
  exact q
theorem ok_rows_with (T:Txt P w K mg a):FnOk P w K mg base CX0 (k + 1) a.a_rows_with a.d_rows_with ["place", "marks"] spRowsWith:=by
  refine T.F_rows_with.ok sc_rows_with (fun vs H Q E h=>?_) (fun cdv A outer s H vs Q E hr h=>?_)
  · obtain ⟨p,n,rfl,_⟩:=h
    rfl
  obtain ⟨p,n,rfl,hp,hn,q⟩:=h
  refine ⟨_,(pss_cons (ps_set (i:=2) sc_rows_with.nd rfl (Or.inl rfl) (pe_op op_shlN pe_int (pv 0)))
      (pss_cons (ps_set (i:=3) sc_rows_with.nd rfl (Or.inl rfl) (pe_op op_shlN (pe_op op_sub (pe_op op_shlN pe_int (pv 2)) pe_int) (pv 2)))
      (pss_cons (ps_for PassesOwn.never rfl (pi_range2 rfl T.n_range (pa_cons (pe_op op_add (pv 0) pe_int) (pa_cons (pv 1) pa_nil))) (pg_name (i:=4) sc_rows_with.nd rfl (Or.inl rfl)) (pss_one (ps_set (i:=3) sc_rows_with.nd rfl (Or.inl rfl) (pe_op op_orN (pv 3) (pe_op op_shlN (pv 3) (pe_op op_shlN pe_int (pv 4)))))))
      (pss_one (ps_ret (pv 3)))))),?_⟩
  have one:1 < 2 ^ 10000:=lt10k (k:=1) (by decide) (by decide)
  have h1:=two8 (n:=p) (by omega)
  have hh:2 ^ p < 2 ^ 10000:=Nat.pow_lt_pow_right (by decide) (by omega)
  have pp:=Nat.two_pow_pos (2 ^ p)
  have e1:((1 * 2 ^ (1 * 2 ^ p):Nat):Int) - 1 = ((2 ^ 2 ^ p - 1:Nat):Int):=by
    rw [Nat.one_mul,Nat.one_mul]
    omega
  have lt1:2 ^ 2 ^ p - 1 < 2 ^ 10000:=Nat.lt_of_lt_of_le (Nat.sub_lt pp (by decide)) (Nat.pow_le_pow_right (by decide) (by omega))
  refine ⟨_,rfl,1,p,rfl,rfl,one,by omega,?_⟩
  refine ⟨_,rfl,1,1 * 2 ^ p,rfl,rfl,one,by omega,_,1,rfl,rfl,_,rfl,2 ^ 2 ^ p - 1,1 * 2 ^ p,congrArg V.int e1,rfl,lt1,by omega,?_⟩
  refine ⟨_,rfl,_,1,rfl,rfl,_,rfl,(p:Int) + 1,(n:Int),rfl,⟨by omega,by omega,by omega,by omega⟩,?_⟩
  refine for_range (fun i σ H'=>H' = H∧∃ (N:Nat) (f:Option V),σ = [some (.int p),some (.int n),some (.int ((1 * 2 ^ p:Nat):Int)),some (.int N),f]∧IsTab (p + 1 + i) N (fun b=>b.testBit p)) ⟨rfl,_,_,rfl,?_⟩ ?_ ?_
  · rw [Nat.one_mul]
    exact tab_block p
  · rintro i σ H' hi ⟨rfl,N,f,rfl,tb⟩
    have hi':p + 1 + i < n:=by omega
    have h2:=two8 (n:=p + 1 + i) (by omega)
    have e2:V.int ((p:Int) + 1 + (i:Nat)) = V.int ((p + 1 + i:Nat):Int):=congrArg V.int (by omega)
    have lt2:N < 2 ^ 10000:=lt10k (tab_lt tb) (Nat.le_trans h2 (by decide))
    refine ⟨_,rfl,_,rfl,_,rfl,1,p + 1 + i,rfl,e2,one,by omega,N,1 * 2 ^ (p + 1 + i),rfl,rfl,lt2,by omega,N,N * 2 ^ (1 * 2 ^ (p + 1 + i)),rfl,rfl,?_⟩
    refine ⟨rfl,_,_,rfl,?_⟩
    rw [Nat.one_mul]
    exact tab_double (m:=p + 1 + i) (by omega) tb
  · rintro σ H' ⟨rfl,N,f,rfl,tb⟩
    have e3:p + 1 + ((n:Int) - ((p:Int) + 1)).toNat = n:=by omega
    rw [e3] at tb
    exact ⟨_,rfl,q N tb⟩
theorem ok_flipped (T:Txt P w K mg a) (G_rows_with:FnOk P w K mg base CX0 k a.a_rows_with a.d_rows_with ["place", "marks"] spRowsWith):FnOk P w K mg base CX0 (k + 1) a.a_flipped a.d_flipped ["table", "place", "marks"] spFlipped:=by
  refine T.F_flipped.ok sc_flipped (fun vs H Q E h=>?_) (fun cdv A outer s H vs Q E hr h=>?_)
  · obtain ⟨N,p,n,f,rfl,_⟩:=h
    rfl
  obtain ⟨N,p,n,f,rfl,hp,hn,tb,q⟩:=h
  refine ⟨_,(pss_cons (ps_set (i:=3) sc_flipped.nd rfl (Or.inl rfl) (pe_op op_andN (pv 0) (pe_call G_rows_with hr rfl T.m_rows_with T.F_rows_with.2 T.b_rows_with .nil pass0 (pa_cons (pv 1) (pa_cons (pv 2) pa_nil)))))
      (pss_cons (ps_set (i:=4) sc_flipped.nd rfl (Or.inl rfl) (pe_op op_xorN (pv 0) (pv 3)))
      (pss_one (ps_ret (pe_op op_orN (pe_op op_shrN (pv 3) (pe_op op_shlN pe_int (pv 1))) (pe_op op_shlN (pv 4) (pe_op op_shlN pe_int (pv 1)))))))),?_⟩
  have one:1 < 2 ^ 10000:=lt10k (k:=1) (by decide) (by decide)
  have h1:=two8 (n:=p) (by omega)
  have h2:=two8 (n:=n) (by omega)
  refine ⟨_,rfl,_,rfl,_,rfl,p,n,rfl,hp,hn,fun R tr=>?_⟩
  refine ⟨N,R,rfl,rfl,?_⟩
  refine ⟨_,rfl,_,rfl,N,N &&& R,rfl,rfl,?_⟩
  have o:=tab_and tb tr
  have z:=tab_xor tb o
  have lt2:N ^^^ (N &&& R) < 2 ^ 10000:=lt10k (tab_lt z) (Nat.le_trans h2 (by decide))
  refine ⟨_,rfl,_,rfl,1,p,rfl,rfl,one,by omega,N &&& R,1 * 2 ^ p,rfl,rfl,_,rfl,_,rfl,1,p,rfl,rfl,one,by omega,N ^^^ (N &&& R),1 * 2 ^ p,rfl,rfl,lt2,by omega,_,_,rfl,rfl,?_⟩
  refine q _ ?_
  rw [Nat.one_mul]
  exact tab_flip hp tb tr
theorem ok_cell_at (T:Txt P w K mg a):FnOk P w K mg base CX0 (k + 1) a.a_x_law_cell_at a.d_x_law_cell_at ["script", "k"] (spCellAt K):=by
  refine T.F_x_law_cell_at.ok sc_x_law_cell_at (fun vs H Q E h=>?_) (fun cdv A outer s H vs Q E hr h=>?_)
  · obtain ⟨l,ns,i,rfl,_⟩:=h
    rfl
  obtain ⟨l,ns,i,rfl,hS,h0,q⟩:=h
  refine ⟨_,(pss_cons (ps_if (pt_cmpR op_lt (pv 1) (pe_callB call_len_seq rfl T.n_len bt_len (pa_cons (pv 0) pa_nil)) (nomark _)) (pss_one (ps_ret (pe_ix ix_list (pv 0) (pv 1) (fun _ _=>rfl)))) pss_nil)
      (pss_one (ps_ret pe_int))),?_⟩
  refine ⟨_,rfl,_,rfl,l,_,rfl,.inl hS,_,_,rfl,rfl,_,rfl,?_⟩
  refine ite2 (fun c=>?_) (fun c=>?_)
  · have c':i < (((ns.map V.int).length:Nat):Int):=of_decide_eq_true c
    rw [List.length_map] at c'
    have hi:i.toNat < ns.length:=by omega
    have e:atI (ns.map V.int) i = some (.int ns[i.toNat]):=by
      have q:=atI_nat (xs:=ns.map V.int) (j:=i.toNat) (v:=.int ns[i.toNat]) (by rw [List.getElem?_map,List.getElem?_eq_getElem hi]; rfl)
      have ei:((i.toNat:Nat):Int) = i:=by omega
      rw [ei] at q
      exact q
    exact ⟨_,rfl,_,rfl,l,_,i,_,rfl,rfl,hS,e,q _⟩
  · exact q 0
theorem ok_draw (T:Txt P w K mg a):FnOk P w K mg base CX0 (k + 1) a.a_x_law_draw a.d_x_law_draw ["cell", "k", "bound"] spDraw:=by
  refine T.F_x_law_draw.ok sc_x_law_draw (fun vs H Q E h=>?_) (fun cdv A outer s H vs Q E hr h=>?_)
  · obtain ⟨c,m,b,rfl,_⟩:=h
    rfl
  obtain ⟨c,m,b,rfl,hm,b0,b1,q⟩:=h
  refine ⟨_,(pss_cons (ps_if (pt_cmpR op_ge (pv 0) (pe_op op_pow pe_int pe_int) (nomark _)) (pss_cons (ps_set (i:=4) sc_x_law_draw.nd rfl (Or.inl rfl) (pv 0))
      (pss_cons (ps_for PassesOwn.never rfl (pi_range1 rfl T.n_range (pa_cons (pv 1) pa_nil)) (pg_name (i:=5) sc_x_law_draw.nd rfl (Or.inl rfl)) (pss_one (ps_set (i:=4) sc_x_law_draw.nd rfl (Or.inl rfl) (pe_op op_fdiv (pv 4) (pv 2)))))
      (pss_one (ps_ret (pe_op op_mod (pv 4) (pv 2)))))) pss_nil)
      (pss_cons (ps_set (i:=3) sc_x_law_draw.nd rfl (Or.inl rfl) (pe_op op_mod (pe_op op_mul (pe_op op_add (pe_op op_add (pe_op op_mod (pv 0) pe_int) (pe_op op_mul pe_int (pv 1))) pe_int) pe_int) pe_int))
      (pss_cons (ps_set (i:=3) sc_x_law_draw.nd rfl (Or.inl rfl) (pe_op op_mod (pe_op op_add (pe_op op_add (pe_op op_mul (pv 3) (pv 3)) (pe_op op_mul pe_int (pv 1))) pe_int) pe_int))
      (pss_one (ps_ret (pe_op op_mod (pe_op op_fdiv (pe_op op_mod (pe_op op_mul (pv 3) pe_int) pe_int) pe_int) (pv 2))))))),?_⟩
  refine ⟨_,rfl,10,18,rfl,rfl,⟨by decide,by decide,by decide⟩,_,_,rfl,rfl,_,rfl,?_⟩
  refine ite2 (fun _=>?_) (fun _=>?_)
  · refine ⟨_,rfl,?_⟩
    refine ⟨_,rfl,(m:Int),rfl,by omega,by omega,?_⟩
    refine for_range (fun i σ H'=>H' = H∧∃ (x:Int) (f1 f2:Option V),σ = [some (.int c),some (.int m),some (.int b),f1,some (.int x),f2]) ⟨rfl,c,_,_,rfl⟩ ?_ ?_
    · rintro i σ H' hi ⟨rfl,x,f1,f2,rfl⟩
      refine ⟨_,rfl,_,rfl,x,b,rfl,rfl,⟨b0,b1⟩,?_⟩
      exact ⟨rfl,x / b,_,_,rfl⟩
    · rintro σ H' ⟨rfl,x,f1,f2,rfl⟩
      refine ⟨_,rfl,_,rfl,x,b,rfl,rfl,b0,?_⟩
      exact q _ (Int.emod_nonneg _ (by omega)) (Int.emod_lt_of_pos _ b0)
  · have p1:(0:Int) < 1000000007:=by decide
    have p2:(0:Int) < 2147483647:=by decide
    have p3:(0:Int) < 2147483629:=by decide
    refine ⟨_,rfl,c,1000000007,rfl,rfl,p1,_,rfl,1009,(m:Int),rfl,rfl,.inl ⟨by decide,by decide⟩,_,_,rfl,rfl,_,17,rfl,rfl,_,69621,rfl,rfl,.inr ⟨by decide,by decide⟩,_,2147483647,rfl,rfl,p2,?_⟩
    have z0:0≤(c % 1000000007 + 1009 * (m:Int) + 17) * 69621 % 2147483647:=Int.emod_nonneg _ (by decide)
    have z1:(c % 1000000007 + 1009 * (m:Int) + 17) * 69621 % 2147483647 < 2147483647:=Int.emod_lt_of_pos _ p2
    refine ⟨_,rfl,_,rfl,_,_,rfl,rfl,.inl ⟨Int.lt_of_lt_of_le (by decide) z0,Int.lt_trans z1 (by decide)⟩,_,rfl,40503,(m:Int),rfl,rfl,.inl ⟨by decide,by decide⟩,_,_,rfl,rfl,_,5,rfl,rfl,_,2147483629,rfl,rfl,p3,?_⟩
    refine ⟨_,rfl,_,48271,rfl,rfl,.inr ⟨by decide,by decide⟩,_,2147483647,rfl,rfl,p2,_,32,rfl,rfl,⟨by decide,by decide⟩,_,rfl,_,b,rfl,rfl,b0,?_⟩
    exact q _ (Int.emod_nonneg _ (by omega)) (Int.emod_lt_of_pos _ b0)
theorem ok_order (T:Txt P w K mg a) (G_x_law_draw:FnOk P w K mg base CX0 k a.a_x_law_draw a.d_x_law_draw ["cell", "k", "bound"] spDraw):FnOk P w K mg base CX0 (k + 1) a.a_x_law_order a.d_x_law_order ["cell", "limit"] spOrder:=by
  refine T.F_x_law_order.ok sc_x_law_order (fun vs H Q E h=>?_) (fun cdv A outer s H vs Q E hr h=>?_)
  · obtain ⟨c,n,rfl,_⟩:=h
    rfl
  obtain ⟨c,n,rfl,hn,h8,q⟩:=h
  refine ⟨_,(pss_cons (ps_set (i:=2) sc_x_law_order.nd rfl (Or.inl rfl) (pe_lst pa_nil))
      (pss_cons (ps_for PassesOwn.never rfl (pi_range1 rfl T.n_range (pa_cons (pe_op op_add pe_int (pe_call G_x_law_draw hr rfl T.m_x_law_draw T.F_x_law_draw.2 T.b_x_law_draw .nil pass0 (pa_cons (pv 0) (pa_cons pe_int (pa_cons (pv 1) pa_nil))))) pa_nil)) (pg_name (i:=3) sc_x_law_order.nd rfl (Or.inl rfl)) (pss_one (ps_expr (pe_bm PySem.F.plainAttrs_list PySem.F.slot_list_insert PySem.F.type_list_insert mt_insert (pv 2) (pa_cons (pe_op op_mod (pe_call G_x_law_draw hr rfl T.m_x_law_draw T.F_x_law_draw.2 T.b_x_law_draw .nil pass0 (pa_cons (pv 0) (pa_cons (pe_op op_add pe_int (pv 3)) (pa_cons pe_int pa_nil)))) (pe_op op_add (pv 3) pe_int)) (pa_cons (pe_ix ix_str pe_str (pv 3) (fun _ _=>rfl)) pa_nil))))))
      (pss_one (ps_ret (pv 2))))),?_⟩
  refine ⟨by show 0≤sizeLine; decide,fun l hl=>?_⟩
  refine ⟨_,rfl,_,rfl,c,0,(n:Int),rfl,by decide,by omega,by omega,fun r r0 r1=>?_⟩
  refine ⟨1,r,rfl,rfl,1 + r,rfl,by omega,by omega,?_⟩
  refine for_range (fun i σ H'=>∃ (os:List Str) (f1:Option V),Same H H'∧H' l = some (.lst (os.map V.str))∧os.Nodup∧os.length = i∧(∀ x∈os,x∈letts.take i)∧σ = [some (.int c),some (.int n),some (.ref l),f1])
    ⟨[],_,same_new hl _,upd_same,List.nodup_nil,rfl,(fun _ h=>nomatch h),rfl⟩ ?_ ?_
  · rintro i σ H' hi ⟨os,f1,g,hl',nd,le,mem,rfl⟩
    have i8:i < 8:=by omega
    obtain ⟨ch,hc1,hc2⟩:=lett_at i8
    have e1:(1:Int) + (0 + (i:Nat)) = ((1 + i:Nat):Int):=by omega
    have e2:(0:Int) + (i:Nat) = ((i:Nat):Int):=by omega
    refine ⟨_,rfl,.inl ⟨rfl,_,SqL.of hl'⟩,?_⟩
    refine ⟨_,rfl,_,rfl,1,_,rfl,rfl,c,1 + i,5040,congrArg (fun z=>[V.int c,V.int z,V.int 5040]) e1,by omega,by decide,by decide,fun r' s0 s1=>?_⟩
    refine ⟨_,rfl,_,1,rfl,rfl,r',_,rfl,rfl,by show (0:Int) < 0 + (i:Nat) + 1; omega,?_⟩
    refine ⟨_,rfl,_,(i:Int),ch,rfl,congrArg V.int e2,by show (Str.ofString "abcdefgh").length≤sizeLine; decide,hc1,?_⟩
    have m0:0≤r' % (0 + (i:Nat) + 1):=Int.emod_nonneg _ (by omega)
    have m1:r' % (0 + (i:Nat) + 1) < 0 + (i:Nat) + 1:=Int.emod_lt_of_pos _ (by omega)
    generalize hj:r' % (0 + ((i:Nat):Int) + 1) = j at m0 m1
    refine ⟨l,os.map V.str,j,_,rfl,by rw [← hj],hl',m0,by rw [List.length_map]; omega,by rw [List.length_map]; exact Nat.lt_of_lt_of_le (show os.length < 9 by omega) (by decide),?_⟩
    have nm:(⟨#[ch]⟩:Str) ∉ os:=fun hm=>lett_new hc2 (mem _ hm)
    have ml:∀ x∈letts.take i,x∈letts.take (i + 1):=fun x hx=>by
      rw [List.take_succ]
      exact List.mem_append_left _ hx
    have mn:(⟨#[ch]⟩:Str)∈letts.take (i + 1):=by
      rw [List.take_succ,hc2]
      exact List.mem_append_right _ (by simp)
    refine ⟨os.take j.toNat ++ (⟨#[ch]⟩:Str) :: os.drop j.toNat,_,?_,?_,?_,?_,?_,rfl⟩
    · exact fun b o hb=>by rw [upd_ne (ne_of_none hb hl)]; exact g b o hb
    · rw [upd_same]
      simp
    · refine List.perm_middle.nodup_iff.mpr (List.nodup_cons.mpr ⟨?_,?_⟩)
      · rw [List.take_append_drop]; exact nm
      · rw [List.take_append_drop]; exact nd
    · rw [List.length_append,List.length_cons,List.length_take,List.length_drop]
      omega
    · intro x hx
      rcases List.mem_append.mp hx with z | z
      · exact ml x (mem x (List.mem_of_mem_take z))
      · rcases List.mem_cons.mp z with z | z
        · rw [z]; exact mn
        · exact ml x (mem x (List.mem_of_mem_drop z))
  · rintro σ H' ⟨os,f1,g,hl',nd,le,mem,rfl⟩
    refine ⟨_,rfl,q l H' os g hl' ⟨nd,fun x hx=>List.mem_of_mem_take (mem x hx),by omega⟩ (by omega)⟩
theorem ok_sentence (T:Txt P w K mg a) (G_x_law_cell_at:FnOk P w K mg base CX0 k a.a_x_law_cell_at a.d_x_law_cell_at ["script", "k"] (spCellAt K)) (G_x_law_draw:FnOk P w K mg base CX0 k a.a_x_law_draw a.d_x_law_draw ["cell", "k", "bound"] spDraw) :
    FnOk P w K mg base CX0 (k + 1) a.a_x_law_sentence a.d_x_law_sentence ["script", "at", "many", "order"] (spSentence K):=by
  refine T.F_x_law_sentence.ok sc_x_law_sentence (fun vs H Q E h=>?_) (fun cdv A outer s H vs Q E hr h=>?_)
  · obtain ⟨sc,ol,ns,t,m,os,rfl,_⟩:=h
    rfl
  obtain ⟨sc,ol,ns,t,m,os,rfl,hS,hO,o0,o8,m0,m40,t60,q⟩:=h
  obtain ⟨st0,h0⟩:∃ st0,st0 = (defBody S_x_law_sentence).headD (.Pass ⟨0,0,0,0⟩):=⟨_,rfl⟩
  have hb:defBody S_x_law_sentence = st0 :: (defBody S_x_law_sentence).tail:=by rw [h0]; rfl
  rw [hb]
  have hk:litAsg st0 = some (Str.ofString "kinds", kindsS):=by rw [h0]; rfl
  refine ⟨_,pss_cons (ps_litL (i:=4) hk sc_x_law_sentence.nd rfl (Or.inl rfl) (.inl rfl)) (pss_cons (ps_set (i:=5) sc_x_law_sentence.nd rfl (Or.inl rfl) (pe_lst (pa_cons (pe_tup (pa_cons pe_str (pa_cons (pe_ix ix_list (pv 3) (pe_op op_mod (pe_call G_x_law_draw hr rfl T.m_x_law_draw T.F_x_law_draw.2 T.b_x_law_draw .nil pass0 (pa_cons (pe_call G_x_law_cell_at hr rfl T.m_x_law_cell_at T.F_x_law_cell_at.2 T.b_x_law_cell_at .nil pass0 (pa_cons (pv 0) (pa_cons (pv 1) pa_nil))) (pa_cons pe_int (pa_cons pe_int pa_nil)))) (pe_callB call_len_seq rfl T.n_len bt_len (pa_cons (pv 3) pa_nil))) (fun _ _=>rfl)) pa_nil))) pa_nil)))
      (pss_cons (ps_for PassesOwn.never rfl (pi_range2 rfl T.n_range (pa_cons pe_int (pa_cons (pv 2) pa_nil))) (pg_name (i:=6) sc_x_law_sentence.nd rfl (Or.inl rfl)) (pss_cons (ps_set (i:=7) sc_x_law_sentence.nd rfl (Or.inl rfl) (pe_call G_x_law_cell_at hr rfl T.m_x_law_cell_at T.F_x_law_cell_at.2 T.b_x_law_cell_at .nil pass0 (pa_cons (pv 0) (pa_cons (pe_op op_add (pv 1) (pv 6)) pa_nil))))
      (pss_cons (ps_set (i:=8) sc_x_law_sentence.nd rfl (Or.inl rfl) (pe_ix ix_list (pv 4) (pe_call G_x_law_draw hr rfl T.m_x_law_draw T.F_x_law_draw.2 T.b_x_law_draw .nil pass0 (pa_cons (pv 7) (pa_cons pe_int (pa_cons pe_int pa_nil)))) (fun _ _=>rfl)))
      (pss_cons (ps_set (i:=9) sc_x_law_sentence.nd rfl (Or.inl rfl) (pe_ix ix_list (pv 5) (pe_op op_sub (pe_un un_neg pe_int) (pe_op op_mod (pe_call G_x_law_draw hr rfl T.m_x_law_draw T.F_x_law_draw.2 T.b_x_law_draw .nil pass0 (pa_cons (pv 7) (pa_cons pe_int (pa_cons pe_int pa_nil)))) (pe_callB call_len_seq rfl T.n_len bt_len (pa_cons (pv 5) pa_nil)))) (fun _ _=>rfl)))
      (pss_cons (ps_set (i:=10) sc_x_law_sentence.nd rfl (Or.inl rfl) (pe_ix ix_list (pv 5) (pe_op op_mod (pe_call G_x_law_draw hr rfl T.m_x_law_draw T.F_x_law_draw.2 T.b_x_law_draw .nil pass0 (pa_cons (pv 7) (pa_cons pe_int (pa_cons pe_int pa_nil)))) (pe_callB call_len_seq rfl T.n_len bt_len (pa_cons (pv 5) pa_nil))) (fun _ _=>rfl)))
      (pss_cons (ps_set (i:=11) sc_x_law_sentence.nd rfl (Or.inl rfl) (pe_ix ix_list (pv 3) (pe_op op_mod (pe_call G_x_law_draw hr rfl T.m_x_law_draw T.F_x_law_draw.2 T.b_x_law_draw .nil pass0 (pa_cons (pv 7) (pa_cons pe_int (pa_cons pe_int pa_nil)))) (pe_callB call_len_seq rfl T.n_len bt_len (pa_cons (pv 3) pa_nil))) (fun _ _=>rfl)))
      (pss_one (ps_if (PW.pt (pw_or (pt_cmpR op_eq (pv 8) pe_str (nomark _)) (pw_or1 (pt_cmpR op_eq (pv 8) pe_str (nomark _))))) (pss_one (ps_expr (pe_bm PySem.F.plainAttrs_list PySem.F.slot_list_append PySem.F.type_list_append mt_append (pv 5) (pa_cons (pe_tup (pa_cons (pv 8) pa_nil)) pa_nil)))) (pss_one (ps_if (pt_cmpR op_eq (pv 8) pe_str (nomark _)) (pss_one (ps_expr (pe_bm PySem.F.plainAttrs_list PySem.F.slot_list_append PySem.F.type_list_append mt_append (pv 5) (pa_cons (pe_tup (pa_cons pe_str (pa_cons (pv 11) pa_nil))) pa_nil)))) (pss_one (ps_if (pt_cmpR op_eq (pv 8) pe_str (nomark _)) (pss_one (ps_expr (pe_bm PySem.F.plainAttrs_list PySem.F.slot_list_append PySem.F.type_list_append mt_append (pv 5) (pa_cons (pe_tup (pa_cons pe_str (pa_cons (pv 9) pa_nil))) pa_nil)))) (pss_one (ps_if (PW.pt (pw_or (pt_cmpR op_eq (pv 8) pe_str (nomark _)) (pw_or1 (pt_cmpR op_eq (pv 8) pe_str (nomark _))))) (pss_one (ps_expr (pe_bm PySem.F.plainAttrs_list PySem.F.slot_list_append PySem.F.type_list_append mt_append (pv 5) (pa_cons (pe_tup (pa_cons (pv 8) (pa_cons (pv 11) (pa_cons (pv 9) pa_nil)))) pa_nil)))) (pss_one (ps_expr (pe_bm PySem.F.plainAttrs_list PySem.F.slot_list_append PySem.F.type_list_append mt_append (pv 5) (pa_cons (pe_tup (pa_cons (pv 8) (pa_cons (pv 10) (pa_cons (pv 9) pa_nil)))) pa_nil))))))))))))))))))
      (pss_one (ps_ret (pe_ix ix_list (pv 5) (pe_un un_neg pe_int) (fun _ _=>rfl)))))),?_⟩
  refine ⟨by show 14≤sizeLine; decide,fun kd hkd=>?_⟩
  have g1:=same_new hkd (.lst (kindsS.map V.str))
  have hS1:=g1.seq hS
  have hO1:=g1.seq hO
  refine ⟨_,rfl,_,rfl,_,rfl,sc,ns,(t:Int),rfl,hS1,by omega,fun c0=>?_⟩
  refine ⟨c0,3,40320,rfl,by decide,by decide,by decide,fun r0 _ _=>?_⟩
  obtain ⟨x0,hx0,hx0'⟩:=pick_letter o0 r0
  have pl:(0:Int) < ((os.map V.str).length:Nat):=by rw [List.length_map]; omega
  refine ⟨_,rfl,ol,_,rfl,.inl hO1,_,_,rfl,rfl,pl,ol,_,_,.str x0,rfl,rfl,hO1,hx0',by show 2≤sizeLine; decide,fun p0 hp0=>?_⟩
  refine ⟨by show 1≤sizeLine; decide,fun md hmd=>?_⟩
  have g2:=same_new hp0 (.tup [.str "mark", .str x0])
  have g3:=same_new hmd (.lst [.ref p0])
  have f0:H md = none:=(g1.trans g2).free hmd
  have nk:md≠kd:=Ne.symm (ne_of_none (g2 _ _ upd_same) hmd)
  have M0:Made H (upd (upd (upd H kd (.lst (kindsS.map V.str))) p0 (.tup [.str "mark", .str x0])) md (.lst [.ref p0])) os md kd [p0] 1:=by
    refine ⟨g1.trans (g2.trans g3),upd_same,g3 _ _ (g2 _ _ upd_same),by simp,fun p hp=>?_⟩
    have e:p = p0:=by simpa using hp
    subst e
    exact ⟨.mk x0,g3 _ _ upd_same,hx0,Nat.le_refl _⟩
  refine ⟨_,rfl,1,(m:Int),rfl,⟨by omega,by omega,by omega,by omega⟩,?_⟩
  refine for_range (fun i σ H'=>∃ (ps:List Addr) (f1 f2 f3 f4 f5 f6:Option V),Made H H' os md kd ps (i + 1)∧ps.length = i + 1∧σ = [some (.ref sc),some (.int t),some (.int m),some (.ref ol),some (.ref kd),some (.ref md),f1,f2,f3,f4,f5,f6])
    ⟨[p0],_,_,_,_,_,_,M0,rfl,rfl⟩ ?_ ?_
  · rintro i σ H' hi ⟨ps,f1,f2,f3,f4,f5,f6,M,lp,rfl⟩
    have hS2:=M.old.seq hS
    have hO2:=M.old.seq hO
    have e1:(t:Int) + (1 + (i:Nat)) = ((t + (1 + i):Nat):Int):=by omega
    refine ⟨_,rfl,_,rfl,_,rfl,_,_,rfl,rfl,sc,ns,_,rfl,hS2,by omega,fun c=>?_⟩
    refine ⟨_,rfl,_,rfl,c,0,14,rfl,by decide,by decide,by decide,fun d d0 d1=>?_⟩
    obtain ⟨jk,vk,qk1,qk2⟩:=atI_has (xs:=kindsS.map V.str) (i:=d) (by show -((14:Nat):Int)≤d; omega) (by show d < ((14:Nat):Int); omega)
    obtain ⟨kind,hkm,hkv⟩:∃ kind,kind∈kindsS∧vk = .str kind:=by
      rw [List.getElem?_map] at qk2
      cases hx:kindsS[jk]? with
      | none=>rw [hx] at qk2; cases qk2
      | some x=>rw [hx] at qk2; cases qk2; exact ⟨x,List.mem_of_getElem? hx,rfl⟩
    subst hkv
    refine ⟨kd,_,_,_,rfl,rfl,SqL.of M.kin,qk1,?_⟩
    have lm:((ps.map V.ref).length:Nat) = i + 1:=by rw [List.length_map]; exact lp
    have pm:(0:Int) < ((ps.map V.ref).length:Nat):=by rw [lm]; omega
    refine ⟨_,rfl,1,rfl,_,rfl,c,1,2,rfl,by decide,by decide,by decide,fun d2 _ _=>?_⟩
    refine ⟨_,rfl,md,_,rfl,.inl (SqL.of M.mad),_,_,rfl,rfl,pm,_,_,rfl,rfl,?_⟩
    have a0:=Int.emod_nonneg d2 (show ((ps.map V.ref).length:Int)≠0 by omega)
    have a1:=Int.emod_lt_of_pos d2 pm
    obtain ⟨q1,hq1,hq1'⟩:=pick_made (ps:=ps) (i:=-1 - d2 % ((ps.map V.ref).length:Nat)) (by rw [lm] at a0 a1 ⊢; omega) (by rw [lm] at a0 a1 ⊢; omega)
    refine ⟨md,_,_,_,rfl,rfl,SqL.of M.mad,hq1',?_⟩
    refine ⟨_,rfl,_,rfl,c,2,60,rfl,by decide,by decide,by decide,fun d3 _ _=>?_⟩
    refine ⟨_,rfl,md,_,rfl,.inl (SqL.of M.mad),_,_,rfl,rfl,pm,?_⟩
    have b0:=Int.emod_nonneg d3 (show ((ps.map V.ref).length:Int)≠0 by omega)
    have b1:=Int.emod_lt_of_pos d3 pm
    obtain ⟨q2,hq2,hq2'⟩:=pick_made (ps:=ps) (i:=d3 % ((ps.map V.ref).length:Nat)) (by rw [lm] at b0 b1 ⊢; omega) (by rw [lm] at b0 b1 ⊢; omega)
    refine ⟨md,_,_,_,rfl,rfl,SqL.of M.mad,hq2',?_⟩
    refine ⟨_,rfl,_,rfl,c,3,40320,rfl,by decide,by decide,by decide,fun d4 _ _=>?_⟩
    obtain ⟨x,hx,hx'⟩:=pick_letter o0 d4
    refine ⟨_,rfl,ol,_,rfl,.inl hO2,_,_,rfl,rfl,pl,ol,_,_,.str x,rfl,rfl,hO2,hx',?_⟩
    obtain ⟨s1,s1i,s1o,s1d⟩:=M.all q1 hq1
    obtain ⟨s2,s2i,s2o,s2d⟩:=M.all q2 hq2
    have big:ps.length < sizeLine:=Nat.lt_of_le_of_lt (show ps.length≤100 by omega) (by decide)
    have bigV:(ps.map V.ref).length < sizeLine:=by rw [List.length_map]; exact big
    have mdu:∀ (p:Addr) (o:HO),H' p = none→(upd H' p o) md = some (.lst (ps.map V.ref)):=fun p o hp=>by rw [upd_ne (ne_of_none M.mad hp)]; exact M.mad
    have fin:∀ (p:Addr) (xs:List V) (s':Sn),H' p = none→IsS (upd H' p (.tup xs)) s' p→s'.inO os→s'.depth≤i + 1 + 1 →
        ∃ (ps':List Addr) (f1 f2 f3 f4 f5 f6:Option V),Made H (upd (upd H' p (.tup xs)) md (.lst (ps.map V.ref ++ [.ref p]))) os md kd ps' (i + 1 + 1)∧ps'.length = i + 1 + 1 ∧
          [some (.ref sc),some (.int t),some (.int m),some (.ref ol),some (.ref kd),some (.ref md),some (.int (1 + (i:Nat))),some (.int c),some (.str kind),some (.ref q1),some (.ref q2),some (.str x)] = [some (.ref sc),some (.int t),some (.int m),some (.ref ol),some (.ref kd),some (.ref md),f1,f2,f3,f4,f5,f6]:=fun p xs s' hp hs ho hd=>by
      have:=M.push f0 hp hs ho hd nk
      rw [List.map_append] at this
      exact ⟨ps ++ [p],_,_,_,_,_,_,this,by simp [lp],rfl⟩
    refine ⟨_,rfl,rfl,_,rfl,ite2 (fun c1=>?_) (fun c1=>?_)⟩
    · have ek:kind = "yes" := by have:=of_decide_eq_true c1; cases this; rfl
      subst ek
      refine iteT ⟨_,rfl,.inl ⟨rfl,_,SqL.of M.mad⟩,_,rfl,by show 1≤sizeLine; decide,fun p hp=>⟨md,_,_,rfl,rfl,mdu p _ hp,bigV,?_⟩⟩
      exact fin p _ (.c0 true) hp upd_same trivial (by show 1≤_; omega)
    have n1:kind ≠ "yes" := fun e=>c1 (decide_eq_true (by rw [e]))
    refine ⟨_,rfl,rfl,_,rfl,ite2 (fun c2=>?_) (fun c2=>?_)⟩
    · have ek:kind = "no" := by have:=of_decide_eq_true c2; cases this; rfl
      subst ek
      refine ⟨_,rfl,.inl ⟨rfl,_,SqL.of M.mad⟩,_,rfl,by show 1≤sizeLine; decide,fun p hp=>⟨md,_,_,rfl,rfl,mdu p _ hp,bigV,?_⟩⟩
      exact fin p _ (.c0 false) hp upd_same trivial (by show 1≤_; omega)
    have n2:kind ≠ "no" := fun e=>c2 (decide_eq_true (by rw [e]))
    refine ⟨_,rfl,rfl,_,rfl,ite2 (fun c3=>?_) (fun c3=>?_)⟩
    · have ek:kind = "mark" := by have:=of_decide_eq_true c3; cases this; rfl
      subst ek
      refine ⟨_,rfl,.inl ⟨rfl,_,SqL.of M.mad⟩,_,rfl,by show 2≤sizeLine; decide,fun p hp=>⟨md,_,_,rfl,rfl,mdu p _ hp,bigV,?_⟩⟩
      exact fin p _ (.mk x) hp upd_same hx (by show 1≤_; omega)
    have n3:kind ≠ "mark" := fun e=>c3 (decide_eq_true (by rw [e]))
    refine ⟨_,rfl,rfl,_,rfl,ite2 (fun c4=>?_) (fun c4=>?_)⟩
    · have ek:kind = "not" := by have:=of_decide_eq_true c4; cases this; rfl
      subst ek
      refine ⟨_,rfl,.inl ⟨rfl,_,SqL.of M.mad⟩,_,rfl,by show 2≤sizeLine; decide,fun p hp=>⟨md,_,_,rfl,rfl,mdu p _ hp,bigV,?_⟩⟩
      exact fin p _ (.nt s1) hp ⟨q1,upd_same,s1i.mono (Tups.new hp _)⟩ s1o (by show 1 + s1.depth≤_; omega)
    have n4:kind ≠ "not" := fun e=>c4 (decide_eq_true (by rw [e]))
    refine ⟨_,rfl,rfl,_,rfl,ite2 (fun c5=>?_) (fun c5=>?_)⟩
    · have ek:kind = "some" := by have:=of_decide_eq_true c5; cases this; rfl
      subst ek
      refine iteT ⟨_,rfl,.inl ⟨rfl,_,SqL.of M.mad⟩,_,rfl,_,rfl,_,rfl,by show 3≤sizeLine; decide,fun p hp=>⟨md,_,_,rfl,rfl,mdu p _ hp,bigV,?_⟩⟩
      exact fin p _ (.q1 true x s1) hp ⟨q1,upd_same,s1i.mono (Tups.new hp _)⟩ ⟨hx,s1o⟩ (by show 1 + s1.depth≤_; omega)
    have n5:kind ≠ "some" := fun e=>c5 (decide_eq_true (by rw [e]))
    refine ⟨_,rfl,rfl,_,rfl,ite2 (fun c6=>?_) (fun c6=>?_)⟩
    · have ek:kind = "each" := by have:=of_decide_eq_true c6; cases this; rfl
      subst ek
      refine ⟨_,rfl,.inl ⟨rfl,_,SqL.of M.mad⟩,_,rfl,_,rfl,_,rfl,by show 3≤sizeLine; decide,fun p hp=>⟨md,_,_,rfl,rfl,mdu p _ hp,bigV,?_⟩⟩
      exact fin p _ (.q1 false x s1) hp ⟨q1,upd_same,s1i.mono (Tups.new hp _)⟩ ⟨hx,s1o⟩ (by show 1 + s1.depth≤_; omega)
    have n6:kind ≠ "each" := fun e=>c6 (decide_eq_true (by rw [e]))
    obtain ⟨o,ho⟩:∃ o:Fin 4,kind = w2 o:=by
      have:kind∈([Str.ofString "mark", Str.ofString "mark", Str.ofString "not", Str.ofString "and", Str.ofString "or", Str.ofString "either", Str.ofString "if", Str.ofString "and", Str.ofString "or", Str.ofString "some", Str.ofString "each", Str.ofString "yes", Str.ofString "no", Str.ofString "mark"]:List Str):=hkm
      simp only [List.mem_cons,List.not_mem_nil,or_false] at this
      rcases this with h | h | h | h | h | h | h | h | h | h | h | h | h | h <;> first | exact absurd h n1 | exact absurd h n2 | exact absurd h n3 | exact absurd h n4 | exact absurd h n5 | exact absurd h n6 | exact ⟨0,h⟩ | exact ⟨1,h⟩ | exact ⟨2,h⟩ | exact ⟨3,h⟩
    subst ho
    refine ⟨_,rfl,.inl ⟨rfl,_,SqL.of M.mad⟩,_,rfl,_,rfl,_,rfl,by show 3≤sizeLine; decide,fun p hp=>⟨md,_,_,rfl,rfl,mdu p _ hp,bigV,?_⟩⟩
    exact fin p _ (.b2 o s2 s1) hp ⟨q2,q1,upd_same,s2i.mono (Tups.new hp _),s1i.mono (Tups.new hp _)⟩ ⟨s2o,s1o⟩ (by show 1 + max s2.depth s1.depth≤_; omega)
  · rintro σ H' ⟨ps,f1,f2,f3,f4,f5,f6,M,lp,rfl⟩
    obtain ⟨p,hp,hp'⟩:=pick_made (ps:=ps) (i:=-1) (by omega) (by omega)
    obtain ⟨s',z1,z2,z3⟩:=M.all p hp
    have e:((m:Int) - 1).toNat + 1 = m:=by omega
    rw [e] at z3
    exact ⟨_,rfl,1,rfl,md,_,-1,_,rfl,rfl,SqL.of M.mad,hp',q p H' s' M.old z1 z2 z3⟩
theorem ok_is_mark (T:Txt P w K mg a):FnOk P w K mg base CX0 (k + 1) a.a_is_mark a.d_is_mark ["letter"] spIsMark:=by
  refine T.F_is_mark.ok sc_is_mark (fun vs H Q E h=>?_) (fun cdv A outer s H vs Q E hr h=>?_)
  · obtain ⟨x,rfl,_⟩:=h
    rfl
  obtain ⟨x,rfl,q⟩:=h
  refine ⟨_,(pss_one (ps_ret (pe_cmpR op_in_seq (pv 0) (pe_glob (v:=.ref a.a_MARKS) rfl T.m_MARKS rfl) (by with_unfolding_all rfl)))),?_⟩
  refine ⟨_,rfl,a.a_MARKS,letts.map V.str,rfl,.inr (T.q_MARKS H),rfl,flat_strs _,?_⟩
  show Q (.bl (inV (.str x) (letts.map V.str))) H
  rw [inV_strs]
  exact q
theorem ok_is_order (T:Txt P w K mg a) (G_is_mark:FnOk P w K mg base CX0 k a.a_is_mark a.d_is_mark ["letter"] spIsMark):FnOk P w K mg base CX0 (k + 1) a.a_is_order a.d_is_order ["order"] (spIsOrder K):=by
  refine T.F_is_order.ok sc_is_order (fun vs H Q E h=>?_) (fun cdv A outer s H vs Q E hr h=>?_)
  · obtain ⟨l,os,rfl,_⟩:=h
    rfl
  obtain ⟨l,os,rfl,hq,h100,q⟩:=h
  refine ⟨_,(pss_one (ps_ret (pe_and (pe_cmpR op_gt (pe_callB call_len_seq rfl T.n_len bt_len (pa_cons (pv 0) pa_nil)) pe_int (nomark _)) (pe_and (pe_callB (call_all rfl) rfl T.n_all bt_all (pa_cons (pe_lc0 (osc:=defScope S_is_order) (js:=[]) rfl (by show LcOk (defScope S_is_order) _ "letter" []; exact ⟨rfl,by decide +kernel,by decide +kernel,rfl,by decide +kernel,by decide +kernel,by decide +kernel⟩) rfl (pi_list (pv 0)) (by show ∀ j∈([]:List Nat),j < 1; decide) (fun cl C s₂ H₂ fp=>(pe_call G_is_mark hr rfl T.m_is_mark T.F_is_mark.2 T.b_is_mark .nil pass0 (pa_cons (pv 0) pa_nil)))) pa_nil)) (pe_one (pe_cmpR op_eq (pe_callB call_len_set' rfl T.n_len bt_len (pa_cons (pe_callTy (call_set rfl) rfl T.n_set bt_set (pa_cons (pv 0) pa_nil)) pa_nil)) (pe_callB call_len_seq rfl T.n_len bt_len (pa_cons (pv 0) pa_nil)) (nomark _))))))),?_⟩
  have hlen:(os.map V.str).length = os.length:=List.length_map _
  refine ⟨_,rfl,l,_,rfl,.inl hq,_,_,rfl,rfl,_,rfl,ite2 (fun c=>?_) (fun c=>?_)⟩
  · have c':0 < os.length:=by have:=of_decide_eq_true c; rw [hlen] at this; omega
    refine ⟨_,rfl,l,rfl,⟨_,hq⟩,lc_relL (fun x v=>v = (match x with | .str y=>.bl (decide (y∈letts)) | _=>.non)) hq (by rw [hlen]; exact Nat.le_of_lt (small1000 (by omega))) ?_ (mono1 mono_isMark) ?_⟩
    · intro i x H' hx g
      rw [List.getElem?_map] at hx
      cases ho:os[i]? with
      | none=>rw [ho] at hx; cases hx
      | some y =>
        rw [ho] at hx
        cases hx
        exact ⟨_,rfl,y,rfl,rfl,g⟩
    · intro ys H' p hr' g hp
      have e:=pd_map (f:=fun x=>match x with | .str y=>.bl (decide (y∈letts)) | _=>.non) hr'
      rw [List.map_map] at e
      have e2:ys = (os.map fun y=>decide (y∈letts)).map V.bl:=by rw [e,List.map_map]; rfl
      subst e2
      have g1:=Same.new hp (.lst ((os.map fun y=>decide (y∈letts)).map V.bl))
      refine ⟨p,_,rfl,SqL.of upd_same,_,rfl,ite2 (fun c2=>?_) (fun c2=>?_)⟩
      · have hq2:=(g.trans g1).seq hq
        refine ⟨_,rfl,l,os,rfl,hq2,h100,fun z hz=>⟨z,_,rfl,upd_same,?_⟩⟩
        have g2:=Same.new hz (SetN P w z (dd os).length)
        refine ⟨_,rfl,l,_,rfl,.inl (g2.seq hq2),rfl,?_⟩
        have e3:decide (V.int ((dd os).length:Nat) = V.int ((os.map V.str).length:Nat)) = ordB os:=by
          unfold ordB
          have c2':os.all (fun x=>decide (x∈letts)) = true:=by rw [List.all_map] at c2; exact c2
          rw [decide_eq_true c',c2',hlen]
          by_cases nd:os.Nodup
          · rw [decide_eq_true nd,dd_nodup nd]; simp
          · have:=dd_dup nd
            rw [decide_eq_false nd,decide_eq_false (fun z=>by injection z with z; omega)]; rfl
        rw [e3]
        exact q _ ((g.trans g1).trans g2)
      · have e4:ordB os = false:=by
          unfold ordB
          have c2':os.all (fun x=>decide (x∈letts)) = false:=by
            rw [List.all_map] at c2
            exact Bool.eq_false_iff.mpr c2
          rw [c2',Bool.false_and,Bool.and_false]
        rw [← e4]
        exact q _ (g.trans g1)
  · have e4:ordB os = false:=by
      unfold ordB
      rw [decide_eq_false (fun z=>c (decide_eq_true (by rw [hlen]; omega))),Bool.false_and]
    rw [← e4]
    exact q _ (Same.refl _)
theorem ok_letters_of (T:Txt P w K mg a):FnOk P w K mg base CX0 (k + 1) a.a_letters_of a.d_letters_of ["sentence"] spLettersOf:=by
  refine T.F_letters_of.ok sc_letters_of (fun vs H Q E h=>?_) (fun cdv A outer s H vs Q E hr h=>?_)
  · obtain ⟨p,x,m,n,rest,rfl,_⟩:=h
    rfl
  obtain ⟨p,x,m,n,rest,rfl,hp,hm,hl,q⟩:=h
  refine ⟨_,(pss_one (ps_ret (pe_slice sl_tup (pv 0) (po_some pe_int) (po_some (pe_op op_add pe_int (pe_ix ix_tup (pe_ix (ix_dicK T.d_SHAPES) (pe_glob (v:=.ref a.a_SHAPES) rfl T.m_SHAPES rfl) (pe_ix ix_tup (pv 0) pe_int (fun _ _=>rfl)) (fun _ _=>rfl)) pe_int (fun _ _=>rfl))))))),?_⟩
  obtain ⟨pt,hv,hpt⟩:=T.y_SHAPES x m n hm
  refine ⟨_,rfl,1,rfl,_,rfl,p,_,0,_,rfl,rfl,SqT.of hp,at0,x,.ref pt,.ref pt,rfl,rfl,hv,rfl,pt,_,0,_,rfl,rfl,hpt H,at0,1,(m:Int),rfl,rfl,_,rfl,p,_,rfl,SqT.of hp,not_whole1 (by decide),fun z hz=>?_⟩
  rw [cut_fore hl]
  exact q z hz
theorem ok_parts_of (T:Txt P w K mg a):FnOk P w K mg base CX0 (k + 1) a.a_parts_of a.d_parts_of ["sentence"] spPartsOf:=by
  refine T.F_parts_of.ok sc_parts_of (fun vs H Q E h=>?_) (fun cdv A outer s H vs Q E hr h=>?_)
  · obtain ⟨p,x,m,n,rest,rfl,_⟩:=h
    rfl
  obtain ⟨p,x,m,n,rest,rfl,hp,hm,hl,q⟩:=h
  refine ⟨_,(pss_one (ps_ret (pe_slice sl_tup (pv 0) (po_some (pe_op op_add pe_int (pe_ix ix_tup (pe_ix (ix_dicK T.d_SHAPES) (pe_glob (v:=.ref a.a_SHAPES) rfl T.m_SHAPES rfl) (pe_ix ix_tup (pv 0) pe_int (fun _ _=>rfl)) (fun _ _=>rfl)) pe_int (fun _ _=>rfl)))) po_none))),?_⟩
  obtain ⟨pt,hv,hpt⟩:=T.y_SHAPES x m n hm
  refine ⟨_,rfl,_,rfl,p,_,0,_,rfl,rfl,SqT.of hp,at0,x,.ref pt,.ref pt,rfl,rfl,hv,rfl,pt,_,0,_,rfl,rfl,hpt H,at0,1,(m:Int),rfl,rfl,_,rfl,p,_,rfl,SqT.of hp,not_whole1 (by omega),fun z hz=>?_⟩
  rw [cut_rear hl]
  exact q z hz
theorem ok_parts_of_all (T:Txt P w K mg a) (G_parts_of:FnOk P w K mg base CX0 k a.a_parts_of a.d_parts_of ["sentence"] spPartsOf):FnOk P w K mg base CX0 (k + 1) a.a_parts_of_all a.d_parts_of_all ["level"] (spPartsOfAll K):=by
  refine T.F_parts_of_all.ok sc_parts_of_all (fun vs H Q E h=>?_) (fun cdv A outer s H vs Q E hr h=>?_)
  · obtain ⟨l,ss,ps,rfl,_⟩:=h
    rfl
  obtain ⟨l,ss,ps,rfl,hl,hp,hz,q⟩:=h
  refine ⟨_,(pss_cons (ps_set (i:=1) sc_parts_of_all.nd rfl (Or.inl rfl) (pe_lst pa_nil))
      (pss_cons (ps_for PassesOwn.never rfl (pi_list (pv 0)) (pg_name (i:=2) sc_parts_of_all.nd rfl (Or.inl rfl)) (pss_one (ps_expr (pe_bm PySem.F.plainAttrs_list PySem.F.slot_list_extend PySem.F.type_list_extend mt_extendT (pv 1) (pa_cons (pe_call G_parts_of hr rfl T.m_parts_of T.F_parts_of.2 T.b_parts_of .nil pass0 (pa_cons (pv 2) pa_nil)) pa_nil)))))
      (pss_one (ps_ret (pv 1))))),?_⟩
  have pl:=pd_len hp
  refine ⟨by show 0≤sizeLine; decide,fun f hf=>?_⟩
  have g0:=Same.new hf (.lst [])
  refine ⟨_,rfl,l,rfl,⟨_,g0.seq hl⟩,?_⟩
  refine for_list (xs:=ps.map V.ref) (fun i σ H'=>∃ (qs:List Addr) (f1:Option V),Same H H'∧H' f = some (.lst (qs.map V.ref))∧Paired (IsS H') ((ss.take i).flatMap Sn.parts) qs∧qs.length≤2 * i∧i≤ss.length∧σ = [some (.ref l),some (.ref f),f1])
    ⟨[],_,g0,upd_same,.nil,by simp,Nat.zero_le _,rfl⟩ ?_ ?_ ?_
  · rintro i σ H' _ ⟨qs,f1,g,_⟩
    exact g.seq hl
  · rintro i x σ H' hx ⟨qs,f1,g,hf',hqs,lq,li,rfl⟩
    rw [List.getElem?_map] at hx
    cases ho:ps[i]? with
    | none=>rw [ho] at hx; cases hx
    | some p =>
      rw [ho] at hx
      cases hx
      obtain ⟨sn,hsn,isp⟩:=pd_ta hp ho
      have hlt:=(List.getElem?_eq_some_iff.mp hsn).1
      obtain ⟨zs,c1,c2,c3,c4,c5⟩:=sen_cut (isp.mono (Tups.of g))
      have lz:=pd_len c2
      have lp2:=Sn.parts_le sn
      refine ⟨_,rfl,.inl ⟨rfl,_,SqL.of hf'⟩,_,rfl,p,sn.word,sn.letters.length,sn.parts.length,_,rfl,c1,shape_in sn,c3,fun b hb=>?_⟩
      rw [c5]
      have nfb:f≠b:=ne_of_none hf' hb
      have hf2:(upd H' b (.tup (zs.map V.ref))) f = some (.lst (qs.map V.ref)):=by rw [upd_ne nfb]; exact hf'
      refine ⟨f,b,qs.map V.ref,zs.map V.ref,rfl,rfl,hf2,?_,?_,?_⟩
      · exact SqT.of upd_same
      · rw [List.length_map,List.length_map]
        exact Nat.le_of_lt (small1000 (by omega))
      · refine ⟨qs ++ zs,_,(g.trans (Same.new hb _)).over hf _,by rw [upd_same,List.map_append],?_,?_,hlt,rfl⟩
        · rw [take_next hsn,List.flatMap_append,List.flatMap_singleton]
          have t1:Tups H' (upd (upd H' b (.tup (zs.map V.ref))) f (.lst (qs.map V.ref ++ zs.map V.ref))):=(Tups.new hb _).trans (Tups.lst hf2 _)
          exact pd_app (pd_imp (fun _ _ z=>z.mono t1) hqs) (pd_imp (fun _ _ z=>z.mono t1) c2)
        · rw [List.length_append]; omega
  · rintro σ H' ⟨qs,f1,g,hf',hqs,lq,li,rfl⟩
    rw [List.length_map,← pl,List.take_length] at hqs
    exact ⟨_,rfl,q f H' qs g hf hf' hqs⟩
theorem ok_is_shaped (T:Txt P w K mg a) (G_is_mark:FnOk P w K mg base CX0 k a.a_is_mark a.d_is_mark ["letter"] spIsMark) (G_letters_of:FnOk P w K mg base CX0 k a.a_letters_of a.d_letters_of ["sentence"] spLettersOf) (G_parts_of:FnOk P w K mg base CX0 k a.a_parts_of a.d_parts_of ["sentence"] spPartsOf) :
    FnOk P w K mg base CX0 (k + 1) a.a_is_shaped a.d_is_shaped ["some"] spShaped:=by
  refine T.F_is_shaped.ok sc_is_shaped (fun vs H Q E h=>?_) (fun cdv A outer s H vs Q E hr h=>?_)
  · obtain ⟨p,s,rfl,_⟩:=h
    rfl
  obtain ⟨p,sn,rfl,isp,hle,q⟩:=h
  refine ⟨_,(pss_cons (ps_if (PW.pt (pw_or (pt_cmpR op_eq (pe_callB call_len_seq rfl T.n_len bt_len (pa_cons (pv 0) pa_nil)) pe_int (nomark _)) (pw_or (pt_not (pt_truth (pe_callB call_isinst rfl T.n_isinstance bt_isinstance (pa_cons (pe_ix ix_tup (pv 0) pe_int (fun _ _=>rfl)) (pa_cons (pe_bltn (v:=.ty "str") rfl T.n_str bt_str rfl) pa_nil))) (fun _=>rfl))) (pw_or1 (pt_cmpR (op_notIn_dicK T.d_SHAPES) (pe_ix ix_tup (pv 0) pe_int (fun _ _=>rfl)) (pe_glob (v:=.ref a.a_SHAPES) rfl T.m_SHAPES rfl) (by with_unfolding_all rfl)))))) (pss_one (ps_ret pe_bl)) pss_nil)
      (pss_cons (ps_set (i:=1) sc_is_shaped.nd rfl (Or.inl rfl) (pe_ix (ix_dicK T.d_SHAPES) (pe_glob (v:=.ref a.a_SHAPES) rfl T.m_SHAPES rfl) (pe_ix ix_tup (pv 0) pe_int (fun _ _=>rfl)) (fun _ _=>rfl)))
      (pss_cons (ps_if (pt_cmpR op_ne (pe_callB call_len_seq rfl T.n_len bt_len (pa_cons (pv 0) pa_nil)) (pe_op op_add (pe_op op_add pe_int (pe_ix ix_tup (pv 1) pe_int (fun _ _=>rfl))) (pe_ix ix_tup (pv 1) pe_int (fun _ _=>rfl))) (nomark _)) (pss_one (ps_ret pe_bl)) pss_nil)
      (pss_cons (ps_if (pt_not (pt_truth (pe_callB (call_all rfl) rfl T.n_all bt_all (pa_cons (pe_lc0 (osc:=defScope S_is_shaped) (js:=[]) rfl (by show LcOk (defScope S_is_shaped) _ "letter" []; exact ⟨rfl,by decide +kernel,by decide +kernel,rfl,by decide +kernel,by decide +kernel,by decide +kernel⟩) rfl (pi_tup (pe_call G_letters_of hr rfl T.m_letters_of T.F_letters_of.2 T.b_letters_of .nil pass0 (pa_cons (pv 0) pa_nil))) (by show ∀ j∈([]:List Nat),j < 2; decide) (fun cl C s₂ H₂ fp=>(pe_call G_is_mark hr rfl T.m_is_mark T.F_is_mark.2 T.b_is_mark .nil pass0 (pa_cons (pv 0) pa_nil)))) pa_nil)) (fun _=>rfl))) (pss_one (ps_ret pe_bl)) pss_nil)
      (pss_one (ps_ret (pe_callB (call_all rfl) rfl T.n_all bt_all (pa_cons (pe_lc0 (osc:=defScope S_is_shaped) (js:=[]) rfl (by show LcOk (defScope S_is_shaped) _ "part" []; exact ⟨rfl,by decide +kernel,by decide +kernel,rfl,by decide +kernel,by decide +kernel,by decide +kernel⟩) rfl (pi_tup (pe_call G_parts_of hr rfl T.m_parts_of T.F_parts_of.2 T.b_parts_of .nil pass0 (pa_cons (pv 0) pa_nil))) (by show ∀ j∈([]:List Nat),j < 2; decide) (fun cl C s₂ H₂ fp=>(pe_callB (call_isinstK (K:=K) rfl) rfl T.n_isinstance bt_isinstance (pa_cons (pv 0) (pa_cons (pe_bltn (v:=.ty "tuple") rfl T.n_tuple bt_tuple rfl) pa_nil))))) pa_nil)))))))),?_⟩
  obtain ⟨zs,c1,c2,c3,c4,c5⟩:=sen_cut isp
  have lz:=pd_len c2
  obtain ⟨pt,hv,hpt⟩:=T.y_SHAPES _ _ _ (shape_in sn)
  have lp2:=Sn.parts_le sn
  have ll1:=Sn.letters_le sn
  refine ⟨_,rfl,p,_,rfl,.inr (SqT.of c1),rfl,_,rfl,ite2 (fun c=>?_) (fun _=>?_)⟩
  · exfalso
    have:=of_decide_eq_true c
    injection this with this
    rw [List.length_cons] at this
    omega
  refine ⟨_,rfl,p,_,0,_,rfl,rfl,SqT.of c1,at0,_,_,_,true,rfl,.str sn.word,rfl,_,rfl,iteF ?_⟩
  refine ⟨_,rfl,p,_,0,_,rfl,rfl,SqT.of c1,at0,sn.word,rfl,rfl,_,rfl,?_⟩
  rw [hv]
  refine iteF ?_
  refine ⟨_,rfl,p,_,0,_,rfl,rfl,SqT.of c1,at0,sn.word,.ref pt,.ref pt,rfl,rfl,hv,rfl,?_⟩
  refine ⟨_,rfl,p,_,rfl,.inr (SqT.of c1),_,rfl,pt,_,0,_,rfl,rfl,hpt H,at0,1,_,rfl,rfl,_,rfl,pt,_,1,_,rfl,rfl,hpt H,at1,_,_,rfl,rfl,rfl,_,rfl,ite2 (fun c=>?_) (fun _=>?_)⟩
  · exfalso
    have z:V.int ((VC sn zs).length:Nat) = V.int (1 + ((sn.letters.length:Nat):Int) + ((sn.parts.length:Nat):Int)):=by
      congr 1
      show (((V.str sn.word :: (sn.letters.map V.str ++ zs.map V.ref)).length:Nat):Int) = _
      rw [List.length_cons,c3]
      omega
    have c':(!decide (V.int ((VC sn zs).length:Nat) = V.int (1 + ((sn.letters.length:Nat):Int) + ((sn.parts.length:Nat):Int)))) = true:=c
    rw [decide_eq_true z] at c'
    cases c'
  refine ⟨_,rfl,p,sn.word,sn.letters.length,sn.parts.length,_,rfl,c1,shape_in sn,c3,fun b hb=>?_⟩
  rw [c4]
  have g1:=Same.new hb (.tup (sn.letters.map V.str))
  refine ⟨b,rfl,⟨_,SqT.of upd_same⟩,lc_relT (xs:=sn.letters.map V.str) (fun _ v=>v = .bl true) (SqT.of upd_same) (by rw [List.length_map]; exact Nat.le_of_lt (small1000 (by omega))) ?_ (mono1 mono_isMark) ?_⟩
  · intro i x H' hx g
    rw [List.getElem?_map] at hx
    cases ho:sn.letters[i]? with
    | none=>rw [ho] at hx; cases hx
    | some y =>
      rw [ho] at hx
      cases hx
      refine ⟨_,rfl,y,rfl,?_,g⟩
      rw [decide_eq_true (hle y (List.mem_of_getElem? ho))]
  intro ys H' p2 hr' g hp2
  have e:=pd_map (f:=fun _=>.bl true) hr'
  have e2:ys = (sn.letters.map fun _=>true).map V.bl:=by rw [e,List.map_map,List.map_map]; rfl
  subst e2
  have g2:=Same.new hp2 (.lst ((sn.letters.map fun _=>true).map V.bl))
  have ea:(sn.letters.map fun _=>true).all id = true:=by rw [List.all_map,List.all_eq_true]; exact fun _ _=>rfl
  refine ⟨p2,_,rfl,SqL.of upd_same,_,rfl,?_⟩
  rw [ea]
  refine iteF ?_
  have gg:=(g1.trans g).trans g2
  have c1':=gg _ _ c1
  refine ⟨_,rfl,p,sn.word,sn.letters.length,sn.parts.length,_,rfl,c1',shape_in sn,c3,fun b3 hb3=>?_⟩
  rw [c5]
  have g3:=Same.new hb3 (.tup (zs.map V.ref))
  refine ⟨b3,rfl,⟨_,SqT.of upd_same⟩,lc_relT (xs:=zs.map V.ref) (fun _ v=>v = .bl true) (SqT.of upd_same) (by rw [List.length_map]; exact Nat.le_of_lt (small1000 (by omega))) ?_ ?_ ?_⟩
  · intro i x H4 hx g4
    rw [List.getElem?_map] at hx
    cases ho:zs[i]? with
    | none=>rw [ho] at hx; cases hx
    | some y =>
      rw [ho] at hx
      cases hx
      obtain ⟨sy,_,iy⟩:=pd_ta c2 ho
      obtain ⟨ws,d1,_⟩:=sen_cut iy
      have d1':=((gg.trans g3).trans g4) _ _ d1
      exact ⟨_,rfl,_,_,_,true,rfl,.tup d1',rfl,rfl,g4⟩
  · rintro σ' H' Q1 Q2 hQ ⟨v,e,x,T',t,b',h1,h2,h3,h4⟩
    exact ⟨v,e,x,T',t,b',h1,h2,h3,hQ _ _ h4⟩
  · intro ys H4 p4 hr4 g4 hp4
    have e:=pd_map (f:=fun _=>.bl true) hr4
    have e2:ys = (zs.map fun _=>true).map V.bl:=by rw [e,List.map_map,List.map_map]; rfl
    subst e2
    have ea:(zs.map fun _=>true).all id = true:=by rw [List.all_map,List.all_eq_true]; exact fun _ _=>rfl
    refine ⟨p4,_,rfl,SqL.of upd_same,?_⟩
    rw [ea]
    exact q _ (((gg.trans g3).trans g4).trans (Same.new hp4 _))
theorem ok_is_sentence (T:Txt P w K mg a) (G_is_shaped:FnOk P w K mg base CX0 k a.a_is_shaped a.d_is_shaped ["some"] spShaped) (G_parts_of_all:FnOk P w K mg base CX0 k a.a_parts_of_all a.d_parts_of_all ["level"] (spPartsOfAll K)) :
    FnOk P w K mg base CX0 (k + 1) a.a_is_sentence a.d_is_sentence ["some"] spIsSen:=by
  refine T.F_is_sentence.ok sc_is_sentence (fun vs H Q E h=>?_) (fun cdv A outer s H vs Q E hr h=>?_)
  · obtain ⟨p,s,rfl,_⟩:=h
    rfl
  obtain ⟨p,sn,rfl,isp,hin,hc,hd,q⟩:=h
  refine ⟨_,(pss_cons (ps_set (i:=1) sc_is_sentence.nd rfl (Or.inl rfl) (pe_lst (pa_cons (pv 0) pa_nil)))
      (pss_cons (ps_set (i:=2) sc_is_sentence.nd rfl (Or.inl rfl) pe_int)
      (pss_cons (ps_set (i:=3) sc_is_sentence.nd rfl (Or.inl rfl) pe_int)
      (pss_cons (ps_while PassesOwn.never (pt_cmpR op_gt (pe_callB call_len_seq rfl T.n_len bt_len (pa_cons (pv 1) pa_nil)) pe_int (nomark _)) (pss_cons (ps_aug (i:=2) sc_is_sentence.nd rfl (Or.inl rfl) pe_int iop_add)
      (pss_cons (ps_aug (i:=3) sc_is_sentence.nd rfl (Or.inl rfl) (pe_callB call_len_seq rfl T.n_len bt_len (pa_cons (pv 1) pa_nil)) iop_add)
      (pss_cons (ps_if (PW.pt (pw_or (pt_cmpR op_gt (pv 2) (pe_glob (v:=.int 24) rfl T.m_MOST_DEEP ⟨_,rfl⟩) (nomark _)) (pw_or1 (pt_cmpR op_gt (pv 3) (pe_glob (v:=.int 200) rfl T.m_MOST_TUPLES ⟨_,rfl⟩) (nomark _))))) (pss_one (ps_ret pe_bl)) pss_nil)
      (pss_cons (ps_if (pt_not (pt_truth (pe_callB (call_all rfl) rfl T.n_all bt_all (pa_cons (pe_lc0 (osc:=defScope S_is_sentence) (js:=[]) rfl (by show LcOk (defScope S_is_sentence) _ "part" []; exact ⟨rfl,by decide +kernel,by decide +kernel,rfl,by decide +kernel,by decide +kernel,by decide +kernel⟩) rfl (pi_list (pv 1)) (by show ∀ j∈([]:List Nat),j < 4; decide) (fun cl C s₂ H₂ fp=>(pe_call G_is_shaped hr rfl T.m_is_shaped T.F_is_shaped.2 T.b_is_shaped .nil pass0 (pa_cons (pv 0) pa_nil)))) pa_nil)) (fun _=>rfl))) (pss_one (ps_ret pe_bl)) pss_nil)
      (pss_one (ps_set (i:=1) sc_is_sentence.nd rfl (Or.inl rfl) (pe_call G_parts_of_all hr rfl T.m_parts_of_all T.F_parts_of_all.2 T.b_parts_of_all .nil pass0 (pa_cons (pv 1) pa_nil)))))))))
      (pss_one (ps_ret pe_bl)))))),?_⟩
  refine ⟨_,rfl,by show 1≤sizeLine; decide,fun l0 hl0=>?_⟩
  have g0:=Same.new hl0 (.lst [.ref p])
  refine ⟨fun m σ H'=>∃ (ss:List Sn) (ps:List Addr) (l:Addr) (d t:Nat),m = cnt ss∧Same H H'∧H' l = some (.lst (ps.map V.ref))∧Paired (IsS H') ss ps∧(∀ u∈ss,u.inO letts∧d + u.depth≤24)∧t + cnt ss≤200∧σ = [some (.ref p),some (.ref l),some (.int d),some (.int t)],
    ⟨_,[sn],[p],l0,0,0,rfl,g0,upd_same,.cons (isp.mono (Tups.of g0)) .nil,?_,?_,rfl⟩,?_⟩
  · intro u hu
    have e:u = sn:=by simpa using hu
    subst e
    exact ⟨hin,by omega⟩
  · show 0 + (sn.count + 0)≤200
    omega
  rintro m σ H' ⟨ss,ps,l,d,t,rfl,g,hl,hp,hi,ht,rfl⟩
  have lp:=pd_len hp
  have le:(ps.map V.ref).length = ss.length:=by rw [List.length_map]; exact lp.symm
  have cl:=cnt_len ss
  refine ⟨_,rfl,l,_,rfl,.inl (SqL.of hl),_,_,rfl,rfl,_,rfl,ite2 (fun c=>?_) (fun c=>?_)⟩
  · have c':0 < ss.length:=by have:=of_decide_eq_true c; rw [le] at this; omega
    have hd1:d + 1≤24:=by
      have hm:ss[0]∈ss:=List.getElem_mem c'
      have:=(hi _ hm).2
      have:=Sn.depth_pos ss[0]
      omega
    refine ⟨_,fun σ' H2 h=>h,?_⟩
    refine ⟨_,rfl,(d:Int),1,rfl,rfl,?_⟩
    refine ⟨_,rfl,_,rfl,l,_,rfl,.inl (SqL.of hl),(t:Int),_,rfl,rfl,?_⟩
    refine ⟨_,rfl,_,_,rfl,rfl,_,rfl,ite2 (fun c2=>?_) (fun _=>?_)⟩
    · exfalso
      have:=of_decide_eq_true c2
      omega
    refine ⟨_,rfl,_,_,rfl,rfl,_,rfl,ite2 (fun c2=>?_) (fun _=>?_)⟩
    · exfalso
      have:=of_decide_eq_true c2
      rw [le] at this
      omega
    refine ⟨_,rfl,l,rfl,⟨_,SqL.of hl⟩,lc_relL (fun _ v=>v = .bl true) (SqL.of hl) (by rw [le]; exact Nat.le_of_lt (small1000 (by omega))) ?_ (mono1 mono_shaped) ?_⟩
    · intro i x H2 hx g2
      rw [List.getElem?_map] at hx
      cases ho:ps[i]? with
      | none=>rw [ho] at hx; cases hx
      | some y =>
        rw [ho] at hx
        cases hx
        obtain ⟨sy,hsy,iy⟩:=pd_ta hp ho
        exact ⟨_,rfl,y,sy,rfl,iy.mono (Tups.of g2),Sn.inO_letters sy (hi sy (List.mem_of_getElem? hsy)).1,fun H3 g3=>⟨rfl,g2.trans g3⟩⟩
    intro ys H2 p2 hr' g2 hp2
    have e:=pd_map (f:=fun _=>.bl true) hr'
    have e2:ys = (ps.map fun _=>true).map V.bl:=by rw [e,List.map_map,List.map_map]; rfl
    subst e2
    have g3:=Same.new hp2 (.lst ((ps.map fun _=>true).map V.bl))
    have ea:(ps.map fun _=>true).all id = true:=by rw [List.all_map,List.all_eq_true]; exact fun _ _=>rfl
    refine ⟨p2,_,rfl,SqL.of upd_same,_,rfl,?_⟩
    rw [ea]
    refine iteF ?_
    have gg:=g2.trans g3
    refine ⟨_,rfl,l,ss,ps,rfl,gg.seq (SqL.of hl),pd_imp (fun _ _ z=>z.mono (Tups.of gg)) hp,by omega,fun l' H4 ps' g4 hn hl' hp'=>?_⟩
    have cp:=cnt_parts ss
    refine ⟨cnt (ss.flatMap Sn.parts),by omega,ss.flatMap Sn.parts,ps',l',d + 1,t + (ps.map V.ref).length,rfl,(g.trans gg).trans g4,hl',hp',?_,by omega,rfl⟩
    intro u hu
    obtain ⟨s',hs',hu'⟩:=mem_level.mp hu
    obtain ⟨i1,i2⟩:=hi s' hs'
    have:=Sn.depth_parts s' u hu'
    exact ⟨Sn.inO_parts s' i1 u hu',by omega⟩
  · exact q _ g
theorem ok_must_be_order (T:Txt P w K mg a) (G_is_order:FnOk P w K mg base CX0 k a.a_is_order a.d_is_order ["order"] (spIsOrder K)):FnOk P w K mg base CX0 (k + 1) a.a_must_be_order a.d_must_be_order ["order"] (spMustOrder K):=by
  refine T.F_must_be_order.ok sc_must_be_order (fun vs H Q E h=>?_) (fun cdv A outer s H vs Q E hr h=>?_)
  · obtain ⟨l,os,rfl,_⟩:=h
    rfl
  obtain ⟨l,os,rfl,hq,ho,q⟩:=h
  refine ⟨_,(pss_one (ps_if (pt_not (pt_truth (pe_call G_is_order hr rfl T.m_is_order T.F_is_order.2 T.b_is_order .nil pass0 (pa_cons (pv 0) pa_nil)) (fun _=>rfl))) (pss_one ps_never) pss_nil)),?_⟩
  refine ⟨_,rfl,l,os,rfl,hq,Nat.le_trans ho.le (by decide),fun H' g=>⟨_,rfl,?_⟩⟩
  rw [ordB_of ho]
  exact iteF (q H' g)
theorem ok_must_be_sentence (T:Txt P w K mg a) (G_is_sentence:FnOk P w K mg base CX0 k a.a_is_sentence a.d_is_sentence ["some"] spIsSen):FnOk P w K mg base CX0 (k + 1) a.a_must_be_sentence a.d_must_be_sentence ["some"] spMustSen:=by
  refine T.F_must_be_sentence.ok sc_must_be_sentence (fun vs H Q E h=>?_) (fun cdv A outer s H vs Q E hr h=>?_)
  · obtain ⟨p,s,rfl,_⟩:=h
    rfl
  obtain ⟨p,sn,rfl,h1,h2,h3,h4,q⟩:=h
  refine ⟨_,(pss_one (ps_if (pt_not (pt_truth (pe_call G_is_sentence hr rfl T.m_is_sentence T.F_is_sentence.2 T.b_is_sentence .nil pass0 (pa_cons (pv 0) pa_nil)) (fun _=>rfl))) (pss_one ps_never) pss_nil)),?_⟩
  exact ⟨_,rfl,p,sn,rfl,h1,h2,h3,h4,fun H' g=>⟨_,rfl,iteF (q H' g)⟩⟩
theorem ok_tuples_in (T:Txt P w K mg a) (G_parts_of_all:FnOk P w K mg base CX0 k a.a_parts_of_all a.d_parts_of_all ["level"] (spPartsOfAll K)):FnOk P w K mg base CX0 (k + 1) a.a_tuples_in a.d_tuples_in ["sentence"] spTuplesIn:=by
  refine T.F_tuples_in.ok sc_tuples_in (fun vs H Q E h=>?_) (fun cdv A outer s H vs Q E hr h=>?_)
  · obtain ⟨p,s,rfl,_⟩:=h
    rfl
  obtain ⟨p,sn,rfl,isp,hc,q⟩:=h
  refine ⟨_,(pss_cons (ps_set (i:=1) sc_tuples_in.nd rfl (Or.inl rfl) (pe_lst pa_nil))
      (pss_cons (ps_set (i:=2) sc_tuples_in.nd rfl (Or.inl rfl) (pe_lst (pa_cons (pv 0) pa_nil)))
      (pss_cons (ps_while PassesOwn.never (pt_cmpR op_gt (pe_callB call_len_seq rfl T.n_len bt_len (pa_cons (pv 2) pa_nil)) pe_int (nomark _)) (pss_cons (ps_expr (pe_bm PySem.F.plainAttrs_list PySem.F.slot_list_extend PySem.F.type_list_extend mt_extend (pv 1) (pa_cons (pv 2) pa_nil)))
      (pss_one (ps_set (i:=2) sc_tuples_in.nd rfl (Or.inl rfl) (pe_call G_parts_of_all hr rfl T.m_parts_of_all T.F_parts_of_all.2 T.b_parts_of_all .nil pass0 (pa_cons (pv 2) pa_nil))))))
      (pss_one (ps_ret (pv 1)))))),?_⟩
  refine ⟨by show 0≤sizeLine; decide,fun f hf=>?_⟩
  refine ⟨_,rfl,by show 1≤sizeLine; decide,fun l0 hl0=>?_⟩
  have g0:=(Same.new hf (.lst [])).trans (Same.new hl0 (.lst [.ref p]))
  have nfl:f≠l0:=ne_of_none upd_same hl0
  refine ⟨fun m σ H'=>∃ (ts ss:List Sn) (qs ps:List Addr) (l:Addr),m = cnt ss∧Same H H'∧H' f = some (.lst (qs.map V.ref))∧H' l = some (.lst (ps.map V.ref))∧f≠l∧Paired (IsS H') ts qs∧Paired (IsS H') ss ps∧ts.length + cnt ss = sn.count ∧
      (∀ x,((∃ t∈ts,x∈t.letters)∨∃ u∈ss,x∈u.all)↔x∈sn.all)∧σ = [some (.ref p),some (.ref f),some (.ref l)],
    ⟨_,[],[sn],[],[p],l0,rfl,g0,by rw [upd_ne nfl]; exact upd_same,upd_same,nfl,.nil,.cons (isp.mono (Tups.of g0)) .nil,?_,?_,rfl⟩,?_⟩
  · show 0 + (sn.count + 0) = sn.count
    omega
  · intro x
    simp
  rintro m σ H' ⟨ts,ss,qs,ps,l,rfl,g,hf',hl,nfl,hts,hss,hcn,hle,rfl⟩
  have lt:=pd_len hts
  have lp:=pd_len hss
  have cl:=cnt_len ss
  have le:(ps.map V.ref).length = ss.length:=by rw [List.length_map]; exact lp.symm
  refine ⟨_,rfl,l,_,rfl,.inl (SqL.of hl),_,_,rfl,rfl,_,rfl,ite2 (fun c=>?_) (fun c=>?_)⟩
  · have c':0 < ss.length:=by have:=of_decide_eq_true c; rw [le] at this; omega
    refine ⟨_,fun σ' H2 h=>h,?_⟩
    refine ⟨_,rfl,.inl ⟨rfl,_,SqL.of hf'⟩,_,rfl,f,l,_,_,rfl,rfl,hf',hl,by rw [List.length_map,List.length_map]; exact Nat.le_of_lt (small1000 (by omega)),?_⟩
    have t1:Tups H' (upd H' f (.lst (qs.map V.ref ++ ps.map V.ref))):=Tups.lst hf' _
    have g1:Same H (upd H' f (.lst (qs.map V.ref ++ ps.map V.ref))):=g.over hf _
    have hl1:(upd H' f (.lst (qs.map V.ref ++ ps.map V.ref))) l = some (.lst (ps.map V.ref)):=by rw [upd_ne (Ne.symm nfl)]; exact hl
    refine ⟨_,rfl,l,ss,ps,rfl,SqL.of hl1,pd_imp (fun _ _ z=>z.mono t1) hss,by omega,fun l' H3 ps' g3 hn hl' hp'=>?_⟩
    have cp:=cnt_parts ss
    have t3:=t1.trans (Tups.of g3)
    refine ⟨cnt (ss.flatMap Sn.parts),by omega,ts ++ ss,ss.flatMap Sn.parts,qs ++ ps,ps',l',rfl,g1.trans g3,by rw [List.map_append]; exact g3 _ _ upd_same,hl',ne_of_none upd_same hn,
      pd_app (pd_imp (fun _ _ z=>z.mono t3) hts) (pd_imp (fun _ _ z=>z.mono t3) hss),hp',by rw [List.length_append]; omega,fun x=>?_,rfl⟩
    rw [← hle x]
    constructor
    · rintro (⟨t,ht,hx⟩ | ⟨u,hu,hx⟩)
      · rcases List.mem_append.mp ht with z | z
        · exact .inl ⟨t,z,hx⟩
        · exact .inr ⟨t,z,(Sn.all_iff t x).mpr (.inl hx)⟩
      · obtain ⟨s',hs',hu'⟩:=mem_level.mp hu
        exact .inr ⟨s',hs',(Sn.all_iff s' x).mpr (.inr ⟨u,hu',hx⟩)⟩
    · rintro (⟨t,ht,hx⟩ | ⟨u,hu,hx⟩)
      · exact .inl ⟨t,List.mem_append_left _ ht,hx⟩
      · rcases (Sn.all_iff u x).mp hx with z | ⟨v,hv,z⟩
        · exact .inl ⟨u,List.mem_append_right _ hu,z⟩
        · exact .inr ⟨v,mem_level.mpr ⟨u,hu,hv⟩,z⟩
  · have c':ss = []:=by
      have:¬ 0 < ss.length:=fun z=>c (decide_eq_true (by rw [le]; omega))
      exact List.length_eq_zero_iff.mp (by omega)
    subst c'
    refine ⟨_,rfl,q f H' ts qs g hf hf' hts ?_ fun x=>?_⟩
    · have:cnt [] = 0:=rfl
      omega
    · rw [← hle x]
      constructor
      · exact fun z=>.inl z
      · rintro (z | ⟨u,hu,_⟩)
        · exact z
        · cases hu
theorem ok_letters_in (T:Txt P w K mg a) (G_tuples_in:FnOk P w K mg base CX0 k a.a_tuples_in a.d_tuples_in ["sentence"] spTuplesIn) (G_letters_of:FnOk P w K mg base CX0 k a.a_letters_of a.d_letters_of ["sentence"] spLettersOf):FnOk P w K mg base CX0 (k + 1) a.a_letters_in a.d_letters_in ["sentence"] spLettersIn:=by
  refine T.F_letters_in.ok sc_letters_in (fun vs H Q E h=>?_) (fun cdv A outer s H vs Q E hr h=>?_)
  · obtain ⟨p,s,rfl,_⟩:=h
    rfl
  obtain ⟨p,sn,rfl,isp,hc,q⟩:=h
  refine ⟨_,(pss_cons (ps_set (i:=1) sc_letters_in.nd rfl (Or.inl rfl) (pe_lst pa_nil))
      (pss_cons (ps_for PassesOwn.never rfl (pi_list (pe_call G_tuples_in hr rfl T.m_tuples_in T.F_tuples_in.2 T.b_tuples_in .nil pass0 (pa_cons (pv 0) pa_nil))) (pg_name (i:=2) sc_letters_in.nd rfl (Or.inl rfl)) (pss_one (ps_expr (pe_bm PySem.F.plainAttrs_list PySem.F.slot_list_extend PySem.F.type_list_extend mt_extendT (pv 1) (pa_cons (pe_call G_letters_of hr rfl T.m_letters_of T.F_letters_of.2 T.b_letters_of .nil pass0 (pa_cons (pv 2) pa_nil)) pa_nil)))))
      (pss_one (ps_ret (pv 1))))),?_⟩
  refine ⟨by show 0≤sizeLine; decide,fun f hf=>?_⟩
  have g0:=Same.new hf (.lst [])
  refine ⟨_,rfl,p,sn,rfl,isp.mono (Tups.of g0),hc,fun l H1 ts ps g1 hn hl hts htl hle=>?_⟩
  have nfl:f≠l:=ne_of_none upd_same hn
  have lt:=pd_len hts
  refine ⟨l,rfl,⟨_,SqL.of hl⟩,?_⟩
  refine for_list (xs:=ps.map V.ref) (fun i σ H'=>∃ (f1:Option V),Same H H'∧H' f = some (.lst (((ts.take i).flatMap Sn.letters).map V.str))∧H' l = some (.lst (ps.map V.ref))∧Paired (IsS H') ts ps∧((ts.take i).flatMap Sn.letters).length≤i∧i≤ts.length∧σ = [some (.ref p),some (.ref f),f1])
    ⟨_,g0.trans g1,g1 _ _ upd_same,hl,hts,by simp,Nat.zero_le _,rfl⟩ ?_ ?_ ?_
  · rintro i σ H' _ ⟨f1,g,hf',hl',_⟩
    exact SqL.of hl'
  · rintro i x σ H' hx ⟨f1,g,hf',hl',hts',lq,li,rfl⟩
    rw [List.getElem?_map] at hx
    cases ho:ps[i]? with
    | none=>rw [ho] at hx; cases hx
    | some pp =>
      rw [ho] at hx
      cases hx
      obtain ⟨sy,hsy,iy⟩:=pd_ta hts' ho
      have hlt:=(List.getElem?_eq_some_iff.mp hsy).1
      obtain ⟨zs,c1,c2,c3,c4,c5⟩:=sen_cut iy
      have l1:=Sn.letters_le sy
      refine ⟨_,rfl,.inl ⟨rfl,_,SqL.of hf'⟩,_,rfl,pp,sy.word,sy.letters.length,sy.parts.length,_,rfl,c1,shape_in sy,c3,fun b hb=>?_⟩
      rw [c4]
      have hf2:(upd H' b (.tup (sy.letters.map V.str))) f = some (.lst (((ts.take i).flatMap Sn.letters).map V.str)):=by rw [upd_ne (ne_of_none hf' hb)]; exact hf'
      refine ⟨f,b,_,sy.letters.map V.str,rfl,rfl,hf2,SqT.of upd_same,?_,?_⟩
      · rw [List.length_map,List.length_map]
        exact Nat.le_of_lt (small1000 (by omega))
      · have t1:Tups H' (upd (upd H' b (.tup (sy.letters.map V.str))) f (.lst (((ts.take i).flatMap Sn.letters).map V.str ++ sy.letters.map V.str))):=(Tups.new hb _).trans (Tups.lst hf2 _)
        have e:(ts.take (i + 1)).flatMap Sn.letters = (ts.take i).flatMap Sn.letters ++ sy.letters:=by rw [take_next hsy,List.flatMap_append,List.flatMap_singleton]
        refine ⟨_,(g.trans (Same.new hb _)).over hf _,by rw [upd_same,e,List.map_append],?_,pd_imp (fun _ _ z=>z.mono t1) hts',by rw [e,List.length_append]; omega,hlt,rfl⟩
        rw [upd_ne (Ne.symm nfl),upd_ne (ne_of_none hl' hb)]
        exact hl'
  · rintro σ H' ⟨f1,g,hf',hl',hts',lq,li,rfl⟩
    rw [List.length_map,← lt,List.take_length] at hf' lq
    refine ⟨_,rfl,q f H' _ g hf hf' (fun x=>?_) (by omega)⟩
    rw [← hle x,List.mem_flatMap]
theorem ok_must_have_mark (T:Txt P w K mg a):FnOk P w K mg base CX0 (k + 1) a.a_must_have_mark a.d_must_have_mark ["order", "letter"] (spMustMark K):=by
  refine T.F_must_have_mark.ok sc_must_have_mark (fun vs H Q E h=>?_) (fun cdv A outer s H vs Q E hr h=>?_)
  · obtain ⟨l,x,os,rfl,_⟩:=h
    rfl
  obtain ⟨l,x,os,rfl,hO,hx,q⟩:=h
  refine ⟨_,(pss_one (ps_if (pt_cmpR op_notIn_seq (pv 1) (pv 0) (by with_unfolding_all rfl)) (pss_one ps_never) pss_nil)),?_⟩
  refine ⟨_,rfl,_,rfl,l,_,rfl,.inl hO,rfl,flat_strs _,_,rfl,?_⟩
  have e:(if true = true then !inV (.str x) (os.map V.str) else inV (.str x) (os.map V.str)) = false:=by
    rw [if_pos rfl,inV_strs,decide_eq_true hx]; rfl
  rw [e]
  exact iteF q
theorem ok_must_have_marks (T:Txt P w K mg a) (G_letters_in:FnOk P w K mg base CX0 k a.a_letters_in a.d_letters_in ["sentence"] spLettersIn) (G_must_have_mark:FnOk P w K mg base CX0 k a.a_must_have_mark a.d_must_have_mark ["order", "letter"] (spMustMark K)):FnOk P w K mg base CX0 (k + 1) a.a_must_have_marks a.d_must_have_marks ["order", "sentence"] (spMustMarks K):=by
  refine T.F_must_have_marks.ok sc_must_have_marks (fun vs H Q E h=>?_) (fun cdv A outer s H vs Q E hr h=>?_)
  · obtain ⟨l,p,os,s,rfl,_⟩:=h
    rfl
  obtain ⟨l,p,os,sn,rfl,hO,isp,hc,hin,q⟩:=h
  refine ⟨_,(pss_one (ps_for PassesOwn.never rfl (pi_list (pe_call G_letters_in hr rfl T.m_letters_in T.F_letters_in.2 T.b_letters_in .nil pass0 (pa_cons (pv 1) pa_nil))) (pg_name (i:=2) sc_must_have_marks.nd rfl (Or.inl rfl)) (pss_one (ps_expr (pe_call G_must_have_mark hr rfl T.m_must_have_mark T.F_must_have_mark.2 T.b_must_have_mark .nil pass0 (pa_cons (pv 0) (pa_cons (pv 2) pa_nil))))))),?_⟩
  refine ⟨_,rfl,p,sn,rfl,isp,hc,fun f H1 xs g1 hn hl hmem hxl=>?_⟩
  refine ⟨f,rfl,⟨_,SqL.of hl⟩,?_⟩
  refine for_list (xs:=xs.map V.str) (fun i σ H'=>∃ f1:Option V,H' = H1∧σ = [some (.ref l),some (.ref p),f1]) ⟨_,rfl,rfl⟩ ?_ ?_ ?_
  · rintro i σ H' _ ⟨f1,rfl,_⟩
    exact SqL.of hl
  · rintro i x σ H' hx ⟨f1,rfl,rfl⟩
    rw [List.getElem?_map] at hx
    cases ho:xs[i]? with
    | none=>rw [ho] at hx; cases hx
    | some y =>
      rw [ho] at hx
      cases hx
      have hy:y∈os:=(Sn.inO_iff sn).mp hin y ((hmem y).mp (List.mem_of_getElem? ho))
      exact ⟨_,rfl,_,rfl,l,y,os,rfl,g1.seq hO,hy,_,rfl,rfl⟩
  · rintro σ H' ⟨f1,rfl,rfl⟩
    exact q _ g1
theorem ok_table_of_two (T:Txt P w K mg a):FnOk P w K mg base CX0 (k + 1) a.a_table_of_two a.d_table_of_two ["word", "one", "other", "every"] spTwo:=by
  refine T.F_table_of_two.ok sc_table_of_two (fun vs H Q E h=>?_) (fun cdv A outer s H vs Q E hr h=>?_)
  · obtain ⟨o,N,M,n,f,g,rfl,_⟩:=h
    rfl
  obtain ⟨o,N,M,n,f,g,rfl,hN,hM,q⟩:=h
  refine ⟨_,(pss_cons (ps_if (pt_cmpR op_eq (pv 0) pe_str (nomark _)) (pss_one (ps_ret (pe_op op_andN (pv 1) (pv 2)))) pss_nil)
      (pss_cons (ps_if (pt_cmpR op_eq (pv 0) pe_str (nomark _)) (pss_one (ps_ret (pe_op op_orN (pv 1) (pv 2)))) pss_nil)
      (pss_cons (ps_if (pt_cmpR op_eq (pv 0) pe_str (nomark _)) (pss_one (ps_ret (pe_op op_xorN (pv 1) (pv 2)))) pss_nil)
      (pss_one (ps_ret (pe_op op_orN (pe_op op_xorN (pv 3) (pv 1)) (pv 2))))))),?_⟩
  rcases fin4 o with e | e | e | e
  · subst e
    exact ⟨_,rfl,rfl,_,rfl,ite2 (fun _=>⟨_,rfl,_,rfl,N,M,rfl,rfl,q _ (tab_and hN hM)⟩) (fun c=>absurd (decide_eq_true rfl) c)⟩
  · subst e
    refine ⟨_,rfl,rfl,_,rfl,ite2 (fun c=>absurd c (ne_str (show Str.ofString "or" ≠ Str.ofString "and" by decide +kernel))) (fun _=>?_)⟩
    exact ⟨_,rfl,rfl,_,rfl,ite2 (fun _=>⟨_,rfl,_,rfl,N,M,rfl,rfl,q _ (tab_or hN hM)⟩) (fun c=>absurd (decide_eq_true rfl) c)⟩
  · subst e
    refine ⟨_,rfl,rfl,_,rfl,ite2 (fun c=>absurd c (ne_str (show Str.ofString "either" ≠ Str.ofString "and" by decide +kernel))) (fun _=>?_)⟩
    refine ⟨_,rfl,rfl,_,rfl,ite2 (fun c=>absurd c (ne_str (show Str.ofString "either" ≠ Str.ofString "or" by decide +kernel))) (fun _=>?_)⟩
    exact ⟨_,rfl,rfl,_,rfl,ite2 (fun _=>⟨_,rfl,_,rfl,N,M,rfl,rfl,q _ (tab_xor hN hM)⟩) (fun c=>absurd (decide_eq_true rfl) c)⟩
  · subst e
    refine ⟨_,rfl,rfl,_,rfl,ite2 (fun c=>absurd c (ne_str (show Str.ofString "if" ≠ Str.ofString "and" by decide +kernel))) (fun _=>?_)⟩
    refine ⟨_,rfl,rfl,_,rfl,ite2 (fun c=>absurd c (ne_str (show Str.ofString "if" ≠ Str.ofString "or" by decide +kernel))) (fun _=>?_)⟩
    refine ⟨_,rfl,rfl,_,rfl,ite2 (fun c=>absurd c (ne_str (show Str.ofString "if" ≠ Str.ofString "either" by decide +kernel))) (fun _=>?_)⟩
    refine ⟨_,rfl,_,rfl,_,N,rfl,rfl,_,rfl,_,M,rfl,rfl,q _ (tab_congr (tab_or (tab_xor (tab_all n) hN) hM) fun b _=>?_)⟩
    show ((true != f b) || g b) = (!f b || g b)
    cases f b <;> rfl
theorem ok_table_step {d:Nat} (T:Txt P w K mg a) (G_all_rows:FnOk P w K mg base CX0 k a.a_all_rows a.d_all_rows ["marks"] spAllRows) (G_rows_with:FnOk P w K mg base CX0 k a.a_rows_with a.d_rows_with ["place", "marks"] spRowsWith)
    (G_flipped:FnOk P w K mg base CX0 k a.a_flipped a.d_flipped ["table", "place", "marks"] spFlipped) (G_parts_of:FnOk P w K mg base CX0 k a.a_parts_of a.d_parts_of ["sentence"] spPartsOf)
    (G_table_of_two:FnOk P w K mg base CX0 k a.a_table_of_two a.d_table_of_two ["word", "one", "other", "every"] spTwo)
    (G_table_of:FnOk P w K mg base CX0 k a.a_table_of a.d_table_of ["sentence", "order"] (spTable K d)):FnOk P w K mg base CX0 (k + 1) a.a_table_of a.d_table_of ["sentence", "order"] (spTable K (d + 1)):=by
  refine T.F_table_of.ok sc_table_of (fun vs H Q E h=>?_) (fun cdv A outer s H vs Q E hr h=>?_)
  · obtain ⟨p,l,sn,os,rfl,_⟩:=h
    rfl
  obtain ⟨p,l,sn,os,rfl,isp,hO,hin,h8,hd,q⟩:=h
  refine ⟨_,(pss_cons (ps_set (i:=2) sc_table_of.nd rfl (Or.inl rfl) (pe_ix ix_tup (pv 0) pe_int (fun _ _=>rfl)))
      (pss_cons (ps_set (i:=3) sc_table_of.nd rfl (Or.inl rfl) (pe_callB call_len_seq rfl T.n_len bt_len (pa_cons (pv 1) pa_nil)))
      (pss_cons (ps_if (pt_cmpR op_eq (pv 2) pe_str (nomark _)) (pss_one (ps_ret pe_int)) pss_nil)
      (pss_cons (ps_if (pt_cmpR op_eq (pv 2) pe_str (nomark _)) (pss_one (ps_ret (pe_call G_all_rows hr rfl T.m_all_rows T.F_all_rows.2 T.b_all_rows .nil pass0 (pa_cons (pv 3) pa_nil)))) pss_nil)
      (pss_cons (ps_if (pt_cmpR op_eq (pv 2) pe_str (nomark _)) (pss_one (ps_ret (pe_call G_rows_with hr rfl T.m_rows_with T.F_rows_with.2 T.b_rows_with .nil pass0 (pa_cons (pe_bm PySem.F.plainAttrs_list PySem.F.slot_list_index PySem.F.type_list_index mt_index (pv 1) (pa_cons (pe_ix ix_tup (pv 0) pe_int (fun _ _=>rfl)) pa_nil)) (pa_cons (pv 3) pa_nil))))) pss_nil)
      (pss_cons (ps_setLC (tt:=tYes) (i:=4) sc_table_of.nd rfl (Or.inl rfl) (.inl rfl) (osc:=defScope S_table_of) (js:=[1]) rfl (by show LcOk (defScope S_table_of) _ "part" ["order"]; exact ⟨rfl,by decide +kernel,by decide +kernel,rfl,by decide +kernel,by decide +kernel,by decide +kernel⟩) rfl (pi_tup (pe_call G_parts_of hr rfl T.m_parts_of T.F_parts_of.2 T.b_parts_of .nil pass0 (pa_cons (pv 0) pa_nil))) (by show ∀ j∈([1]:List Nat),j < 5; decide) (fun cl C s₂ H₂ fp pins s' σ' H' Q I h=>wpAny_pure ⟨H',I,h⟩) (fun cl C s₂ H₂ fp=>(pe_call G_table_of hr rfl T.m_table_of T.F_table_of.2 T.b_table_of .nil pass0 (pa_cons (pv 0) (pa_cons (pv 1) pa_nil)))) rfl)
      (pss_cons (ps_if (pt_cmpR op_eq (pv 2) pe_str (nomark _)) (pss_one (ps_ret (pe_op op_xorN (pe_call G_all_rows hr rfl T.m_all_rows T.F_all_rows.2 T.b_all_rows .nil pass0 (pa_cons (pv 3) pa_nil)) (pe_ix ix_list (pv 4) pe_int (fun _ _=>rfl))))) pss_nil)
      (pss_cons (ps_if (pt_cmpR op_eq (pv 2) pe_str (nomark _)) (pss_one (ps_ret (pe_op op_orN (pe_ix ix_list (pv 4) pe_int (fun _ _=>rfl)) (pe_call G_flipped hr rfl T.m_flipped T.F_flipped.2 T.b_flipped .nil pass0 (pa_cons (pe_ix ix_list (pv 4) pe_int (fun _ _=>rfl)) (pa_cons (pe_bm PySem.F.plainAttrs_list PySem.F.slot_list_index PySem.F.type_list_index mt_index (pv 1) (pa_cons (pe_ix ix_tup (pv 0) pe_int (fun _ _=>rfl)) pa_nil)) (pa_cons (pv 3) pa_nil))))))) pss_nil)
      (pss_cons (ps_if (pt_cmpR op_eq (pv 2) pe_str (nomark _)) (pss_one (ps_ret (pe_op op_andN (pe_ix ix_list (pv 4) pe_int (fun _ _=>rfl)) (pe_call G_flipped hr rfl T.m_flipped T.F_flipped.2 T.b_flipped .nil pass0 (pa_cons (pe_ix ix_list (pv 4) pe_int (fun _ _=>rfl)) (pa_cons (pe_bm PySem.F.plainAttrs_list PySem.F.slot_list_index PySem.F.type_list_index mt_index (pv 1) (pa_cons (pe_ix ix_tup (pv 0) pe_int (fun _ _=>rfl)) pa_nil)) (pa_cons (pv 3) pa_nil))))))) pss_nil)
      (pss_one (ps_ret (pe_call G_table_of_two hr rfl T.m_table_of_two T.F_table_of_two.2 T.b_table_of_two .nil pass0 (pa_cons (pv 2) (pa_cons (pe_ix ix_list (pv 4) pe_int (fun _ _=>rfl)) (pa_cons (pe_ix ix_list (pv 4) pe_int (fun _ _=>rfl)) (pa_cons (pe_call G_all_rows hr rfl T.m_all_rows T.F_all_rows.2 T.b_all_rows .nil pass0 (pa_cons (pv 3) pa_nil)) pa_nil)))))))))))))))),?_⟩
  have hlen:(os.map V.str).length = os.length:=List.length_map _
  obtain ⟨zs,c1,c2,c3,c4,c5⟩:=sen_cut isp
  have lz:=pd_len c2
  have lp2:=Sn.parts_le sn
  refine ⟨_,rfl,p,_,0,_,rfl,rfl,SqT.of c1,at0,?_⟩
  refine ⟨_,rfl,l,_,rfl,.inl hO,?_⟩
  rw [hlen]
  have comp:∀ {σ:St} {Q2:Addr→Hp→List V→Prop},σ.getD 1 none = some (.ref l)→(∀ (b:Addr) (ys:List V) (H':Hp),Same H H'→H' b = none→ys.length = sn.parts.length→(∀ (j:Nat) v,ys[j]? = some v→∃ t N,sn.parts[j]? = some t∧v = .int (N:Nat)∧TabOf os t N)→Q2 b H' ys) →
      ∀ b0,H b0 = none→∃ W:Nat→Nat→List V→Hp→Prop,(∃ m,W 0 m [] (upd H b0 (.tup (zs.map V.ref))))∧∀ i m ys H,W i m ys H →
        ((Itt K b0).stop i H∧∀ p,H p = none→Q2 p H ys) ∨
        ((Itt K b0).go i H∧ys.length < sizeLine∧∀ x H',(Itt K b0).yld i H x H'→tYes (lcS σ [1] (some x)) H' fun b H2 =>
          if b = true then tCall (spTable K d) [] E0 (tCons (tVar 0) (tCons (tVar 1) tNil)) (lcS σ [1] (some x)) H2 fun v H3=>∃ m',m' < m∧W (i + 1) m' (ys ++ [v]) H3 else ∃ m',m' < m∧W (i + 1) m' ys H2):=by
    intro σ Q2 hσ hQ2 b0 hb0
    have g0:=Same.new hb0 (.tup (zs.map V.ref))
    refine lc_idxT (fun j v=>∃ t N,sn.parts[j]? = some t∧v = .int ((N:Nat):Int)∧TabOf os t N) (SqT.of upd_same) (by rw [List.length_map]; exact Nat.le_of_lt (small1000 (by omega))) ?_ (mono2 (mono_table d)) ?_
    · intro i x H' hx g
      rw [List.getElem?_map] at hx
      cases ho:zs[i]? with
      | none=>rw [ho] at hx; cases hx
      | some y =>
        rw [ho] at hx
        cases hx
        obtain ⟨t,ht,it⟩:=pd_ta c2 ho
        have htm:=List.mem_of_getElem? ht
        have dp:=Sn.depth_parts sn t htm
        refine ⟨_,rfl,.ref l,?_,y,l,t,os,rfl,it.mono (Tups.of (g0.trans g)),(g0.trans g).seq hO,Sn.inO_parts sn hin t htm,h8,by omega,fun N H3 g3 hN=>⟨⟨t,N,ht,rfl,hN⟩,g.trans g3⟩⟩
        show some (σ.getD 1 none) = _
        rw [hσ]
    · intro ys H' pp hl hy g hpp
      exact hQ2 pp ys H' (g0.trans g) hpp (by rw [hl,List.length_map]; exact lz.symm) hy
  cases sn with
  | c0 y =>
    cases y with
    | false=>exact ⟨_,rfl,rfl,_,rfl,ite2 (fun _=>q 0 _ (Same.refl _) (tab_zero _)) (fun c=>absurd (decide_eq_true rfl) c)⟩
    | true =>
      refine ⟨_,rfl,rfl,_,rfl,ite2 (fun c=>absurd c (ne_str (show Str.ofString "yes" ≠ Str.ofString "no" by decide +kernel))) (fun _=>?_)⟩
      exact ⟨_,rfl,rfl,_,rfl,ite2 (fun _=>⟨_,rfl,os.length,rfl,h8,q _ _ (Same.refl _) (tab_all _)⟩) (fun c=>absurd (decide_eq_true rfl) c)⟩
  | mk x =>
    refine ⟨_,rfl,rfl,_,rfl,ite2 (fun c=>absurd c (ne_str (show Str.ofString "mark" ≠ Str.ofString "no" by decide +kernel))) (fun _=>?_)⟩
    refine ⟨_,rfl,rfl,_,rfl,ite2 (fun c=>absurd c (ne_str (show Str.ofString "mark" ≠ Str.ofString "yes" by decide +kernel))) (fun _=>?_)⟩
    obtain ⟨i1,i2,i3⟩:=ix_spec (show x∈os from hin)
    have isp':H p = some (.tup [.str "mark", .str x]):=isp
    exact ⟨_,rfl,rfl,_,rfl,ite2 (fun _=>⟨_,rfl,.inl ⟨rfl,_,hO⟩,_,rfl,p,_,1,_,rfl,rfl,SqT.of isp',at1,l,_,.str x,_,rfl,rfl,hO,rfl,flat_strs _,i1,_,rfl,ix os x,os.length,rfl,i2,h8,fun R hR=>q R _ (Same.refl _) hR⟩) (fun c=>absurd (decide_eq_true rfl) c)⟩
  | nt s1 =>
    refine ⟨_,rfl,rfl,_,rfl,ite2 (fun c=>absurd c (ne_str (show Str.ofString "not" ≠ Str.ofString "no" by decide +kernel))) (fun _=>?_)⟩
    refine ⟨_,rfl,rfl,_,rfl,ite2 (fun c=>absurd c (ne_str (show Str.ofString "not" ≠ Str.ofString "yes" by decide +kernel))) (fun _=>?_)⟩
    refine ⟨_,rfl,rfl,_,rfl,ite2 (fun c=>absurd c (ne_str (show Str.ofString "not" ≠ Str.ofString "mark" by decide +kernel))) (fun _=>?_)⟩
    refine ⟨_,rfl,p,_,_,_,_,rfl,c1,shape_in (.nt s1),c3,fun b0 hb0=>?_⟩
    rw [c5]
    refine ⟨b0,rfl,⟨_,SqT.of upd_same⟩,comp rfl (fun b ys H0 g0 hb0' hyl hy=>?_) b0 hb0⟩
    have hb:=upd_same (H:=H0) (a:=b) (o:=.lst ys)
    have g:=g0.trans (Same.new hb0' (.lst ys))
    obtain ⟨v,rfl⟩:=len1 hyl
    obtain ⟨t,N,ht,rfl,hN⟩:=hy 0 v rfl
    cases ht
    refine ⟨_,rfl,rfl,_,rfl,ite2 (fun _=>⟨_,rfl,os.length,rfl,h8,_,rfl,b,_,0,_,rfl,rfl,SqL.of hb,at0,_,N,rfl,rfl,q _ _ g (tab_congr (tab_xor (tab_all _) hN) fun z _=>?_)⟩) (fun c=>absurd (decide_eq_true rfl) c)⟩
    show (true != s1.val (envB os z)) = !s1.val (envB os z)
    cases s1.val (envB os z) <;> rfl
  | b2 o s1 s2 =>
    have w1:w2 o≠Str.ofString "no" := w2_no o
    have w2':w2 o≠Str.ofString "yes" := w2_yes o
    have w3:w2 o≠Str.ofString "mark" := w2_mark o
    have w4:w2 o≠Str.ofString "not" := w2_not o
    have w5:w2 o≠Str.ofString "some" := w2_some o
    have w6:w2 o≠Str.ofString "each" := w2_each o
    refine ⟨_,rfl,rfl,_,rfl,ite2 (fun c=>absurd c (ne_str w1)) (fun _=>?_)⟩
    refine ⟨_,rfl,rfl,_,rfl,ite2 (fun c=>absurd c (ne_str w2')) (fun _=>?_)⟩
    refine ⟨_,rfl,rfl,_,rfl,ite2 (fun c=>absurd c (ne_str w3)) (fun _=>?_)⟩
    refine ⟨_,rfl,p,_,_,_,_,rfl,c1,shape_in (.b2 o s1 s2),c3,fun b0 hb0=>?_⟩
    rw [c5]
    refine ⟨b0,rfl,⟨_,SqT.of upd_same⟩,comp rfl (fun b ys H0 g0 hb0' hyl hy=>?_) b0 hb0⟩
    have hb:=upd_same (H:=H0) (a:=b) (o:=.lst ys)
    have g:=g0.trans (Same.new hb0' (.lst ys))
    obtain ⟨v,u,rfl⟩:=len2 hyl
    obtain ⟨t,N,ht,rfl,hN⟩:=hy 0 v rfl
    obtain ⟨t',M,ht',rfl,hM⟩:=hy 1 u rfl
    cases ht
    cases ht'
    refine ⟨_,rfl,rfl,_,rfl,ite2 (fun c=>absurd c (ne_str w4)) (fun _=>?_)⟩
    refine ⟨_,rfl,rfl,_,rfl,ite2 (fun c=>absurd c (ne_str w5)) (fun _=>?_)⟩
    refine ⟨_,rfl,rfl,_,rfl,ite2 (fun c=>absurd c (ne_str w6)) (fun _=>?_)⟩
    exact ⟨_,rfl,_,rfl,b,_,0,_,rfl,rfl,SqL.of hb,at0,_,rfl,b,_,1,_,rfl,rfl,SqL.of hb,at1,_,rfl,os.length,rfl,h8,o,N,M,os.length,_,_,rfl,hN,hM,fun R hR=>q R _ g hR⟩
  | q1 o x s1 =>
    obtain ⟨hx,hs1⟩:=hin
    obtain ⟨i1,i2,i3⟩:=ix_spec hx
    cases o with
    | true =>
      refine ⟨_,rfl,rfl,_,rfl,ite2 (fun c=>absurd c (ne_str (show Str.ofString "some" ≠ Str.ofString "no" by decide +kernel))) (fun _=>?_)⟩
      refine ⟨_,rfl,rfl,_,rfl,ite2 (fun c=>absurd c (ne_str (show Str.ofString "some" ≠ Str.ofString "yes" by decide +kernel))) (fun _=>?_)⟩
      refine ⟨_,rfl,rfl,_,rfl,ite2 (fun c=>absurd c (ne_str (show Str.ofString "some" ≠ Str.ofString "mark" by decide +kernel))) (fun _=>?_)⟩
      refine ⟨_,rfl,p,_,_,_,_,rfl,c1,shape_in (.q1 true x s1),c3,fun b0 hb0=>?_⟩
      rw [c5]
      refine ⟨b0,rfl,⟨_,SqT.of upd_same⟩,comp rfl (fun b ys H0 g0 hb0' hyl hy=>?_) b0 hb0⟩
      have hb:=upd_same (H:=H0) (a:=b) (o:=.lst ys)
      have g:=g0.trans (Same.new hb0' (.lst ys))
      obtain ⟨v,rfl⟩:=len1 hyl
      obtain ⟨t,N,ht,rfl,hN⟩:=hy 0 v rfl
      cases ht
      have c1':=g _ _ c1
      refine ⟨_,rfl,rfl,_,rfl,ite2 (fun c=>absurd c (ne_str (show Str.ofString "some" ≠ Str.ofString "not" by decide +kernel))) (fun _=>?_)⟩
      refine ⟨_,rfl,rfl,_,rfl,ite2 (fun _=>?_) (fun c=>absurd (decide_eq_true rfl) c)⟩
      refine ⟨_,rfl,b,_,0,_,rfl,rfl,SqL.of hb,at0,_,rfl,b,_,0,_,rfl,rfl,SqL.of hb,at0,_,rfl,.inl ⟨rfl,_,g.seq hO⟩,_,rfl,p,_,1,_,rfl,rfl,SqT.of c1',at1,l,_,.str x,_,rfl,rfl,g.seq hO,rfl,flat_strs _,i1,_,rfl,N,ix os x,os.length,_,rfl,i2,h8,hN,fun R hR=>⟨N,R,rfl,rfl,q _ _ g (tab_congr (tab_or hN hR) fun z _=>?_)⟩⟩
      exact (val_some hs1 hx z).symm
    | false =>
      refine ⟨_,rfl,rfl,_,rfl,ite2 (fun c=>absurd c (ne_str (show Str.ofString "each" ≠ Str.ofString "no" by decide +kernel))) (fun _=>?_)⟩
      refine ⟨_,rfl,rfl,_,rfl,ite2 (fun c=>absurd c (ne_str (show Str.ofString "each" ≠ Str.ofString "yes" by decide +kernel))) (fun _=>?_)⟩
      refine ⟨_,rfl,rfl,_,rfl,ite2 (fun c=>absurd c (ne_str (show Str.ofString "each" ≠ Str.ofString "mark" by decide +kernel))) (fun _=>?_)⟩
      refine ⟨_,rfl,p,_,_,_,_,rfl,c1,shape_in (.q1 false x s1),c3,fun b0 hb0=>?_⟩
      rw [c5]
      refine ⟨b0,rfl,⟨_,SqT.of upd_same⟩,comp rfl (fun b ys H0 g0 hb0' hyl hy=>?_) b0 hb0⟩
      have hb:=upd_same (H:=H0) (a:=b) (o:=.lst ys)
      have g:=g0.trans (Same.new hb0' (.lst ys))
      obtain ⟨v,rfl⟩:=len1 hyl
      obtain ⟨t,N,ht,rfl,hN⟩:=hy 0 v rfl
      cases ht
      have c1':=g _ _ c1
      refine ⟨_,rfl,rfl,_,rfl,ite2 (fun c=>absurd c (ne_str (show Str.ofString "each" ≠ Str.ofString "not" by decide +kernel))) (fun _=>?_)⟩
      refine ⟨_,rfl,rfl,_,rfl,ite2 (fun c=>absurd c (ne_str (show Str.ofString "each" ≠ Str.ofString "some" by decide +kernel))) (fun _=>?_)⟩
      refine ⟨_,rfl,rfl,_,rfl,ite2 (fun _=>?_) (fun c=>absurd (decide_eq_true rfl) c)⟩
      refine ⟨_,rfl,b,_,0,_,rfl,rfl,SqL.of hb,at0,_,rfl,b,_,0,_,rfl,rfl,SqL.of hb,at0,_,rfl,.inl ⟨rfl,_,g.seq hO⟩,_,rfl,p,_,1,_,rfl,rfl,SqT.of c1',at1,l,_,.str x,_,rfl,rfl,g.seq hO,rfl,flat_strs _,i1,_,rfl,N,ix os x,os.length,_,rfl,i2,h8,hN,fun R hR=>⟨N,R,rfl,rfl,q _ _ g (tab_congr (tab_and hN hR) fun z _=>?_)⟩⟩
      exact (val_each hs1 hx z).symm
theorem ok_table_of (T:Txt P w K mg a) (G_all_rows:FnOk P w K mg base CX0 k a.a_all_rows a.d_all_rows ["marks"] spAllRows) (G_rows_with:FnOk P w K mg base CX0 k a.a_rows_with a.d_rows_with ["place", "marks"] spRowsWith)
    (G_flipped:FnOk P w K mg base CX0 k a.a_flipped a.d_flipped ["table", "place", "marks"] spFlipped) (G_parts_of:FnOk P w K mg base CX0 k a.a_parts_of a.d_parts_of ["sentence"] spPartsOf)
    (G_table_of_two:FnOk P w K mg base CX0 k a.a_table_of_two a.d_table_of_two ["word", "one", "other", "every"] spTwo):∀ d:Nat,FnOk P w K mg base CX0 (k + d) a.a_table_of a.d_table_of ["sentence", "order"] (spTable K d)
  | 0=>by
    refine ⟨fun vs H Q E h=>?_,fun A outer s H args us vs Q E _ _ _ _ h=>?_⟩
    · obtain ⟨p,l,sn,os,rfl,_⟩:=h
      rfl
    · obtain ⟨p,l,sn,os,_,_,_,_,_,hd,_⟩:=h
      have:=Sn.depth_pos sn
      omega
  | d + 1=>ok_table_step T (G_all_rows.mono (Nat.le_add_right _ _)) (G_rows_with.mono (Nat.le_add_right _ _)) (G_flipped.mono (Nat.le_add_right _ _)) (G_parts_of.mono (Nat.le_add_right _ _)) (G_table_of_two.mono (Nat.le_add_right _ _)) (ok_table_of T G_all_rows G_rows_with G_flipped G_parts_of G_table_of_two d)
end
end K51
namespace K51
open PySem L2 Sen
section
variable {P:Program} {w:World} {K:PySem.W.Frag} {mg:Str→Option Value} {base:Heap} {a:Ad} {k:Nat}
theorem ok_held_at (T:Txt P w K mg a) (G_rows_with:FnOk P w K mg base CX0 k a.a_rows_with a.d_rows_with ["place", "marks"] spRowsWith) (G_flipped:FnOk P w K mg base CX0 k a.a_flipped a.d_flipped ["table", "place", "marks"] spFlipped):FnOk P w K mg base CX0 (k + 1) a.a_held_at a.d_held_at ["table", "place", "value", "marks"] spHeldAt:=by
  refine T.F_held_at.ok sc_held_at (fun vs H Q E h=>?_) (fun cdv A outer s H vs Q E hr h=>?_)
  · obtain ⟨N,p,n,v,f,rfl,_⟩:=h
    rfl
  obtain ⟨N,p,n,v,f,rfl,hp,hn,tb,q⟩:=h
  refine ⟨_,(pss_cons (ps_set (i:=4) sc_held_at.nd rfl (Or.inl rfl) (pe_op op_andN (pv 0) (pe_call G_rows_with hr rfl T.m_rows_with T.F_rows_with.2 T.b_rows_with .nil pass0 (pa_cons (pv 1) (pa_cons (pv 3) pa_nil)))))
      (pss_cons (ps_set (i:=5) sc_held_at.nd rfl (Or.inl rfl) (pe_ifExp (pt_cmpR op_eq (pv 2) pe_int (nomark _)) (pv 4) (pe_op op_xorN (pv 0) (pv 4))))
      (pss_one (ps_ret (pe_op op_orN (pv 5) (pe_call G_flipped hr rfl T.m_flipped T.F_flipped.2 T.b_flipped .nil pass0 (pa_cons (pv 5) (pa_cons (pv 1) (pa_cons (pv 3) pa_nil))))))))),?_⟩
  refine ⟨_,rfl,_,rfl,_,rfl,p,n,rfl,hp,hn,fun R tr=>?_⟩
  refine ⟨N,R,rfl,rfl,?_⟩
  have o:=Sen.tab_and tb tr
  refine ⟨_,rfl,rfl,_,rfl,?_⟩
  cases v with
  | true =>
    refine ite2 (fun _=>?_) (fun c=>absurd (decide_eq_true rfl) c)
    refine ⟨_,rfl,?_⟩
    refine ⟨_,rfl,_,rfl,_,rfl,_,rfl,N &&& R,p,n,_,rfl,hp,hn,o,fun R2 t2=>?_⟩
    refine ⟨_,_,rfl,rfl,q _ (tab_congr (Sen.tab_or o t2) fun b hb=>?_)⟩
    show ((f b && b.testBit p) || (f (putBit b p (!b.testBit p)) && (putBit b p (!b.testBit p)).testBit p)) = f (putBit b p true)
    rw [putBit_bit,if_pos rfl]
    cases e:b.testBit p
    · simp
    · rw [← e,Bdd.putBit_self,e]; simp
  | false =>
    refine ite2 (fun c=>absurd (of_decide_eq_true c) (fun z=>by injection z with z; revert z; decide)) (fun _=>?_)
    have z:=Sen.tab_xor tb o
    refine ⟨_,rfl,_,rfl,N,N &&& R,rfl,rfl,?_⟩
    refine ⟨_,rfl,_,rfl,_,rfl,_,rfl,N ^^^ (N &&& R),p,n,_,rfl,hp,hn,z,fun R2 t2=>?_⟩
    refine ⟨_,_,rfl,rfl,q _ (tab_congr (Sen.tab_or z t2) fun b hb=>?_)⟩
    show ((f b != (f b && b.testBit p)) || (f (putBit b p (!b.testBit p)) != (f (putBit b p (!b.testBit p)) && (putBit b p (!b.testBit p)).testBit p))) = f (putBit b p false)
    rw [putBit_bit,if_pos rfl]
    cases e:b.testBit p
    · rw [← e,Bdd.putBit_self,e]; simp
    · simp
theorem ok_hangs_on (T:Txt P w K mg a) (G_flipped:FnOk P w K mg base CX0 k a.a_flipped a.d_flipped ["table", "place", "marks"] spFlipped):FnOk P w K mg base CX0 (k + 1) a.a_hangs_on a.d_hangs_on ["table", "place", "marks"] spHangs:=by
  refine T.F_hangs_on.ok sc_hangs_on (fun vs H Q E h=>?_) (fun cdv A outer s H vs Q E hr h=>?_)
  · obtain ⟨N,p,n,f,rfl,_⟩:=h
    rfl
  obtain ⟨N,p,n,f,rfl,hp,hn,tb,q⟩:=h
  refine ⟨_,(pss_one (ps_ret (pe_cmpR op_ne (pe_call G_flipped hr rfl T.m_flipped T.F_flipped.2 T.b_flipped .nil pass0 (pa_cons (pv 0) (pa_cons (pv 1) (pa_cons (pv 2) pa_nil)))) (pv 0) (nomark _)))),?_⟩
  refine ⟨_,rfl,_,rfl,_,rfl,N,p,n,f,rfl,hp,hn,tb,fun R tr=>?_⟩
  refine ⟨_,rfl,rfl,?_⟩
  refine q _ (fun e=>?_) (fun e=>?_)
  · have e1:R = N:=by
      have z:V.int (R:Nat) = V.int (N:Nat):=of_decide_eq_true (by simpa using e)
      injection z with z
      omega
    subst e1
    refine Bdd.Free.of_flip fun b hb=>?_
    rw [← Bdd.tab_val tr hb,Bdd.tab_val tb hb]
  · refine Classical.byContradiction fun no=>?_
    have e1:R = N:=Bdd.tab_inj tr tb fun b hb=>by
      refine Classical.byContradiction fun ne=>no ⟨b,hb,fun z=>ne ?_⟩
      show f (putBit b p (!b.testBit p)) = f b
      cases e:b.testBit p
      · rw [Bool.not_false,← z,← e,Bdd.putBit_self]
      · rw [Bool.not_true,z,← e,Bdd.putBit_self]
    subst e1
    rw [decide_eq_true rfl] at e
    cases e
theorem ok_first_place (T:Txt P w K mg a) (G_hangs_on:FnOk P w K mg base CX0 k a.a_hangs_on a.d_hangs_on ["table", "place", "marks"] spHangs):FnOk P w K mg base CX0 (k + 1) a.a_first_place a.d_first_place ["table", "marks"] spFirst:=by
  refine T.F_first_place.ok sc_first_place (fun vs H Q E h=>?_) (fun cdv A outer s H vs Q E hr h=>?_)
  · obtain ⟨N,n,f,rfl,_⟩:=h
    rfl
  obtain ⟨N,n,f,rfl,hn,tb,q⟩:=h
  refine ⟨_,(pss_cons (ps_set (i:=2) sc_first_place.nd rfl (Or.inl rfl) pe_int)
      (pss_cons (ps_while PassesOwn.never (PW.pt (pw_and (pt_cmpR op_lt (pv 2) (pv 1) (nomark _)) (pw_and1 (pt_not (pt_truth (pe_call G_hangs_on hr rfl T.m_hangs_on T.F_hangs_on.2 T.b_hangs_on .nil pass0 (pa_cons (pv 0) (pa_cons (pv 2) (pa_cons (pv 1) pa_nil)))) (fun _=>rfl)))))) (pss_one (ps_aug (i:=2) sc_first_place.nd rfl (Or.inl rfl) pe_int iop_add)))
      (pss_one (ps_ret (pv 2))))),?_⟩
  refine ⟨fun m σ H'=>∃ p:Nat,m = n - p∧H' = H∧p≤n∧(∀ i,i < p→Bdd.Free n f i)∧σ = [some (.int N),some (.int n),some (.int p)],⟨_,0,rfl,rfl,Nat.zero_le _,fun i hi=>absurd hi (Nat.not_lt_zero _),rfl⟩,?_⟩
  rintro m σ H' ⟨p,rfl,rfl,hp,fr,rfl⟩
  refine ⟨_,rfl,_,rfl,_,_,rfl,rfl,_,rfl,ite2 (fun c=>?_) (fun c=>?_)⟩
  · have hpn:p < n:=by have:=of_decide_eq_true c; omega
    refine ⟨_,rfl,_,rfl,_,rfl,N,p,n,f,rfl,hpn,hn,tb,fun b hf ht=>?_⟩
    cases b with
    | false =>
      refine ⟨_,rfl,ite2 (fun c2=>?_) (fun c2=>absurd rfl c2)⟩
      refine ⟨_,fun σ' H2 h=>h,?_⟩
      refine ⟨_,rfl,_,_,rfl,rfl,n - (p + 1),by omega,p + 1,rfl,rfl,hpn,fun i hi=>?_,rfl⟩
      by_cases e:i = p
      · subst e
        exact hf rfl
      · exact fr i (by omega)
    | true =>
      refine ⟨_,rfl,ite2 (fun c2=>absurd c2 Bool.false_ne_true) (fun c2=>?_)⟩
      exact ⟨_,rfl,q p hp fr fun _=>ht rfl⟩
  · refine ⟨_,rfl,q p hp fr fun h=>absurd (decide_eq_true (by omega)) c⟩
theorem ok_Book_room_stepH {d:Nat} (T:Txt P w K mg a) (G_first_place:FnOk P w K mg base CX0 k a.a_first_place a.d_first_place ["table", "marks"] spFirst) (G_held_at:FnOk P w K mg base CX0 k a.a_held_at a.d_held_at ["table", "place", "value", "marks"] spHeldAt)
    (G_Book_room_with:FnOk P w K mg base CX0 k a.a_Book_room_with a.d_Book_room_with ["self", "table"] (spRoomWithH a.a_Book d)):FnOk P w K mg base CX0 (k + 1) a.a_Book_room_with a.d_Book_room_with ["self", "table"] (spRoomWithH a.a_Book (d + 1)):=by
  refine T.F_Book_room_with.ok sc_Book_room_with (fun vs H Q E h=>?_) (fun cdv A outer s H vs Q E hr h=>?_)
  · obtain ⟨b,os,rs,F,t,u,f,rfl,_⟩:=h
    rfl
  obtain ⟨b,os,rs,F,t,u,f,rfl,hB,hlen,hu,hd,tb,fr,q⟩:=h
  refine ⟨_,(pss_cons (ps_if (pt_cmp (pc_dnotin (hu_of hr) (pv 1) (pe_fld (pv 0) rfl))) (pss_cons (ps_set (i:=2) sc_Book_room_with.nd rfl (Or.inl rfl) (pe_callB call_len_seq rfl T.n_len bt_len (pa_cons (pe_fld (pv 0) rfl) pa_nil)))
      (pss_cons (ps_set (i:=3) sc_Book_room_with.nd rfl (Or.inl rfl) (pe_call G_first_place hr rfl T.m_first_place T.F_first_place.2 T.b_first_place .nil pass0 (pa_cons (pv 1) (pa_cons (pv 2) pa_nil))))
      (pss_cons (ps_set (i:=4) sc_Book_room_with.nd rfl (Or.inl rfl) (pe_meth (pv 0) T.c_Book T.e_Book_room_with G_Book_room_with hr T.b_Book_room_with .nil pass0 (pa_cons (pe_call G_held_at hr rfl T.m_held_at T.F_held_at.2 T.b_held_at .nil pass0 (pa_cons (pv 1) (pa_cons (pv 3) (pa_cons pe_int (pa_cons (pv 2) pa_nil))))) pa_nil)))
      (pss_cons (ps_set (i:=5) sc_Book_room_with.nd rfl (Or.inl rfl) (pe_meth (pv 0) T.c_Book T.e_Book_room_with G_Book_room_with hr T.b_Book_room_with .nil pass0 (pa_cons (pe_call G_held_at hr rfl T.m_held_at T.F_held_at.2 T.b_held_at .nil pass0 (pa_cons (pv 1) (pa_cons (pv 3) (pa_cons pe_int (pa_cons (pv 2) pa_nil))))) pa_nil)))
      (pss_cons (ps_dput (hu_of hr) (pe_fld (pv 0) rfl) (pv 1) (pe_callB call_len_seq rfl T.n_len bt_len (pa_cons (pe_fld (pv 0) rfl) pa_nil)) rfl)
      (pss_cons (ps_expr (pe_bm PySem.F.plainAttrs_list PySem.F.slot_list_append PySem.F.type_list_append mt_append (pe_fld (pv 0) rfl) (pa_cons (pe_tup (pa_cons (pv 3) (pa_cons (pv 4) (pa_cons (pv 5) pa_nil)))) pa_nil)))
      (pss_one (ps_expr (pe_bm PySem.F.plainAttrs_list PySem.F.slot_list_append PySem.F.type_list_append mt_append (pe_fld (pv 0) rfl) (pa_cons (pv 1) pa_nil)))))))))) pss_nil)
      (pss_one (ps_ret (pe_dget (hu_of hr) (pe_fld (pv 0) rfl) (pv 1) (fun _ _=>rfl))))),?_⟩
  have hB0:=hB
  obtain ⟨dx,ml,rl,tl,nd,rv,ts,kvs,h⟩:=hB
  have n8:os.length≤8:=h.ord.le
  have hml:(os.map V.str).length = os.length:=List.length_map _
  have pw:2 ^ (d + 1) = 2 ^ d + 2 ^ d:=by rw [Nat.pow_succ]; omega
  have pd:1≤2 ^ d:=Nat.one_le_two_pow
  have pn:2 ^ os.length≤256:=Sen.two8 n8
  refine ⟨_,rfl,_,rfl,b,a.a_Book,dx,_,_,rfl,h.hb,T.c_Book,T.na_Book_numbers,rfl,nd,_,rfl,DGet.k (k:=.inl (t:Int)) h.hd,?_⟩
  by_cases hm:t∈ts
  · obtain ⟨j,hj,ej⟩:=List.getElem_of_mem hm
    have ej':ts[j]? = some t:=by rw [List.getElem?_eq_getElem hj,ej]
    have ev:=h.nums.get j t ej'
    have z:=DGet.k (k:=.inl (t:Int)) h.hd
    rw [ev] at z
    rw [ev]
    refine ⟨_,rfl,iteF ?_⟩
    refine ⟨_,rfl,b,a.a_Book,dx,_,_,rfl,h.hb,T.c_Book,T.na_Book_numbers,rfl,_,rfl,nd,_,rfl,z,?_⟩
    refine q j rs H (fun x o e _=>e) (fun _ _ e=>e) hB0 (.refl _) (by rw [← h.tabs.len]; exact hj) (h.tabs.find h.bk ej' tb) (by omega) (fun j h1 h2=>by omega) (Nat.le_add_right _ _)
  · have ev:=h.nums.non t hm
    rw [ev]
    refine ⟨_,rfl,iteT ?_⟩
    refine ⟨_,rfl,b,a.a_Book,dx,_,_,rfl,h.hb,T.c_Book,T.na_Book_marks,rfl,ml,_,rfl,.inl (SqL.of h.hm),?_⟩
    rw [hml]
    refine ⟨_,rfl,_,rfl,t,os.length,f,rfl,n8,tb,fun p hp0 frp dep=>?_⟩
    have hp:p < os.length:=by
      refine Nat.lt_of_le_of_ne hp0 fun e=>hm ?_
      subst e
      have cs:=Bdd.const_of_free frp
      have two:=Bdd.len2 h.bk
      cases hf:f 0 with
      | false=>exact List.mem_of_getElem? (h.tabs.same (j:=0) (by omega) tb fun r=>by rw [cs _ (Bdd.bits_lt _ _),hf]; rfl)
      | true=>exact List.mem_of_getElem? (h.tabs.same (j:=1) (by omega) tb fun r=>by rw [cs _ (Bdd.bits_lt _ _),hf]; exact Bdd.yes_yes h.bk r)
    have hup:u≤p:=by
      refine Nat.le_of_not_lt fun hlt=>?_
      obtain ⟨c,hc,hne⟩:=dep hp
      exact hne (by rw [fr p hlt c hc,fr p hlt c hc])
    have fre:∀ (v:Bool) i,i < p + 1→Bdd.Free os.length (fun c=>f (putBit c p v)) i:=fun v i hi c hc v'=>by
      show f (putBit (putBit c i v') p v) = f (putBit c p v)
      by_cases e:i = p
      · subst e
        congr 1
        refine Bdd.eq_bits (putBit_lt (putBit_lt hc hp) hp) (putBit_lt hc hp) fun j _=>?_
        rw [putBit_bit,putBit_bit,putBit_bit]
        by_cases e:j = i
        · rw [if_pos e,if_pos e]
        · rw [if_neg e,if_neg e,if_neg e]
      · rw [← frp i (by omega) _ (putBit_lt (v:=v) hc hp) v']
        congr 1
        refine Bdd.eq_bits (putBit_lt (putBit_lt hc (by omega)) hp) (putBit_lt (putBit_lt hc hp) (by omega)) fun j _=>?_
        rw [putBit_bit,putBit_bit,putBit_bit,putBit_bit]
        by_cases e1:j = p
        · rw [if_pos e1,if_pos e1,if_neg (by omega)]
        · rw [if_neg e1,if_neg e1]
    refine ⟨_,rfl,b,dx,_,rfl,h.hb,rfl,_,rfl,_,rfl,_,rfl,t,p,os.length,false,f,rfl,hp,n8,tb,fun R0 tr0=>?_⟩
    refine ⟨b,os,rs,F,R0,p + 1,_,rfl,hB0,by omega,hp,by omega,tr0,fre false,fun k0 rs1 H1 aw1 tu1 hB1 gr1 lt1 y1 ln1 lv1 hh1=>?_⟩
    have hB1':=hB1
    obtain ⟨dx1,ml1,rl1,tl1,nd1,rv1,ts1,kvs1,h1⟩:=hB1
    refine ⟨_,rfl,b,dx1,_,rfl,h1.hb,rfl,_,rfl,_,rfl,_,rfl,t,p,os.length,true,f,rfl,hp,n8,tb,fun R1 tr1=>?_⟩
    refine ⟨b,os,rs1,F,R1,p + 1,_,rfl,hB1',by omega,hp,by omega,tr1,fre true,fun k1 rs2 H2 aw2 tu2 hB2 gr2 lt2 y2 ln2 lv2 hh2=>?_⟩
    obtain ⟨dx2,ml2,rl2,tl2,nd2,rv2,ts2,kvs2,h2⟩:=hB2
    have lt1':k0 < rs2.length:=Nat.lt_of_lt_of_le lt1 gr2.len
    have y1':∀ r,Bdd.yes rs2 k0 r = f (putBit (Bdd.bits r os.length) p false):=fun r=>by rw [gr2.yes h1.bk lt1]; exact y1 r
    have g02:=gr1.trans gr2
    have lrs:=g02.len
    have lvs:∀ j,rs.length≤j→j < rs2.length→p < Bdd.lev os.length rs2 j:=fun j a1 a2=>by
      by_cases hj:j < rs1.length
      · rw [gr2.lev hj]; exact lv1 j a1 hj
      · exact lv2 j (by omega) a2
    have old:∀ j,j < rs.length→¬ ∀ r,Bdd.yes rs2 j r = f (Bdd.bits r os.length):=fun j hj hy=>hm (List.mem_of_getElem? (h.tabs.same hj tb fun r=>by rw [← g02.yes h.bk hj]; exact hy r))
    obtain ⟨B',yn⟩:=Bdd.room_new h2.bk hp lt1' lt2 y1' y2 frp (dep hp) old lvs
    have hn2:t ∉ ts2:=fun hm2=>by
      obtain ⟨j,hj,ej⟩:=List.getElem_of_mem hm2
      have ej':ts2[j]? = some t:=by rw [List.getElem?_eq_getElem hj,ej]
      have hjr:j < rs2.length:=by rw [← h2.tabs.len]; exact hj
      have hy:=h2.tabs.find h2.bk ej' tb
      by_cases hjo:j < rs.length
      · exact old j hjo hy
      · obtain ⟨c,hc,hne⟩:=dep hp
        have lv:=lvs j (by omega) hjr
        refine hne ?_
        have a1:=hy (Bdd.put (Bdd.rowN c) p false)
        have a2:=hy (Bdd.put (Bdd.rowN c) p true)
        rw [Bdd.yes_put h2.bk hjr lv,Bdd.bits_put hp,Bdd.bits_rowN hc] at a1 a2
        exact a1.symm.trans a2
    have l2:=h2.len
    have s2:rs2.length < sizeLine:=Nat.lt_of_lt_of_le (show rs2.length < 9000001 by omega) (by decide)
    refine ⟨_,rfl,b,a.a_Book,dx2,_,_,rfl,h2.hb,T.c_Book,T.na_Book_rooms,rfl,rl2,_,rfl,.inl (SqL.of h2.hr),?_⟩
    rw [l2]
    refine ⟨_,rfl,b,a.a_Book,dx2,_,_,rfl,h2.hb,T.c_Book,T.na_Book_numbers,rfl,_,rfl,nd2,_,rfl,DPut.k (k:=.inl (t:Int)) h2.hd (by have:=h2.nums.len; have:=h2.tabs.len; omega),?_⟩
    have nb:nd2≠b:=ne_of h2.hd h2.hb (by intro z; cases z)
    have nm:nd2≠ml2:=ne_of h2.hd h2.hm (by intro z; cases z)
    have nr:nd2≠rl2:=ne_of h2.hd h2.hr (by intro z; cases z)
    have nt:nd2≠tl2:=ne_of h2.hd h2.ht (by intro z; cases z)
    have br:b≠rl2:=ne_of h2.hb h2.hr (by intro z; cases z)
    have bt:b≠tl2:=ne_of h2.hb h2.ht (by intro z; cases z)
    generalize hO3:HO.dK (putK kvs2 (Sum.inl (t:Int)) (V.int (rs2.length:Nat))) = o3
    have b3:upd H2 nd2 o3 b = some (.ins a.a_Book dx2 (bookFs ml2 rl2 tl2 nd2)):=by rw [upd_ne (Ne.symm nb)]; exact h2.hb
    have r3:upd H2 nd2 o3 rl2 = some (.lst rv2):=by rw [upd_ne (Ne.symm nr)]; exact h2.hr
    refine ⟨_,rfl,b,a.a_Book,dx2,_,_,rfl,b3,T.c_Book,T.na_Book_rooms,rfl,.inl ⟨rfl,_,SqL.of r3⟩,?_⟩
    refine ⟨_,rfl,_,rfl,_,rfl,by show 3≤sizeLine; decide,fun q4 hq4=>?_⟩
    generalize hO4:HO.tup [V.int (p:Nat),V.int (k0:Nat),V.int (k1:Nat)] = o4
    have r4:upd (upd H2 nd2 o3) q4 o4 rl2 = some (.lst rv2):=by rw [upd_ne (ne_of_none r3 hq4)]; exact r3
    refine ⟨rl2,_,_,rfl,rfl,r4,by rw [l2]; exact s2,?_⟩
    have b4:upd (upd H2 nd2 o3) q4 o4 b = some (.ins a.a_Book dx2 (bookFs ml2 rl2 tl2 nd2)):=by rw [upd_ne (ne_of_none b3 hq4)]; exact b3
    have t3:upd H2 nd2 o3 tl2 = some (.lst (ts2.map fun t=>V.int (t:Nat))):=by rw [upd_ne (Ne.symm nt)]; exact h2.ht
    have t4:upd (upd H2 nd2 o3) q4 o4 tl2 = some (.lst (ts2.map fun t=>V.int (t:Nat))):=by rw [upd_ne (ne_of_none t3 hq4)]; exact t3
    have m3:upd H2 nd2 o3 ml2 = some (.lst (os.map V.str)):=by rw [upd_ne (Ne.symm nm)]; exact h2.hm
    have m4:upd (upd H2 nd2 o3) q4 o4 ml2 = some (.lst (os.map V.str)):=by rw [upd_ne (ne_of_none m3 hq4)]; exact m3
    have n3:upd H2 nd2 o3 nd2 = some o3:=upd_same
    have n4:upd (upd H2 nd2 o3) q4 o4 nd2 = some o3:=by rw [upd_ne (ne_of_none n3 hq4)]; exact n3
    have qr:q4≠rl2:=Ne.symm (ne_of_none r3 hq4)
    have qt:q4≠tl2:=Ne.symm (ne_of_none t3 hq4)
    have q4':upd (upd H2 nd2 o3) q4 o4 q4 = some o4:=upd_same
    have tu4:Tups H2 (upd (upd H2 nd2 o3) q4 o4):=fun x xs e=>by
      have e3:upd H2 nd2 o3 x = some (.tup xs):=by rw [upd_ne (ne_of e h2.hd (by intro z; cases z))]; exact e
      rw [upd_ne (ne_of_none e3 hq4)]; exact e3
    have aw4:∀ x o,H2 x = some o→¬ F x→upd (upd H2 nd2 o3) q4 o4 x = some o:=fun x o e nf=>by
      have e3:upd H2 nd2 o3 x = some o:=by rw [upd_ne (fun z=>nf ((h2.ft x).mpr (.inr (.inr (.inr (.inr z))))))]; exact e
      rw [upd_ne (ne_of_none e3 hq4)]; exact e3
    generalize upd (upd H2 nd2 o3) q4 o4 = H4 at b4 t4 m4 n4 r4 q4' tu4 aw4
    generalize hO5:HO.lst (rv2 ++ [V.ref q4]) = o5
    have b5:upd H4 rl2 o5 b = some (.ins a.a_Book dx2 (bookFs ml2 rl2 tl2 nd2)):=by rw [upd_ne br]; exact b4
    have t5:upd H4 rl2 o5 tl2 = some (.lst (ts2.map fun t=>V.int (t:Nat))):=by rw [upd_ne (Ne.symm h2.rt)]; exact t4
    refine ⟨_,rfl,b,a.a_Book,dx2,_,_,rfl,b5,T.c_Book,T.na_Book_tables,rfl,.inl ⟨rfl,_,SqL.of t5⟩,_,rfl,tl2,_,_,rfl,rfl,t5,by rw [List.length_map,h2.tabs.len]; exact s2,?_⟩
    generalize hO6:HO.lst (ts2.map (fun t=>V.int (t:Nat)) ++ [V.int (t:Nat)]) = o6
    have b6:upd (upd H4 rl2 o5) tl2 o6 b = some (.ins a.a_Book dx2 (bookFs ml2 rl2 tl2 nd2)):=by rw [upd_ne bt]; exact b5
    have n6:upd (upd H4 rl2 o5) tl2 o6 nd2 = some (.dK (putK kvs2 (Sum.inl (t:Int)) (V.int (rs2.length:Nat)))):=by rw [upd_ne nt,upd_ne nr,n4,hO3]
    have z:=DGet.k (k:=.inl (t:Int)) n6
    rw [valV_put,if_pos rfl] at z
    refine ⟨_,rfl,b,a.a_Book,dx2,_,_,rfl,b6,T.c_Book,T.na_Book_numbers,rfl,_,rfl,nd2,_,rfl,z,?_⟩
    have tu6:Tups H4 (upd (upd H4 rl2 o5) tl2 o6):=fun x xs e=>by
      rw [upd_ne (ne_of e t4 (by intro z; cases z)),upd_ne (ne_of e r4 (by intro z; cases z))]; exact e
    have parts:=h2.more (H':=upd (upd H4 rl2 o5) tl2 o6) (i:=p) (lo:=k0) (hi:=k1) (t:=t) (q:=q4) (fun x xs e=>tu6 _ _ (tu4 _ _ e)) (b6.trans h2.hb.symm)
      (by rw [upd_ne h2.mt,upd_ne h2.mr,m4,h2.hm]) (by rw [upd_ne h2.rt,upd_same,hO5]) (by rw [upd_same,hO6]) n6
      (by rw [upd_ne qt,upd_ne qr,q4',hO4]) B' hn2 (tab_congr tb fun c hc=>by rw [yn,Bdd.bits_rowN hc])
    refine q rs2.length _ _ (fun x o e nf=>?_) (fun x xs e=>tu6 _ _ (tu4 _ _ (tu2 _ _ (tu1 _ _ e)))) ⟨_,_,_,_,_,_,_,_,parts⟩ (g02.trans (Bdd.Grown.snoc _ _)) (by simp) yn (by rw [List.length_append,List.length_singleton]; omega) (fun j a1 a2=>?_) ?_
    · have e2:=aw2 x o (aw1 x o e nf) nf
      rw [upd_ne (fun z=>nf ((h2.ft x).mpr (.inr (.inr (.inr (.inl z)))))),upd_ne (fun z=>nf ((h2.ft x).mpr (.inr (.inr (.inl z)))))]
      exact aw4 x o e2 nf
    · rw [List.length_append,List.length_singleton] at a2
      by_cases hj:j < rs2.length
      · rw [Bdd.lev_snoc hj]
        have:=lvs j a1 hj
        omega
      · have:j = rs2.length:=by omega
        subst this
        rw [Bdd.lev_of B' (i:=p) (lo:=k0) (hi:=k1) (by simp)]
        exact hup
    · rw [Bdd.hi_snoc]
      have:=Bdd.bH_step (n:=os.length) hup
      omega
theorem ok_Book_room_withH (T:Txt P w K mg a) (G_first_place:FnOk P w K mg base CX0 k a.a_first_place a.d_first_place ["table", "marks"] spFirst) (G_held_at:FnOk P w K mg base CX0 k a.a_held_at a.d_held_at ["table", "place", "value", "marks"] spHeldAt) :
    ∀ d:Nat,FnOk P w K mg base CX0 (k + d) a.a_Book_room_with a.d_Book_room_with ["self", "table"] (spRoomWithH a.a_Book d)
  | 0=>by
    refine ⟨fun vs H Q E h=>?_,fun A outer s H args us vs Q E _ _ _ _ h=>?_⟩
    · obtain ⟨b,os,rs,F,t,u,f,rfl,_⟩:=h
      rfl
    · obtain ⟨b,os,rs,F,t,u,f,_,_,_,hu,hd,_⟩:=h
      omega
  | d + 1=>ok_Book_room_stepH T (G_first_place.mono (Nat.le_add_right _ _)) (G_held_at.mono (Nat.le_add_right _ _)) (ok_Book_room_withH T G_first_place G_held_at d)
theorem ok_Book_enterH (T:Txt P w K mg a) (G_must_be_sentence:FnOk P w K mg base CX0 k a.a_must_be_sentence a.d_must_be_sentence ["some"] spMustSen) (G_must_have_marks:FnOk P w K mg base CX0 k a.a_must_have_marks a.d_must_have_marks ["order", "sentence"] (spMustMarks K))
    (G_table_of:FnOk P w K mg base CX0 k a.a_table_of a.d_table_of ["sentence", "order"] (spTable K 24)) (G_Book_room_with:FnOk P w K mg base CX0 k a.a_Book_room_with a.d_Book_room_with ["self", "table"] (spRoomWithH a.a_Book 9)) :
    FnOk P w K mg base CX0 (k + 1) a.a_Book_enter a.d_Book_enter ["self", "sentence"] (spEnterH a.a_Book):=by
  refine T.F_Book_enter.ok sc_Book_enter (fun vs H Q E h=>?_) (fun cdv A outer s H vs Q E hr h=>?_)
  · obtain ⟨b,p,os,rs,F,sn,rfl,_⟩:=h
    rfl
  obtain ⟨b,p,os,rs,F,sn,rfl,hB,hlen,isp,hin,hc,hd,q⟩:=h
  refine ⟨_,(pss_cons (ps_expr (pe_call G_must_be_sentence hr rfl T.m_must_be_sentence T.F_must_be_sentence.2 T.b_must_be_sentence .nil pass0 (pa_cons (pv 1) pa_nil)))
      (pss_cons (ps_expr (pe_call G_must_have_marks hr rfl T.m_must_have_marks T.F_must_have_marks.2 T.b_must_have_marks .nil pass0 (pa_cons (pe_fld (pv 0) rfl) (pa_cons (pv 1) pa_nil))))
      (pss_one (ps_ret (pe_meth (pv 0) T.c_Book T.e_Book_room_with G_Book_room_with hr T.b_Book_room_with .nil pass0 (pa_cons (pe_call G_table_of hr rfl T.m_table_of T.F_table_of.2 T.b_table_of .nil pass0 (pa_cons (pv 1) (pa_cons (pe_fld (pv 0) rfl) pa_nil))) pa_nil)))))),?_⟩
  have L:=bookLike a.a_Book
  have ho:=L.ord hB
  have hlt:sn.inO letts:=(Sn.inO_iff sn).mpr fun x hx=>ho.mem x ((Sn.inO_iff sn).mp hin x hx)
  refine ⟨_,rfl,p,sn,rfl,isp,hlt,hc,hd,fun H1 g1=>?_⟩
  have hB1:=L.same hB g1
  obtain ⟨dx,ml,rl,tl,nd,rv,ts,kvs,h1⟩:=hB1
  refine ⟨_,rfl,b,a.a_Book,dx,_,_,rfl,h1.hb,T.c_Book,T.na_Book_marks,rfl,_,rfl,ml,p,os,sn,rfl,SqL.of h1.hm,isp.mono (Tups.of g1),by omega,hin,fun H2 g2=>?_⟩
  have g12:=g1.trans g2
  have h2:=h1.frame (fun x o e _=>g2 x o e) (Tups.of g2)
  refine ⟨_,rfl,b,dx,_,rfl,h2.hb,rfl,_,rfl,_,rfl,b,a.a_Book,dx,_,_,rfl,h2.hb,T.c_Book,T.na_Book_marks,rfl,p,ml,sn,os,rfl,isp.mono (Tups.of g12),SqL.of h2.hm,hin,ho.le,hd,fun N H3 g3 hN=>?_⟩
  have g13:=g12.trans g3
  have hB3:=L.same hB g13
  refine ⟨b,os,rs,F,N,0,_,rfl,hB3,by show rs.length + 512≤9000000; omega,Nat.zero_le _,by have:=ho.le; omega,hN,fun i hi=>absurd hi (Nat.not_lt_zero _),fun j rs' H' aw tu hB' gr lt y ln _ hh=>?_⟩
  refine q j rs' H' (fun x o e nf=>aw x o (g13 _ _ e) nf) (fun x xs e=>tu _ _ (g13 _ _ e)) hB' gr ⟨lt,fun r=>?_⟩ (Nat.le_trans hh (Nat.add_le_add_left (Bdd.bH_8 ho.le) _))
  rw [y]
  refine Sn.val_congr sn hin fun x hx=>?_
  show (Bdd.bits r os.length).testBit (ix os x) = r (ix os x)
  exact Bdd.bits_bit r (ix_spec hx).2.1
theorem ok_Book_init (T:Txt P w K mg a) (G_must_be_order:FnOk P w K mg base CX0 k a.a_must_be_order a.d_must_be_order ["order"] (spMustOrder K)) (G_all_rows:FnOk P w K mg base CX0 k a.a_all_rows a.d_all_rows ["marks"] spAllRows) :
    FnOk P w K mg base CX0 (k + 1) a.a_Book_init a.d_Book_init ["self", "order"] (spBookInit (BookAt a.a_Book) K a.a_Book):=by
  refine T.F_Book_init.ok sc_Book_init (fun vs H Q E h=>?_) (fun cdv A outer s H vs Q E hr h=>?_)
  · obtain ⟨b,dx,l,os,rfl,_⟩:=h
    rfl
  obtain ⟨b,dx,l,os,rfl,hb,bd,hl,ho,q⟩:=h
  refine ⟨_,(pss_cons (ps_expr (pe_call G_must_be_order hr rfl T.m_must_be_order T.F_must_be_order.2 T.b_must_be_order .nil pass0 (pa_cons (pv 1) pa_nil)))
      (pss_cons (ps_set (i:=2) sc_Book_init.nd rfl (Or.inl rfl) (pe_callB call_len_seq rfl T.n_len bt_len (pa_cons (pv 1) pa_nil)))
      (pss_cons (ps_fld (pv 0) (pe_callTy call_list_of rfl T.n_list bt_list (pa_cons (pv 1) pa_nil)) rfl)
      (pss_cons (ps_fld (pv 0) (pe_lst (pa_cons (pe_tup (pa_cons (pv 2) (pa_cons pe_int (pa_cons pe_int pa_nil)))) (pa_cons (pe_tup (pa_cons (pv 2) (pa_cons pe_int (pa_cons pe_int pa_nil)))) pa_nil))) rfl)
      (pss_cons (ps_fld (pv 0) (pe_lst (pa_cons pe_int (pa_cons (pe_call G_all_rows hr rfl T.m_all_rows T.F_all_rows.2 T.b_all_rows .nil pass0 (pa_cons (pv 2) pa_nil)) pa_nil))) rfl)
      (pss_one (ps_fld (pv 0) (pe_disp (pps_cons pe_int pe_int (pps_cons (pe_call G_all_rows hr rfl T.m_all_rows T.F_all_rows.2 T.b_all_rows .nil pass0 (pa_cons (pv 2) pa_nil)) pe_int pps_nil)) rfl rfl (List.cons_ne_nil _ _) (Nat.le_of_ble_eq_true rfl)) rfl))))))),?_⟩
  have n8:=ho.le
  have hml:(os.map V.str).length = os.length:=List.length_map _
  refine ⟨_,rfl,l,os,rfl,hl,ho,fun H1 g1=>?_⟩
  have hl1:=g1.seq hl
  refine ⟨_,rfl,l,_,rfl,.inl hl1,?_⟩
  rw [hml]
  have b1:=g1 _ _ hb
  refine ⟨_,rfl,l,_,rfl,.inl hl1,fun ml hm1=>?_⟩
  have bm:b≠ml:=ne_of_none b1 hm1
  have b2:upd H1 ml (.lst (os.map V.str)) b = some (.ins a.a_Book dx []):=by rw [upd_ne bm]; exact b1
  refine ⟨_,rfl,b,a.a_Book,dx,_,rfl,b2,T.c_Book,T.na_Book_marks,by decide,?_⟩
  have s2:∀ x o,H x = some o→x≠b→upd (upd H1 ml (.lst (os.map V.str))) b (.ins a.a_Book dx (putF "marks" (.ref ml) [])) x = some o:=fun x o e nb=>by
    rw [upd_ne nb,upd_ne (ne_of_none (g1 _ _ e) hm1)]; exact g1 _ _ e
  have hm2:upd (upd H1 ml (.lst (os.map V.str))) b (.ins a.a_Book dx (putF "marks" (.ref ml) [])) ml = some (.lst (os.map V.str)):=by rw [upd_ne (Ne.symm bm)]; exact upd_same
  have f2:∀ x,upd (upd H1 ml (.lst (os.map V.str))) b (.ins a.a_Book dx (putF "marks" (.ref ml) [])) x = none→H x = none:=fun x e=>by
    have nb:x≠b:=fun z=>by rw [z,upd_same] at e; cases e
    cases hx:H x with
    | none=>rfl
    | some o=>rw [s2 x o hx nb] at e; cases e
  have fm:H ml = none:=g1.free hm1
  have b2':upd (upd H1 ml (.lst (os.map V.str))) b (.ins a.a_Book dx (putF "marks" (.ref ml) [])) b = some (.ins a.a_Book dx (putF "marks" (.ref ml) [])):=upd_same
  generalize upd (upd H1 ml (.lst (os.map V.str))) b (.ins a.a_Book dx (putF "marks" (.ref ml) [])) = H2 at s2 hm2 f2 b2'
  refine ⟨_,rfl,by show 3≤sizeLine; decide,fun p0 hp0=>?_⟩
  refine ⟨_,rfl,by show 3≤sizeLine; decide,fun p1 hp1=>?_⟩
  refine ⟨by show 2≤sizeLine; decide,fun rl hrl=>?_⟩
  have g2:=((Same.new hp0 (.tup [.int (os.length:Nat),.int 0,.int 0])).trans (Same.new hp1 (.tup [.int (os.length:Nat),.int 1,.int 1]))).trans (Same.new hrl (.lst [.ref p0,.ref p1]))
  have hp0':=((Same.new hp1 (.tup [.int (os.length:Nat),.int 1,.int 1])).trans (Same.new hrl (.lst [.ref p0,.ref p1]))) p0 (.tup [.int (os.length:Nat),.int 0,.int 0]) upd_same
  have hp1':=(Same.new hrl (.lst [.ref p0,.ref p1])) p1 (.tup [.int (os.length:Nat),.int 1,.int 1]) upd_same
  have hr3:upd (upd (upd H2 p0 (.tup [.int (os.length:Nat),.int 0,.int 0])) p1 (.tup [.int (os.length:Nat),.int 1,.int 1])) rl (.lst [.ref p0,.ref p1]) rl = some (.lst [.ref p0,.ref p1]):=upd_same
  have frl:H2 rl = none:=((Same.new hp0 _).trans (Same.new hp1 _)).free hrl
  have brl:b≠rl:=ne_of_none b2' frl
  have mr:ml≠rl:=ne_of_none hm2 frl
  have b0:b≠p0:=ne_of_none b2' hp0
  have b1':b≠p1:=ne_of_none b2' ((Same.new hp0 _).free hp1)
  generalize upd (upd (upd H2 p0 (.tup [.int (os.length:Nat),.int 0,.int 0])) p1 (.tup [.int (os.length:Nat),.int 1,.int 1])) rl (.lst [.ref p0,.ref p1]) = H3 at g2 hp0' hp1' hr3
  refine ⟨_,rfl,b,a.a_Book,dx,_,rfl,g2 _ _ b2',T.c_Book,T.na_Book_rooms,by show 1 < 1000; decide,?_⟩
  generalize hfs:putF "rooms" (V.ref rl) (putF "marks" (V.ref ml) []) = fs3
  have u3:∀ x,x≠b→upd H3 b (.ins a.a_Book dx fs3) x = H3 x:=fun x nb=>upd_ne nb
  have b3:upd H3 b (.ins a.a_Book dx fs3) b = some (.ins a.a_Book dx fs3):=upd_same
  generalize upd H3 b (.ins a.a_Book dx fs3) = H4 at u3 b3
  refine ⟨_,rfl,os.length,rfl,n8,by show 2≤sizeLine; decide,fun tl htl=>?_⟩
  have btl:b≠tl:=ne_of_none b3 htl
  have g4:=Same.new htl (.lst [.int 0,.int ((2 ^ 2 ^ os.length - 1:Nat):Int)])
  have ht5:upd H4 tl (.lst [.int 0,.int ((2 ^ 2 ^ os.length - 1:Nat):Int)]) tl = some (.lst [.int 0,.int ((2 ^ 2 ^ os.length - 1:Nat):Int)]):=upd_same
  generalize upd H4 tl (.lst [.int 0,.int ((2 ^ 2 ^ os.length - 1:Nat):Int)]) = H5 at g4 ht5
  refine ⟨_,rfl,b,a.a_Book,dx,_,rfl,g4 _ _ b3,T.c_Book,T.na_Book_tables,by rw [← hfs]; show 2 < 1000; decide,?_⟩
  generalize hfs4:putF "tables" (V.ref tl) fs3 = fs4
  have u5:∀ x,x≠b→upd H5 b (.ins a.a_Book dx fs4) x = H5 x:=fun x nb=>upd_ne nb
  have b5:upd H5 b (.ins a.a_Book dx fs4) b = some (.ins a.a_Book dx fs4):=upd_same
  generalize upd H5 b (.ins a.a_Book dx fs4) = H6 at u5 b5
  refine fun nd hnd=>?_
  have bnd:b≠nd:=ne_of_none b5 hnd
  have g6:=Same.new hnd (.dK [])
  refine ⟨_,rfl,os.length,rfl,n8,upd_same,[(Sum.inl 0,.int 0),(Sum.inl ((2 ^ 2 ^ os.length - 1:Nat):Int),.int 1)],rfl,(by show 2≤15; decide),?_⟩
  rw [upd_upd]
  have g7:=Same.new hnd (.dK (mergeK [] [(Sum.inl 0,.int 0),(Sum.inl ((2 ^ 2 ^ os.length - 1:Nat):Int),.int 1)]))
  have hn7:upd H6 nd (.dK (mergeK [] [(Sum.inl 0,.int 0),(Sum.inl ((2 ^ 2 ^ os.length - 1:Nat):Int),.int 1)])) nd = some (.dK (mergeK [] [(Sum.inl 0,.int 0),(Sum.inl ((2 ^ 2 ^ os.length - 1:Nat):Int),.int 1)])):=upd_same
  generalize upd H6 nd (.dK (mergeK [] [(Sum.inl 0,.int 0),(Sum.inl ((2 ^ 2 ^ os.length - 1:Nat):Int),.int 1)])) = H7 at g7 hn7
  refine ⟨_,rfl,b,a.a_Book,dx,_,rfl,g7 _ _ b5,T.c_Book,T.na_Book_numbers,by rw [← hfs4,← hfs]; show 3 < 1000; decide,?_⟩
  have big:2 ^ 2 ^ os.length - 1≠0:=by
    have:2 ^ 1≤2 ^ 2 ^ os.length:=Nat.pow_le_pow_right (by decide) Nat.one_le_two_pow
    omega
  have to7:∀ x o,H3 x = some o→x≠b→upd H7 b (.ins a.a_Book dx (putF "numbers" (.ref nd) fs4)) x = some o:=fun x o e nb=>by
    rw [upd_ne nb]
    refine g7 _ _ ?_
    rw [u5 x nb]
    refine g4 _ _ ?_
    rw [u3 x nb]
    exact e
  have tl6:H6 tl = some (.lst [.int 0,.int ((2 ^ 2 ^ os.length - 1:Nat):Int)]):=by rw [u5 tl (Ne.symm btl)]; exact ht5
  have efs:putF "numbers" (.ref nd) fs4 = bookFs ml rl tl nd:=by rw [← hfs4,← hfs]; rfl
  have up:∀ x o,H3 x = some o→x≠b→H4 x = some o:=fun x o e nb=>by rw [u3 x nb]; exact e
  have mt:ml≠tl:=ne_of_none (up _ _ (g2 _ _ hm2) (Ne.symm bm)) htl
  have rt:rl≠tl:=ne_of_none (up _ _ hr3 (Ne.symm brl)) htl
  have fr4:∀ x,H4 x = none→H x = none:=fun x e=>f2 x (by
    cases hx:H2 x with
    | none=>rfl
    | some o =>
      by_cases nb:x = b
      · rw [nb,b3] at e; cases e
      · rw [up x o (g2 _ _ hx) nb] at e; cases e)
  have fr6:∀ x,H6 x = none→H x = none:=fun x e=>by
    have nb:x≠b:=fun z=>by rw [z,b5] at e; cases e
    rw [u5 x nb] at e
    exact fr4 x (g4.free e)
  have two:∀ {j:Nat},j < 2→j = 0∨j = 1:=fun h=>by omega
  have bk0:Bdd.Bk os.length [none,none]:=⟨rfl,rfl,fun k h1 h2=>by simp at h2; omega,fun i j x e _=>by
    have:=(List.getElem?_eq_some_iff.mp e).1
    rcases two (by simpa using this) with z | z <;> subst z <;> cases e⟩
  refine q _ (fun x=>x = b∨x = ml∨x = rl∨x = tl∨x = nd) (fun x o e nb=>to7 x o (g2 _ _ (s2 x o e nb)) nb) ⟨dx,ml,rl,tl,nd,[.ref p0,.ref p1],[0,2 ^ 2 ^ os.length - 1],mergeK [] [(Sum.inl 0,.int 0),(Sum.inl ((2 ^ 2 ^ os.length - 1:Nat):Int),.int 1)],?_⟩ (fun x hx=>?_)
  · refine { hb:=by rw [upd_same,efs],hm:=to7 _ _ (g2 _ _ hm2) (Ne.symm bm),hr:=to7 _ _ hr3 (Ne.symm brl),ht:=by rw [upd_ne (Ne.symm btl)]; exact g7 _ _ tl6,hd:=by rw [upd_ne (Ne.symm bnd)]; exact hn7,mr:=mr,mt:=mt,rt:=rt,ord:=ho,bk:=bk0,len:=rfl,rm:=?_,tabs:=?_,nums:=?_,ft:=fun x=>Iff.rfl }
    · intro j x e
      have:=(List.getElem?_eq_some_iff.mp e).1
      rcases two (by simpa using this) with z | z <;> subst z <;> cases e
      · exact ⟨p0,rfl,to7 _ _ hp0' (Ne.symm b0)⟩
      · exact ⟨p1,rfl,to7 _ _ hp1' (Ne.symm b1')⟩
    · refine ⟨rfl,fun j t e=>?_⟩
      have:=(List.getElem?_eq_some_iff.mp e).1
      rcases two (by simpa using this) with z | z <;> subst z <;> cases e
      · exact tab_congr (tab_zero _) fun b _=>rfl
      · exact tab_congr (tab_all _) fun b _=>(Bdd.yes_yes bk0 _).symm
    · have z0:Nums [] []:=⟨fun j t e=>by simp at e,fun t _=>rfl,Nat.le_refl _⟩
      have z1:=z0.snoc (t:=0) (by simp)
      exact z1.snoc (t:=2 ^ 2 ^ os.length - 1) (fun hm=>by simp at hm; omega)
  · rcases hx with z | z | z | z | z <;> subst z
    · exact .inl rfl
    · exact .inr (.inr fm)
    · exact .inr (.inr (f2 _ frl))
    · exact .inr (.inr (fr4 _ htl))
    · exact .inr (.inr (fr6 _ hnd))
end
end K51
namespace K51
open PySem L2 Sen
section
variable {P:Program} {w:World} {K:PySem.W.Frag} {mg:Str→Option Value} {base:Heap} {a:Ad} {k:Nat}
theorem ok_cell_f (T:Txt P w K mg a):FnOk P w K mg base CX0 (k + 1) a.a_x_law_cell_at a.d_x_law_cell_at ["script", "k"] (spCellF K):=by
  refine T.F_x_law_cell_at.ok sc_x_law_cell_at (fun vs H Q E h=>?_) (fun cdv A outer s H vs Q E hr h=>?_)
  · obtain ⟨l,ns,i,rfl,_⟩:=h
    rfl
  obtain ⟨l,ns,i,rfl,hS,q⟩:=h
  refine ⟨_,(pss_cons (ps_if (pt_cmpR op_lt (pv 1) (pe_callB call_len_seq rfl T.n_len bt_len (pa_cons (pv 0) pa_nil)) (nomark _)) (pss_one (ps_ret (pe_ix ix_list (pv 0) (pv 1) (fun _ _=>rfl)))) pss_nil)
      (pss_one (ps_ret pe_int))),?_⟩
  refine ⟨_,rfl,_,rfl,l,_,rfl,.inl hS,_,_,rfl,rfl,_,rfl,?_⟩
  refine ite2 (fun c=>?_) (fun c=>?_)
  · have c':(i:Int) < (((ns.map V.int).length:Nat):Int):=of_decide_eq_true c
    rw [List.length_map] at c'
    have hi:i < ns.length:=by omega
    have ec:cellF ns i = ns[i]:=by unfold cellF; rw [List.getElem?_eq_getElem hi]; rfl
    rw [ec] at q
    exact ⟨_,rfl,_,rfl,l,_,i,_,rfl,rfl,hS,atI_nat (by rw [List.getElem?_map,List.getElem?_eq_getElem hi]; rfl),q⟩
  · have hi:ns.length≤i:=by
      refine Nat.le_of_not_lt fun hlt=>c (decide_eq_true ?_)
      rw [List.length_map]; omega
    have ec:cellF ns i = 0:=by unfold cellF; rw [List.getElem?_eq_none hi]; rfl
    rw [ec] at q
    exact q
theorem ok_Book_must_be_room (T:Txt P w K mg a):FnOk P w K mg base CX0 (k + 1) a.a_Book_must_be_room a.d_Book_must_be_room ["self", "number"] (spMustRoom a.a_Book):=by
  refine T.F_Book_must_be_room.ok sc_Book_must_be_room (fun vs H Q E h=>?_) (fun cdv A outer s H vs Q E hr h=>?_)
  · obtain ⟨b,os,rs,F,j,rfl,_⟩:=h
    rfl
  obtain ⟨b,os,rs,F,j,rfl,⟨dx,ml,rl,tl,nd,rv,ts,kvs,h⟩,hk,q⟩:=h
  refine ⟨_,(pss_one (ps_if (PW.pt (pw_or (pt_cmpR op_lt (pv 1) pe_int (nomark _)) (pw_or1 (pt_cmpR op_ge (pv 1) (pe_callB call_len_seq rfl T.n_len bt_len (pa_cons (pe_fld (pv 0) rfl) pa_nil)) (nomark _))))) (pss_one ps_never) pss_nil)),?_⟩
  have hl:=h.len
  refine ⟨_,rfl,_,_,rfl,rfl,_,rfl,ite2 (fun c=>absurd (of_decide_eq_true c) (by omega)) (fun _=>?_)⟩
  refine ⟨_,rfl,_,rfl,b,a.a_Book,dx,_,_,rfl,h.hb,T.c_Book,T.na_Book_rooms,rfl,rl,_,rfl,.inl (SqL.of h.hr),_,_,rfl,rfl,_,rfl,ite2 (fun c=>absurd (of_decide_eq_true c) (by omega)) (fun _=>?_)⟩
  exact q
theorem ok_Book_place_of (T:Txt P w K mg a):FnOk P w K mg base CX0 (k + 1) a.a_Book_place_of a.d_Book_place_of ["self", "number"] (spPlaceOf a.a_Book):=by
  refine T.F_Book_place_of.ok sc_Book_place_of (fun vs H Q E h=>?_) (fun cdv A outer s H vs Q E hr h=>?_)
  · obtain ⟨b,os,rs,F,j,rfl,_⟩:=h
    rfl
  obtain ⟨b,os,rs,F,j,rfl,⟨dx,ml,rl,tl,nd,rv,ts,kvs,h⟩,hk,q⟩:=h
  refine ⟨_,(pss_one (ps_ret (pe_ix ix_tup (pe_ix ix_list (pe_fld (pv 0) rfl) (pv 1) (fun _ _=>rfl)) pe_int (fun _ _=>rfl)))),?_⟩
  have ex:=List.getElem?_eq_getElem hk
  obtain ⟨p,e1,e2⟩:=h.rm j _ ex
  refine ⟨_,rfl,b,a.a_Book,dx,_,_,rfl,h.hb,T.c_Book,T.na_Book_rooms,rfl,_,rfl,rl,_,_,_,rfl,rfl,SqL.of h.hr,atI_nat e1,?_⟩
  refine ⟨p,_,0,.int (Bdd.lev os.length rs j:Nat),rfl,rfl,SqT.of e2,?_,q⟩
  unfold Bdd.lev
  rw [ex]
  cases rs[j] with
  | none=>rfl
  | some t=>rfl
theorem ok_Book_going (T:Txt P w K mg a):FnOk P w K mg base CX0 (k + 1) a.a_Book_going a.d_Book_going ["self", "number", "value"] (spGoing a.a_Book):=by
  refine T.F_Book_going.ok sc_Book_going (fun vs H Q E h=>?_) (fun cdv A outer s H vs Q E hr h=>?_)
  · obtain ⟨b,os,rs,F,j,x,v,rfl,_⟩:=h
    rfl
  obtain ⟨b,os,rs,F,j,x,v,rfl,⟨dx,ml,rl,tl,nd,rv,ts,kvs,h⟩,ex,q⟩:=h
  refine ⟨_,(pss_one (ps_ret (pe_ix ix_tup (pe_ix ix_list (pe_fld (pv 0) rfl) (pv 1) (fun _ _=>rfl)) (pe_op op_add pe_int (pv 2)) (fun _ _=>rfl)))),?_⟩
  obtain ⟨p,e1,e2⟩:=h.rm j _ ex
  refine ⟨_,rfl,b,a.a_Book,dx,_,_,rfl,h.hb,T.c_Book,T.na_Book_rooms,rfl,_,rfl,rl,_,_,_,rfl,rfl,SqL.of h.hr,atI_nat e1,?_⟩
  refine ⟨_,rfl,_,_,rfl,rfl,p,_,_,.int (roomGo j x v:Nat),rfl,rfl,SqT.of e2,?_,q⟩
  cases v <;> cases x <;> rfl
theorem ok_Book_table_at (T:Txt P w K mg a):FnOk P w K mg base CX0 (k + 1) a.a_Book_table_at a.d_Book_table_at ["self", "number"] (spTableAt a.a_Book):=by
  refine T.F_Book_table_at.ok sc_Book_table_at (fun vs H Q E h=>?_) (fun cdv A outer s H vs Q E hr h=>?_)
  · obtain ⟨b,os,rs,F,j,rfl,_⟩:=h
    rfl
  obtain ⟨b,os,rs,F,j,rfl,⟨dx,ml,rl,tl,nd,rv,ts,kvs,h⟩,hk,q⟩:=h
  refine ⟨_,(pss_one (ps_ret (pe_ix ix_list (pe_fld (pv 0) rfl) (pv 1) (fun _ _=>rfl)))),?_⟩
  have ht:j < ts.length:=by rw [h.tabs.len]; exact hk
  have ex:=List.getElem?_eq_getElem ht
  refine ⟨_,rfl,b,a.a_Book,dx,_,_,rfl,h.hb,T.c_Book,T.na_Book_tables,rfl,_,rfl,tl,_,_,.int (ts[j]:Nat),rfl,rfl,SqL.of h.ht,atI_nat (by rw [List.getElem?_map,ex]; rfl),?_⟩
  exact q _ (h.tabs.tab j _ ex)
theorem ok_Book_order (T:Txt P w K mg a):FnOk P w K mg base CX0 (k + 1) a.a_Book_order a.d_Book_order ["self"] (spBookOrder (BookAt a.a_Book)):=by
  refine T.F_Book_order.ok sc_Book_order (fun vs H Q E h=>?_) (fun cdv A outer s H vs Q E hr h=>?_)
  · obtain ⟨b,os,rs,F,rfl,_⟩:=h
    rfl
  obtain ⟨b,os,rs,F,rfl,⟨dx,ml,rl,tl,nd,rv,ts,kvs,h⟩,q⟩:=h
  refine ⟨_,(pss_one (ps_ret (pe_callTy call_list_of rfl T.n_list bt_list (pa_cons (pe_fld (pv 0) rfl) pa_nil)))),?_⟩
  exact ⟨_,rfl,b,a.a_Book,dx,_,_,rfl,h.hb,T.c_Book,T.na_Book_marks,rfl,ml,_,rfl,.inl (SqL.of h.hm),fun l hl=>q l _ (Same.new hl _) hl upd_same⟩
theorem ok_Book_size (T:Txt P w K mg a):FnOk P w K mg base CX0 (k + 1) a.a_Book_size a.d_Book_size ["self"] (spBookSize (BookAt a.a_Book)):=by
  refine T.F_Book_size.ok sc_Book_size (fun vs H Q E h=>?_) (fun cdv A outer s H vs Q E hr h=>?_)
  · obtain ⟨b,os,rs,F,rfl,_⟩:=h
    rfl
  obtain ⟨b,os,rs,F,rfl,⟨dx,ml,rl,tl,nd,rv,ts,kvs,h⟩,q⟩:=h
  refine ⟨_,(pss_one (ps_ret (pe_callB call_len_seq rfl T.n_len bt_len (pa_cons (pe_fld (pv 0) rfl) pa_nil)))),?_⟩
  refine ⟨_,rfl,b,a.a_Book,dx,_,_,rfl,h.hb,T.c_Book,T.na_Book_rooms,rfl,rl,_,rfl,.inl (SqL.of h.hr),?_⟩
  rw [h.len]
  exact q H (Same.refl _)
theorem ok_Book_room (T:Txt P w K mg a) (G_Book_must_be_room:FnOk P w K mg base CX0 k a.a_Book_must_be_room a.d_Book_must_be_room ["self", "number"] (spMustRoom a.a_Book)) (G_Book_place_of:FnOk P w K mg base CX0 k a.a_Book_place_of a.d_Book_place_of ["self", "number"] (spPlaceOf a.a_Book)) (G_Book_going:FnOk P w K mg base CX0 k a.a_Book_going a.d_Book_going ["self", "number", "value"] (spGoing a.a_Book)) :
    FnOk P w K mg base CX0 (k + 1) a.a_Book_room a.d_Book_room ["self", "number"] (spBookRoom (BookAt a.a_Book)):=by
  refine T.F_Book_room.ok sc_Book_room (fun vs H Q E h=>?_) (fun cdv A outer s H vs Q E hr h=>?_)
  · obtain ⟨b,os,rs,F,j,x,rfl,_⟩:=h
    rfl
  obtain ⟨b,os,rs,F,j,x,rfl,hB,ex,q⟩:=h
  refine ⟨_,(pss_cons (ps_expr (pe_meth (pv 0) T.c_Book T.e_Book_must_be_room G_Book_must_be_room hr T.b_Book_must_be_room .nil pass0 (pa_cons (pv 1) pa_nil)))
      (pss_cons (ps_if (pt_cmpR op_in_seq (pv 1) (pe_tup (pa_cons pe_int (pa_cons pe_int pa_nil))) (by with_unfolding_all rfl)) (pss_one (ps_ret pe_non)) pss_nil)
      (pss_one (ps_ret (pe_tup (pa_cons (pe_ix ix_list (pe_fld (pv 0) rfl) (pe_meth (pv 0) T.c_Book T.e_Book_place_of G_Book_place_of hr T.b_Book_place_of .nil pass0 (pa_cons (pv 1) pa_nil)) (fun _ _=>rfl)) (pa_cons (pe_meth (pv 0) T.c_Book T.e_Book_going G_Book_going hr T.b_Book_going .nil pass0 (pa_cons (pv 1) (pa_cons pe_int pa_nil))) (pa_cons (pe_meth (pv 0) T.c_Book T.e_Book_going G_Book_going hr T.b_Book_going .nil pass0 (pa_cons (pv 1) (pa_cons pe_int pa_nil))) pa_nil)))))))),?_⟩
  have hj:=(List.getElem?_eq_some_iff.mp ex).1
  have BK:=(bookLike a.a_Book).bk hB
  obtain ⟨dx,ml,rl,tl,nd,rv,ts,kvs,h⟩:=hB
  refine ⟨_,rfl,b,dx,_,rfl,h.hb,rfl,_,rfl,b,os,rs,F,j,rfl,⟨dx,ml,rl,tl,nd,rv,ts,kvs,h⟩,hj,?_⟩
  refine ⟨_,rfl,by show 2≤sizeLine; decide,fun p hp=>⟨p,_,rfl,.inr (SqT.of upd_same),rfl,rfl,_,rfl,?_⟩⟩
  have g:=Same.new hp (.tup [.int 0,.int 1])
  have h':=h.frame (fun x o e _=>g x o e) (Tups.of g)
  have hB':BookAt a.a_Book (upd H p (.tup [.int 0,.int 1])) b os rs F:=⟨dx,ml,rl,tl,nd,rv,ts,kvs,h'⟩
  have e0:(if false = true then !inV (V.int (j:Nat)) [.int 0,.int 1] else inV (V.int (j:Nat)) [.int 0,.int 1]) = decide (j < 2):=by
    rw [if_neg Bool.false_ne_true]
    show (((0:Int) == (j:Nat)) || (((1:Int) == (j:Nat)) || false)) = decide (j < 2)
    rw [Bool.eq_iff_iff]
    simp only [Bool.or_eq_true,beq_iff_eq,Bool.or_false,decide_eq_true_eq]
    omega
  rw [e0]
  by_cases j2:j < 2
  · rw [decide_eq_true j2]
    refine iteT (q _ _ g ?_)
    have:x = none:=by
      have:j = 0∨j = 1:=by omega
      rcases this with z | z <;> subst z
      · rw [BK.h0] at ex; cases ex; rfl
      · rw [BK.h1] at ex; cases ex; rfl
    subst this
    rfl
  · rw [decide_eq_false j2]
    obtain ⟨i,lo,hi,e,hin,_⟩:=BK.rm j (by omega) hj
    rw [ex] at e
    cases e
    refine iteF ?_
    have el:=Bdd.lev_of BK ex
    refine ⟨_,rfl,b,a.a_Book,dx,_,_,rfl,h'.hb,T.c_Book,T.na_Book_marks,rfl,_,rfl,b,dx,_,rfl,h'.hb,rfl,_,rfl,b,os,rs,F,j,rfl,hB',hj,?_⟩
    have ei:=List.getElem?_eq_getElem hin
    refine ⟨ml,_,_,.str os[i],rfl,rfl,SqL.of h'.hm,by rw [el]; exact atI_nat (by rw [List.getElem?_map,ei]; rfl),?_⟩
    refine ⟨_,rfl,b,dx,_,rfl,h'.hb,rfl,_,rfl,b,os,rs,F,j,_,false,rfl,hB',ex,?_⟩
    refine ⟨_,rfl,b,dx,_,rfl,h'.hb,rfl,_,rfl,b,os,rs,F,j,_,true,rfl,hB',ex,?_⟩
    refine ⟨by show 3≤sizeLine; decide,fun p2 hp2=>?_⟩
    exact q _ _ (g.trans (Same.new hp2 _)) ⟨p2,os[i],rfl,ei,upd_same⟩
theorem ok_without (T:Txt P w K mg a):FnOk P w K mg base CX0 (k + 1) a.a_without a.d_without ["table", "other"] spWithout:=by
  refine T.F_without.ok sc_without (fun vs H Q E h=>?_) (fun cdv A outer s H vs Q E hr h=>?_)
  · obtain ⟨N,M,n,f,g,rfl,_⟩:=h
    rfl
  obtain ⟨N,M,n,f,g,rfl,tb,tg,q⟩:=h
  refine ⟨_,(pss_one (ps_ret (pe_op op_xorN (pv 0) (pe_op op_andN (pv 0) (pv 1))))),?_⟩
  refine ⟨_,rfl,_,rfl,_,rfl,N,M,rfl,rfl,N,N &&& M,rfl,rfl,q _ (tab_congr (Sen.tab_xor tb (Sen.tab_and tb tg)) fun b _=>?_)⟩
  show (f b != (f b && g b)) = (f b && !g b)
  cases f b <;> cases g b <;> rfl
theorem ok_chosen (T:Txt P w K mg a) (G_without:FnOk P w K mg base CX0 k a.a_without a.d_without ["table", "other"] spWithout):FnOk P w K mg base CX0 (k + 1) a.a_chosen a.d_chosen ["where", "low", "high"] spChosen:=by
  refine T.F_chosen.ok sc_chosen (fun vs H Q E h=>?_) (fun cdv A outer s H vs Q E hr h=>?_)
  · obtain ⟨W,L,M,n,f,g,h,rfl,_⟩:=h
    rfl
  obtain ⟨W,L,M,n,f,g,h,rfl,tf,tg,th,q⟩:=h
  refine ⟨_,(pss_one (ps_ret (pe_op op_orN (pe_op op_andN (pv 2) (pv 0)) (pe_call G_without hr rfl T.m_without T.F_without.2 T.b_without .nil pass0 (pa_cons (pv 1) (pa_cons (pv 0) pa_nil)))))),?_⟩
  refine ⟨_,rfl,_,rfl,M,W,rfl,rfl,_,rfl,_,rfl,L,W,n,g,f,rfl,tg,tf,fun R tr=>?_⟩
  refine ⟨M &&& W,R,rfl,rfl,q _ (tab_congr (Sen.tab_or (Sen.tab_and th tf) tr) fun b _=>?_)⟩
  show ((h b && f b) || (g b && !f b)) = if f b then h b else g b
  cases f b <;> simp
theorem ok_Book_room_thereH {sp:Sp} (T:Txt P w K mg a) (G_first_place:FnOk P w K mg base CX0 k a.a_first_place a.d_first_place ["table", "marks"] spFirst) (G_held_at:FnOk P w K mg base CX0 k a.a_held_at a.d_held_at ["table", "place", "value", "marks"] spHeldAt)
    (G_Book_room_with:FnOk P w K mg base CX0 k a.a_Book_room_with a.d_Book_room_with ["self", "table"] sp):FnOk P w K mg base CX0 (k + 1) a.a_Book_room_with a.d_Book_room_with ["self", "table"] (spRoomThere a.a_Book):=by
  refine T.F_Book_room_with.ok sc_Book_room_with (fun vs H Q E h=>?_) (fun cdv A outer s H vs Q E hr h=>?_)
  · obtain ⟨b,os,rs,F,t,k0,f,rfl,_⟩:=h
    rfl
  obtain ⟨b,os,rs,F,t,k0,f,rfl,hB,tb,hk,hy,q⟩:=h
  refine ⟨_,(pss_cons (ps_if (pt_cmp (pc_dnotin (hu_of hr) (pv 1) (pe_fld (pv 0) rfl))) (pss_cons (ps_set (i:=2) sc_Book_room_with.nd rfl (Or.inl rfl) (pe_callB call_len_seq rfl T.n_len bt_len (pa_cons (pe_fld (pv 0) rfl) pa_nil)))
      (pss_cons (ps_set (i:=3) sc_Book_room_with.nd rfl (Or.inl rfl) (pe_call G_first_place hr rfl T.m_first_place T.F_first_place.2 T.b_first_place .nil pass0 (pa_cons (pv 1) (pa_cons (pv 2) pa_nil))))
      (pss_cons (ps_set (i:=4) sc_Book_room_with.nd rfl (Or.inl rfl) (pe_meth (pv 0) T.c_Book T.e_Book_room_with G_Book_room_with hr T.b_Book_room_with .nil pass0 (pa_cons (pe_call G_held_at hr rfl T.m_held_at T.F_held_at.2 T.b_held_at .nil pass0 (pa_cons (pv 1) (pa_cons (pv 3) (pa_cons pe_int (pa_cons (pv 2) pa_nil))))) pa_nil)))
      (pss_cons (ps_set (i:=5) sc_Book_room_with.nd rfl (Or.inl rfl) (pe_meth (pv 0) T.c_Book T.e_Book_room_with G_Book_room_with hr T.b_Book_room_with .nil pass0 (pa_cons (pe_call G_held_at hr rfl T.m_held_at T.F_held_at.2 T.b_held_at .nil pass0 (pa_cons (pv 1) (pa_cons (pv 3) (pa_cons pe_int (pa_cons (pv 2) pa_nil))))) pa_nil)))
      (pss_cons (ps_dput (hu_of hr) (pe_fld (pv 0) rfl) (pv 1) (pe_callB call_len_seq rfl T.n_len bt_len (pa_cons (pe_fld (pv 0) rfl) pa_nil)) rfl)
      (pss_cons (ps_expr (pe_bm PySem.F.plainAttrs_list PySem.F.slot_list_append PySem.F.type_list_append mt_append (pe_fld (pv 0) rfl) (pa_cons (pe_tup (pa_cons (pv 3) (pa_cons (pv 4) (pa_cons (pv 5) pa_nil)))) pa_nil)))
      (pss_one (ps_expr (pe_bm PySem.F.plainAttrs_list PySem.F.slot_list_append PySem.F.type_list_append mt_append (pe_fld (pv 0) rfl) (pa_cons (pv 1) pa_nil)))))))))) pss_nil)
      (pss_one (ps_ret (pe_dget (hu_of hr) (pe_fld (pv 0) rfl) (pv 1) (fun _ _=>rfl))))),?_⟩
  obtain ⟨dx,ml,rl,tl,nd,rv,ts,kvs,h⟩:=hB
  refine ⟨_,rfl,_,rfl,b,a.a_Book,dx,_,_,rfl,h.hb,T.c_Book,T.na_Book_numbers,rfl,nd,_,rfl,DGet.k (k:=.inl (t:Int)) h.hd,?_⟩
  have ej':ts[k0]? = some t:=h.tabs.same hk tb hy
  have ev:=h.nums.get k0 t ej'
  have z:=DGet.k (k:=.inl (t:Int)) h.hd
  rw [ev] at z
  rw [ev]
  refine ⟨_,rfl,iteF ?_⟩
  exact ⟨_,rfl,b,a.a_Book,dx,_,_,rfl,h.hb,T.c_Book,T.na_Book_numbers,rfl,_,rfl,nd,_,rfl,z,q⟩
theorem ok_Book_enterT (T:Txt P w K mg a) (G_must_be_sentence:FnOk P w K mg base CX0 k a.a_must_be_sentence a.d_must_be_sentence ["some"] spMustSen) (G_must_have_marks:FnOk P w K mg base CX0 k a.a_must_have_marks a.d_must_have_marks ["order", "sentence"] (spMustMarks K))
    (G_table_of:FnOk P w K mg base CX0 k a.a_table_of a.d_table_of ["sentence", "order"] (spTable K 24)) (G_Book_room_with:FnOk P w K mg base CX0 k a.a_Book_room_with a.d_Book_room_with ["self", "table"] (spRoomThere a.a_Book)) :
    FnOk P w K mg base CX0 (k + 1) a.a_Book_enter a.d_Book_enter ["self", "sentence"] (spEnterT a.a_Book):=by
  refine T.F_Book_enter.ok sc_Book_enter (fun vs H Q E h=>?_) (fun cdv A outer s H vs Q E hr h=>?_)
  · obtain ⟨b,p,os,rs,F,sn,k0,rfl,_⟩:=h
    rfl
  obtain ⟨b,p,os,rs,F,sn,k0,rfl,hB,isp,hin,hc,hd,mk,q⟩:=h
  refine ⟨_,(pss_cons (ps_expr (pe_call G_must_be_sentence hr rfl T.m_must_be_sentence T.F_must_be_sentence.2 T.b_must_be_sentence .nil pass0 (pa_cons (pv 1) pa_nil)))
      (pss_cons (ps_expr (pe_call G_must_have_marks hr rfl T.m_must_have_marks T.F_must_have_marks.2 T.b_must_have_marks .nil pass0 (pa_cons (pe_fld (pv 0) rfl) (pa_cons (pv 1) pa_nil))))
      (pss_one (ps_ret (pe_meth (pv 0) T.c_Book T.e_Book_room_with G_Book_room_with hr T.b_Book_room_with .nil pass0 (pa_cons (pe_call G_table_of hr rfl T.m_table_of T.F_table_of.2 T.b_table_of .nil pass0 (pa_cons (pv 1) (pa_cons (pe_fld (pv 0) rfl) pa_nil))) pa_nil)))))),?_⟩
  have L:=bookLike a.a_Book
  have ho:=L.ord hB
  have hlt:sn.inO letts:=(Sn.inO_iff sn).mpr fun x hx=>ho.mem x ((Sn.inO_iff sn).mp hin x hx)
  refine ⟨_,rfl,p,sn,rfl,isp,hlt,hc,hd,fun H1 g1=>?_⟩
  have hB1:=L.same hB g1
  obtain ⟨dx,ml,rl,tl,nd,rv,ts,kvs,h1⟩:=hB1
  refine ⟨_,rfl,b,a.a_Book,dx,_,_,rfl,h1.hb,T.c_Book,T.na_Book_marks,rfl,_,rfl,ml,p,os,sn,rfl,SqL.of h1.hm,isp.mono (Tups.of g1),by omega,hin,fun H2 g2=>?_⟩
  have g12:=g1.trans g2
  have h2:=h1.frame (fun x o e _=>g2 x o e) (Tups.of g2)
  refine ⟨_,rfl,b,dx,_,rfl,h2.hb,rfl,_,rfl,_,rfl,b,a.a_Book,dx,_,_,rfl,h2.hb,T.c_Book,T.na_Book_marks,rfl,p,ml,sn,os,rfl,isp.mono (Tups.of g12),SqL.of h2.hm,hin,ho.le,hd,fun N H3 g3 hN=>?_⟩
  have g13:=g12.trans g3
  have hB3:=L.same hB g13
  refine roomWith_there g13 hB3 hN (fun r=>?_) mk q
  refine Sn.val_congr sn hin fun x hx=>?_
  show (Bdd.bits r os.length).testBit (ix os x) = r (ix os x)
  exact Bdd.bits_bit r (ix_spec hx).2.1
theorem ok_whole (T:Txt P w K mg a):FnOk P w K mg base CX0 (k + 1) a.a_x_law_whole a.d_x_law_whole ["found"] spWhole:=by
  refine T.F_x_law_whole.ok sc_x_law_whole (fun vs H Q E h=>?_) (fun cdv A outer s H vs Q E hr h=>?_)
  · obtain ⟨i,rfl,_⟩:=h
    rfl
  obtain ⟨i,rfl,q⟩:=h
  refine ⟨_,(pss_one (ps_ret (pe_and (pe_callB call_isinst rfl T.n_isinstance bt_isinstance (pa_cons (pv 0) (pa_cons (pe_bltn (v:=.ty "int") rfl T.n_int bt_int rfl) pa_nil))) (pe_one (pe_not (pe_callB call_isinst rfl T.n_isinstance bt_isinstance (pa_cons (pv 0) (pa_cons (pe_bltn (v:=.ty "bool") rfl T.n_bool bt_bool rfl) pa_nil)))))))),?_⟩
  refine ⟨_,rfl,_,_,_,true,rfl,.int i,rfl,true,rfl,iteT ?_⟩
  exact ⟨_,rfl,_,_,_,false,rfl,.int i,rfl,false,rfl,q⟩
theorem ok_law_rows (T:Txt P w K mg a):FnOk P w K mg base CX0 (k + 1) a.a_x_law_rows a.d_x_law_rows ["size"] spLawRows:=by
  refine T.F_x_law_rows.ok sc_x_law_rows (fun vs H Q E h=>?_) (fun cdv A outer s H vs Q E hr h=>?_)
  · obtain ⟨n,rfl,_⟩:=h
    rfl
  obtain ⟨n,rfl,n8,q⟩:=h
  refine ⟨_,(pss_cons (ps_set (i:=1) sc_x_law_rows.nd rfl (Or.inl rfl) (pe_lst (pa_cons (pe_lst pa_nil) pa_nil)))
      (pss_cons (ps_for PassesOwn.never rfl (pi_range1 rfl T.n_range (pa_cons (pv 0) pa_nil)) (pg_name (i:=2) sc_x_law_rows.nd rfl (Or.inl rfl)) (pss_cons (ps_set (i:=3) sc_x_law_rows.nd rfl (Or.inl rfl) (pe_lst pa_nil))
      (pss_cons (ps_for PassesOwn.never rfl (pi_list (pv 1)) (pg_name (i:=4) sc_x_law_rows.nd rfl (Or.inl rfl)) (pss_one (ps_expr (pe_bm PySem.F.plainAttrs_list PySem.F.slot_list_extend PySem.F.type_list_extend mt_extend (pv 3) (pa_cons (pe_lst (pa_cons (pe_op (op_addLK rfl) (pv 4) (pe_lst (pa_cons pe_int pa_nil))) (pa_cons (pe_op (op_addLK rfl) (pv 4) (pe_lst (pa_cons pe_int pa_nil))) pa_nil))) pa_nil)))))
      (pss_one (ps_set (i:=1) sc_x_law_rows.nd rfl (Or.inl rfl) (pv 3))))))
      (pss_one (ps_ret (pv 1))))),?_⟩
  have p256:∀ i,i≤n→(Bdd.allR i).length≤256:=fun i hi=>by rw [Bdd.allR_size]; exact Nat.le_trans (Nat.pow_le_pow_right (n:=2) (by decide) (show i≤8 by omega)) (by decide)
  refine ⟨by show 0≤sizeLine; decide,fun q0 hq0=>⟨by show 1≤sizeLine; decide,fun l0 hl0=>?_⟩⟩
  have g0:=(Same.new hq0 (.lst [])).trans (Same.new hl0 (.lst [.ref q0]))
  have e2:=(Same.new hl0 (.lst [.ref q0])) q0 (.lst []) upd_same
  have fl0:H l0 = none:=(Same.new hq0 _).free hl0
  refine ⟨_,rfl,(n:Int),rfl,by omega,by omega,?_⟩
  rw [Int.toNat_natCast]
  refine for_range (fun i σ H'=>∃ (l:Addr) (es:List Addr) (f2 f3 f4:Option V),Same H H'∧H l = none∧H' l = some (.lst (es.map V.ref))∧Paired (RowF H H') es (Bdd.allR i)∧σ = [some (.int (n:Nat)),some (.ref l),f2,f3,f4])
    ⟨l0,[q0],_,_,_,g0,fl0,upd_same,.cons ⟨hq0,e2⟩ .nil,rfl⟩ ?_ ?_
  · rintro i σ H2 hi ⟨l,es,f2,f3,f4,g2,fl,hl,he,rfl⟩
    have el:=pd_len he
    have lt:=p256 i (by omega)
    refine ⟨by show 0≤sizeLine; decide,fun lg hlg=>?_⟩
    have g3:=Same.new hlg (.lst [])
    have flg:H lg = none:=g2.free hlg
    refine ⟨_,rfl,l,rfl,⟨_,SqL.of (g3 _ _ hl)⟩,?_⟩
    refine for_list (xs:=es.map V.ref) (fun m σ H'=>∃ (us:List Addr) (f4:Option V),Same H2 H'∧H' lg = some (.lst (us.map V.ref))∧Paired (RowN lg H H') us (((Bdd.allR i).take m).flatMap fun r=>[r ++ [false],r ++ [true]])∧σ = [some (.int (n:Nat)),some (.ref l),some (.int (0 + (i:Nat))),some (.ref lg),f4])
      ⟨[],_,g3,upd_same,.nil,rfl⟩ ?_ ?_ ?_
    · rintro m σ H' _ ⟨us,f4,g,_⟩
      exact SqL.of (g _ _ hl)
    · rintro m x σ H3 hx ⟨us,f4,g,hL0,hu,rfl⟩
      rw [List.getElem?_map] at hx
      cases hp:es[m]? with
      | none=>rw [hp] at hx; cases hx
      | some p =>
        rw [hp] at hx
        cases hx
        obtain ⟨e,hee,fp,hpt⟩:=pd_at he hp
        have hp2:=g _ _ hpt
        have eln:=Bdd.allR_len i e (List.mem_of_getElem? hee)
        have ul:=pd_len hu
        rw [Bdd.flat2_len _ (fun _=>rfl),List.length_take] at ul
        have gr:Same H3 H3:=Same.refl _
        refine ⟨_,rfl,.inl ⟨rfl,_,SqL.of hL0⟩,?_⟩
        refine ⟨_,rfl,by show 1≤sizeLine; decide,fun a0 ha0=>?_⟩
        have ka0:=Same.new ha0 (.lst [.int 0])
        refine ⟨p,a0,_,_,rfl,rfl,SqL.of ((gr.trans ka0) _ _ hp2),SqL.of upd_same,by rw [List.length_map,eln]; exact Nat.le_trans (show i + 1≤9 by omega) (by decide),fun r0 hr0=>?_⟩
        have nr0:r0≠lg:=Ne.symm (ne_of_none ((gr.trans ka0) _ _ hL0) hr0)
        have fr0:H r0 = none:=(g2.trans (g.trans (gr.trans ka0))).free hr0
        have kb0:=(gr.trans ka0).trans (Same.new hr0 (.lst (rowV e ++ [.int 0])))
        have er0:upd (upd H3 a0 (.lst [.int 0])) r0 (.lst (rowV e ++ [.int 0])) r0 = some (.lst (rowV (e ++ [false]))):=by rw [upd_same]; unfold rowV; rw [List.map_append]; rfl
        generalize upd (upd H3 a0 (.lst [.int 0])) r0 (.lst (rowV e ++ [.int 0])) = Hb0 at kb0 er0
        refine ⟨_,rfl,by show 1≤sizeLine; decide,fun a1 ha1=>?_⟩
        have ka1:=Same.new ha1 (.lst [.int 1])
        refine ⟨p,a1,_,_,rfl,rfl,SqL.of ((kb0.trans ka1) _ _ hp2),SqL.of upd_same,by rw [List.length_map,eln]; exact Nat.le_trans (show i + 1≤9 by omega) (by decide),fun r1 hr1=>?_⟩
        have nr1:r1≠lg:=Ne.symm (ne_of_none ((kb0.trans ka1) _ _ hL0) hr1)
        have fr1:H r1 = none:=(g2.trans (g.trans (kb0.trans ka1))).free hr1
        have kb1:=(kb0.trans ka1).trans (Same.new hr1 (.lst (rowV e ++ [.int 1])))
        have er1:upd (upd Hb0 a1 (.lst [.int 1])) r1 (.lst (rowV e ++ [.int 1])) r1 = some (.lst (rowV (e ++ [true]))):=by rw [upd_same]; unfold rowV; rw [List.map_append]; rfl
        have kbs:Same Hb0 (upd (upd Hb0 a1 (.lst [.int 1])) r1 (.lst (rowV e ++ [.int 1]))):=(Same.new ha1 (.lst [.int 1])).trans (Same.new hr1 (.lst (rowV e ++ [.int 1])))
        generalize upd (upd Hb0 a1 (.lst [.int 1])) r1 (.lst (rowV e ++ [.int 1])) = Hb1 at kb1 er1 kbs
        refine ⟨by show 2≤sizeLine; decide,fun l2 hl2=>?_⟩
        have kc:=kb1.trans (Same.new hl2 (.lst [.ref r0,.ref r1]))
        have hLc:=kc _ _ hL0
        have er0':upd Hb1 l2 (.lst [.ref r0,.ref r1]) r0 = some (.lst (rowV (e ++ [false]))):=(Same.new hl2 _) _ _ (by
          have z:Same Hb0 Hb1:=kbs
          exact z _ _ er0)
        have er1':upd Hb1 l2 (.lst [.ref r0,.ref r1]) r1 = some (.lst (rowV (e ++ [true]))):=(Same.new hl2 _) _ _ er1
        refine ⟨lg,l2,_,_,rfl,rfl,hLc,upd_same,by rw [List.length_map]; exact Nat.le_of_lt (small1000 (by show us.length + 2≤1000; omega)),?_⟩
        refine ⟨us ++ [r0,r1],_,(g.trans kc).over hlg _,by rw [upd_same,List.map_append]; rfl,?_,rfl⟩
        rw [take_next hee,List.flatMap_append]
        exact pd_app (rowsN_upd (rowsN_mono hu kc)) (.cons ⟨fr0,nr0,by rw [upd_ne nr0]; exact er0'⟩ (.cons ⟨fr1,nr1,by rw [upd_ne nr1]; exact er1'⟩ .nil))
    · rintro σ H3 ⟨us,f4,g,hL0,hu,rfl⟩
      rw [List.length_map,el,List.take_length] at hu
      exact ⟨_,rfl,lg,us,_,_,_,g2.trans g,flg,hL0,pd_imp (fun _ _ r=>⟨r.1,r.2.2⟩) hu,rfl⟩
  · rintro σ H2 ⟨l,es,f2,f3,f4,g2,fl,hl,he,rfl⟩
    exact ⟨_,rfl,q l H2 es g2 fl hl he⟩
theorem ok_law_leads (T:Txt P w K mg a) (G_Book_room:FnOk P w K mg base CX0 k a.a_Book_room a.d_Book_room ["self", "number"] (spBookRoom (BookAt a.a_Book))) (G_Book_order:FnOk P w K mg base CX0 k a.a_Book_order a.d_Book_order ["self"] (spBookOrder (BookAt a.a_Book))):FnOk P w K mg base CX0 (k + 1) a.a_x_law_leads a.d_x_law_leads ["book", "room", "row"] (spLawLeads a.a_Book K):=by
  refine T.F_x_law_leads.ok sc_x_law_leads (fun vs H Q E h=>?_) (fun cdv A outer s H vs Q E hr h=>?_)
  · obtain ⟨b,rl,os,rs,F,k0,r,rfl,_⟩:=h
    rfl
  obtain ⟨b,rl,os,rs,F,k0,r,rfl,hB,hk,hR,hrl,q⟩:=h
  refine ⟨_,(pss_cons (ps_while PassesOwn.never (pt_cmpR op_gt (pv 1) pe_int (nomark _)) (pss_cons (ps_asg (pe_meth (pv 0) T.c_Book T.e_Book_room G_Book_room hr T.b_Book_room .nil pass0 (pa_cons (pv 1) pa_nil)) (pg_tup rfl (pgs_cons (pg_name (i:=3) sc_x_law_leads.nd rfl (Or.inl rfl)) (pgs_cons (pg_name (i:=4) sc_x_law_leads.nd rfl (Or.inl rfl)) (pgs_cons (pg_name (i:=5) sc_x_law_leads.nd rfl (Or.inl rfl)) pgs_nil)))))
      (pss_one (ps_set (i:=1) sc_x_law_leads.nd rfl (Or.inl rfl) (pe_ix ix_list (pe_lst (pa_cons (pv 4) (pa_cons (pv 5) pa_nil))) (pe_ix ix_list (pv 2) (pe_bm PySem.F.plainAttrs_list PySem.F.slot_list_index PySem.F.type_list_index mt_index (pe_meth0 (pv 0) T.c_Book T.e_Book_order G_Book_order hr T.b_Book_order .nil pass0) (pa_cons (pv 3) pa_nil)) (fun _ _=>rfl)) (fun _ _=>rfl))))))
      (pss_one (ps_ret (pv 1)))),?_⟩
  have L:=bookLike a.a_Book
  have BK:=L.bk hB
  have ho:=L.ord hB
  refine ⟨fun m σ H'=>∃ (j:Nat) (f3 f4 f5:Option V),m = j∧Same H H'∧j < rs.length∧Bdd.yes rs j (Bdd.rowL r) = Bdd.yes rs k0 (Bdd.rowL r)∧σ = [some (.ref b),some (.int (j:Nat)),some (.ref rl),f3,f4,f5],
    ⟨_,k0,_,_,_,rfl,Same.refl _,hk,rfl,rfl⟩,?_⟩
  rintro j σ H' ⟨_,f3,f4,f5,rfl,g,hj,ey,rfl⟩
  refine ⟨_,rfl,_,_,rfl,rfl,_,rfl,ite2 (fun c=>?_) (fun c=>?_)⟩
  · have c2:2≤j:=by have:=of_decide_eq_true c; omega
    obtain ⟨p,lo,hi',ex,hin,hlo,hhi,hne,l1,l2⟩:=BK.rm j c2 hj
    refine ⟨_,fun σ' H2 h=>h,?_⟩
    have hB2:=L.same hB g
    obtain ⟨dx,fs,hins,hm⟩:=L.ins hB2
    refine ⟨_,rfl,b,dx,fs,rfl,hins,hm _ (by decide +kernel),_,rfl,b,os,rs,F,j,_,rfl,hB2,ex,fun v H3 g3 rv=>?_⟩
    obtain ⟨z,y,rfl,eyy,hp⟩:=rv
    refine ⟨z,_,rfl,SqT.of hp,rfl,_,_,rfl,_,_,rfl,_,_,rfl,rfl,?_⟩
    have g3':=g.trans g3
    obtain ⟨i1,i2,i3⟩:=ix_spec (List.mem_of_getElem? eyy)
    have eix:=ix_at ho.nd eyy
    rw [eix] at i1
    have hpr:p < r.length:=by omega
    refine ⟨_,rfl,_,rfl,by show 2≤sizeLine; decide,fun l4 hl4=>?_⟩
    have g4:=g3'.trans (Same.new hl4 (.lst [.int (lo:Nat),.int (hi':Nat)]))
    have hl4':upd H3 l4 (.lst [.int (lo:Nat),.int (hi':Nat)]) l4 = some (.lst [.int (lo:Nat),.int (hi':Nat)]):=upd_same
    generalize upd H3 l4 (.lst [.int (lo:Nat),.int (hi':Nat)]) = H4 at g4 hl4'
    have hv:(rowV r)[p]? = some (.int ((Bdd.rowL r p).toNat:Nat)):=by
      unfold rowV Bdd.rowL
      rw [List.getElem?_map,List.getElem?_eq_getElem hpr,List.getD_eq_getElem?_getD,List.getElem?_eq_getElem hpr]
      rfl
    have hB4:=L.same hB g4
    obtain ⟨dx4,fs4,hins4,hm4⟩:=L.ins hB4
    refine ⟨_,rfl,_,rfl,b,dx4,fs4,rfl,hins4,hm4 _ (by decide +kernel),b,os,rs,F,rfl,hB4,fun ol H5 g5 hol0 hol=>?_⟩
    refine ⟨.inl ⟨rfl,_,SqL.of hol⟩,_,rfl,ol,_,.str y,_,rfl,rfl,SqL.of hol,rfl,flat_strs _,i1,rl,_,_,_,rfl,rfl,(g4.trans g5).seq hR,atI_nat hv,?_⟩
    have ys:=Bdd.yes_step BK ex (Bdd.rowL r)
    have hn:(if Bdd.rowL r p then hi' else lo) < j:=by split <;> assumption
    refine ⟨l4,_,_,.int ((if Bdd.rowL r p then hi' else lo:Nat):Int),rfl,rfl,SqL.of (g5 _ _ hl4'),?_,?_⟩
    · cases Bdd.rowL r p <;> rfl
    refine ⟨_,hn,_,_,_,_,rfl,g4.trans g5,by omega,?_,rfl⟩
    rw [← ey,ys]
    cases Bdd.rowL r p <;> rfl
  · refine ⟨_,rfl,?_⟩
    have c2:j = 0∨j = 1:=by have:¬ (1:Int) < (j:Nat):=fun h=>c (decide_eq_true h); omega
    have e:(j:Nat) = (Bdd.yes rs k0 (Bdd.rowL r)).toNat:=by
      rw [← ey]
      rcases c2 with e | e <;> subst e
      · rfl
      · rw [Bdd.yes_yes BK]; rfl
    rw [e]
    exact q H' g
end
end K51
namespace K51
open PySem L2 Sen
section
variable {P:Program} {w:World} {K:PySem.W.Frag} {mg:Str→Option Value} {base:Heap} {a:Ad} {k:Nat}
theorem ok_room_inH (T:Txt P w K mg a)
    (G_Book_room:FnOk P w K mg base CX0 k a.a_Book_room a.d_Book_room ["self", "number"] (spBookRoom (BookAt a.a_Book)))
    (G_Book_order:FnOk P w K mg base CX0 k a.a_Book_order a.d_Book_order ["self"] (spBookOrder (BookAt a.a_Book)))
    (G_rows_with:FnOk P w K mg base CX0 k a.a_rows_with a.d_rows_with ["place", "marks"] spRowsWith)
    (G_chosen:FnOk P w K mg base CX0 k a.a_chosen a.d_chosen ["where", "low", "high"] spChosen)
    (G_Book_table_at:FnOk P w K mg base CX0 k a.a_Book_table_at a.d_Book_table_at ["self", "number"] (spTableAt a.a_Book))
    (G_Book_room_with:FnOk P w K mg base CX0 k a.a_Book_room_with a.d_Book_room_with ["self", "table"] (spRoomWithH a.a_Book 9)):FnOk P w K mg base CX0 (k + 1) a.a_room_in a.d_room_in ["new", "book", "number", "known"] (spRoomInH a.a_Book):=by
  refine T.F_room_in.ok sc_room_in (fun vs H Q E h=>?_) (fun cdv A outer s H vs Q E hr h=>?_)
  · obtain ⟨nb,b,kd,os,ps,ns,rs,G,F,j,x,kvs,rfl,_⟩:=h
    rfl
  obtain ⟨nb,b,kd,os,ps,ns,rs,G,F,j,x,kvs,rfl,hN,hB,mk,hlen,hx,hkd,hg,q⟩:=h
  refine ⟨_,(pss_cons (ps_set (i:=4) sc_room_in.nd rfl (Or.inl rfl) (pe_meth (pv 1) T.c_Book T.e_Book_room G_Book_room hr T.b_Book_room .nil pass0 (pa_cons (pv 2) pa_nil)))
      (pss_cons (ps_if (pt_cmpR op_isN (pv 4) pe_non (nomark _)) (pss_one (ps_ret (pv 2))) pss_nil)
      (pss_cons (ps_set (i:=5) sc_room_in.nd rfl (Or.inl rfl) (pe_meth0 (pv 0) T.c_Book T.e_Book_order G_Book_order hr T.b_Book_order .nil pass0))
      (pss_cons (ps_set (i:=6) sc_room_in.nd rfl (Or.inl rfl) (pe_call G_rows_with hr rfl T.m_rows_with T.F_rows_with.2 T.b_rows_with .nil pass0 (pa_cons (pe_bm PySem.F.plainAttrs_list PySem.F.slot_list_index PySem.F.type_list_index mt_index (pv 5) (pa_cons (pe_ix ix_tup (pv 4) pe_int (fun _ _=>rfl)) pa_nil)) (pa_cons (pe_callB call_len_seq rfl T.n_len bt_len (pa_cons (pv 5) pa_nil)) pa_nil))))
      (pss_one (ps_ret (pe_meth (pv 0) T.c_Book T.e_Book_room_with G_Book_room_with hr T.b_Book_room_with .nil pass0 (pa_cons (pe_call G_chosen hr rfl T.m_chosen T.F_chosen.2 T.b_chosen .nil pass0 (pa_cons (pv 6) (pa_cons (pe_meth (pv 0) T.c_Book T.e_Book_table_at G_Book_table_at hr T.b_Book_table_at .nil pass0 (pa_cons (pe_dget (hu_of hr) (pv 3) (pe_ix ix_tup (pv 4) pe_int (fun _ _=>rfl)) (fun _ _=>rfl)) pa_nil)) (pa_cons (pe_meth (pv 0) T.c_Book T.e_Book_table_at G_Book_table_at hr T.b_Book_table_at .nil pass0 (pa_cons (pe_dget (hu_of hr) (pv 3) (pe_ix ix_tup (pv 4) pe_int (fun _ _=>rfl)) (fun _ _=>rfl)) pa_nil)) pa_nil)))) pa_nil)))))))),?_⟩
  have L:=bookLike a.a_Book
  have BK:=L.bk hB
  have NK:=L.bk hN
  have n8:=(L.ord hN).le
  obtain ⟨dx,fs,hins,hm⟩:=L.ins hB
  refine ⟨_,rfl,b,dx,_,rfl,hins,hm _ (by decide +kernel),_,rfl,b,os,rs,F,j,x,rfl,hB,hx,fun v H1 g1 rv=>?_⟩
  cases x with
  | none =>
    have hv:v = .non:=rv
    subst hv
    refine ⟨_,rfl,rfl,_,rfl,iteT ?_⟩
    refine ⟨_,rfl,?_⟩
    have l2:=Bdd.len2 NK
    rcases bk_none BK hx with z | z <;> subst z
    · exact q 0 ns H1 (Away.of_same g1) (Tups.of g1) (L.same hN g1) (.refl _) ⟨by omega,fun r=>rfl⟩ (by omega)
    · exact q 1 ns H1 (Away.of_same g1) (Tups.of g1) (L.same hN g1) (.refl _) ⟨by omega,fun r=>(Bdd.yes_yes NK r).trans (Bdd.yes_yes BK _).symm⟩ (by omega)
  | some t =>
    obtain ⟨i,lo,hi⟩:=t
    obtain ⟨p,y,rfl,hy,hp⟩:=rv
    refine ⟨_,rfl,rfl,_,rfl,iteF ?_⟩
    have hN1:=L.same hN g1
    obtain ⟨dn,ml,rl,tl,nd,rv,ts,kv2,h⟩:=hN1
    have hN1:BookAt a.a_Book H1 nb ps ns G:=⟨dn,ml,rl,tl,nd,rv,ts,kv2,h⟩
    obtain ⟨jl,jh,v1,v2,m1,m2⟩:=hg i lo hi rfl
    have hyo:y∈os:=List.mem_of_getElem? hy
    have hyp:y∈ps:=(mk.mem y).mp hyo
    obtain ⟨i1,i2,i3⟩:=ix_spec hyp
    refine ⟨_,rfl,nb,dn,_,rfl,h.hb,rfl,nb,ps,ns,G,rfl,hN1,fun ol H2 g2 fo ho=>?_⟩
    have hp2:=g2 _ _ hp
    have g12:=g1.trans g2
    have hN2:=L.same hN g12
    have hkd2:=g12 _ _ hkd
    refine ⟨_,rfl,.inl ⟨rfl,_,SqL.of ho⟩,_,rfl,p,_,_,_,rfl,rfl,SqT.of hp2,rfl,ol,_,_,_,rfl,rfl,SqL.of ho,rfl,flat_strs _,i1,?_⟩
    refine ⟨_,rfl,ol,_,rfl,.inl (SqL.of ho),?_⟩
    refine ⟨ix ps y,ps.length,by rw [List.length_map]; rfl,i2,n8,fun W tw=>?_⟩
    have z1:=DGet.k (k:=Sum.inl (lo:Int)) hkd2
    rw [v1] at z1
    have z2:=DGet.k (k:=Sum.inl (hi:Int)) hkd2
    rw [v2] at z2
    have hb2:=g2 _ _ h.hb
    refine ⟨_,rfl,nb,dn,_,rfl,hb2,rfl,_,rfl,_,rfl,nb,dn,_,rfl,hb2,rfl,_,rfl,_,rfl,p,_,_,_,rfl,rfl,SqT.of hp2,rfl,kd,_,rfl,z1,?_⟩
    refine ⟨nb,ps,ns,G,jl,rfl,hN2,m1.1,fun t1 tb1=>?_⟩
    refine ⟨_,rfl,nb,dn,_,rfl,hb2,rfl,_,rfl,_,rfl,p,_,_,_,rfl,rfl,SqT.of hp2,rfl,kd,_,rfl,z2,?_⟩
    refine ⟨nb,ps,ns,G,jh,rfl,hN2,m2.1,fun t2 tb2=>?_⟩
    refine ⟨W,t1,t2,ps.length,_,_,_,rfl,tw,tb1,tb2,fun R tr=>?_⟩
    refine ⟨nb,ps,ns,G,R,0,_,rfl,hN2,by show ns.length + 512≤9000000; omega,Nat.zero_le _,by omega,tr,fun i hi=>absurd hi (Nat.not_lt_zero _),fun j' ns' H' aw tu hB' gr lt y' ln _ hh=>?_⟩
    refine q j' ns' H' (fun x o e nf=>aw x o (g12 _ _ e) nf) (fun x xs e=>tu _ _ (g12 _ _ e)) hB' gr ⟨lt,fun r=>?_⟩ (Nat.le_trans hh (Nat.add_le_add_left (Bdd.bH_8 n8) _))
    have e1:trn os ps r i = r (ix ps y):=by
      unfold trn
      rw [List.getD_eq_getElem?_getD,hy]
      rfl
    rw [y']
    show (if (Bdd.bits r ps.length).testBit (ix ps y) then Bdd.yes ns jh (Bdd.rowN (Bdd.bits r ps.length)) else Bdd.yes ns jl (Bdd.rowN (Bdd.bits r ps.length))) = Bdd.yes rs j (trn os ps r)
    rw [Bdd.yes_step BK hx,Bdd.bits_bit r i2,yes_at NK m1,yes_at NK m2,e1]
theorem ok_rooms_inH (T:Txt P w K mg a)
    (G_room_in:FnOk P w K mg base CX0 k a.a_room_in a.d_room_in ["new", "book", "number", "known"] (spRoomInH a.a_Book)):FnOk P w K mg base CX0 (k + 1) a.a_rooms_in a.d_rooms_in ["new", "book", "rooms"] (spRoomsInH a.a_Book):=by
  refine T.F_rooms_in.ok sc_rooms_in (fun vs H Q E h=>?_) (fun cdv A outer s H vs Q E hr h=>?_)
  · obtain ⟨nb,b,rl,os,ps,ns,rs,G,F,ks,rfl,_⟩:=h
    rfl
  obtain ⟨nb,b,rl,os,ps,ns,rs,G,F,ks,rfl,hN,hB,mk,dj,hrl,nrl,rise,hlen,q⟩:=h
  refine ⟨_,(pss_cons (ps_set (i:=3) sc_rooms_in.nd rfl (Or.inl rfl) pe_dnewK)
      (pss_cons (ps_for PassesOwn.never rfl (pi_list (pv 2)) (pg_name (i:=4) sc_rooms_in.nd rfl (Or.inl rfl)) (pss_one (ps_dput (hu_of hr) (pv 3) (pv 4) (pe_call G_room_in hr rfl T.m_room_in T.F_room_in.2 T.b_room_in .nil pass0 (pa_cons (pv 0) (pa_cons (pv 1) (pa_cons (pv 4) (pa_cons (pv 3) pa_nil))))) rfl)))
      (pss_one (ps_ret (pe_listVals rfl rfl T.n_list (pv 3)))))),?_⟩
  have L:=bookLike a.a_Book
  refine fun kd hkd=>?_
  have g0:=Same.new hkd (.dK [])
  have nk:¬ G kd:=L.fresh hN hkd
  have nfk:¬ F kd:=L.fresh hB hkd
  refine ⟨_,rfl,rl,rfl,⟨_,SqL.of (g0 _ _ hrl)⟩,?_⟩
  refine for_list (xs:=ks.map fun k=>V.int (k:Nat)) (fun i σ H'=>∃ (ns':List Bdd.Rm) (js:List Nat) (kvs:List (Key × V)) (f4:Option V),Away G H H'∧Tups H H'∧BookAt a.a_Book H' nb ps ns' G∧Bdd.Grown ns ns'∧Bdd.hiN ps.length ns'≤Bdd.hiN ps.length ns + 63 * i∧H' kd = some (.dK kvs)∧js.length = i∧KsJs (ks.take i) js kvs ∧
      (∀ (m k j:Nat),(ks.take i)[m]? = some k→js[m]? = some j→Bdd.Means ns' j (fun r=>Bdd.yes rs k (trn os ps r)))∧σ = [some (.ref nb),some (.ref b),some (.ref rl),some (.ref kd),f4])
    ⟨ns,[],[],_,Away.of_same g0,Tups.of g0,L.same hN g0,.refl _,by omega,upd_same,rfl,KsJs.nil,fun m k j h=>by simp at h,rfl⟩ ?_ ?_ ?_
  · rintro i σ H' _ ⟨ns',js,kvs,f4,aw,_⟩
    exact SqL.of (aw _ _ hrl nrl)
  · rintro i x σ H' hx ⟨ns',js,kvs,f4,aw,tu,hN',gr,ln,hk',jl,kj,ms,rfl⟩
    rw [List.getElem?_map] at hx
    cases hp:ks[i]? with
    | none=>rw [hp] at hx; cases hx
    | some p =>
      rw [hp] at hx
      cases hx
      obtain ⟨lt,ei⟩:=List.getElem?_eq_some_iff.mp hp
      obtain ⟨pl,pg⟩:=rise.2 i p hp
      have hB':BookAt a.a_Book H' b os rs F:=L.frame hB (fun x o e hf=>aw x o e (dj x hf)) tu
      have tl:(ks.take i).length = i:=by rw [List.length_take]; omega
      refine ⟨_,rfl,_,rfl,_,rfl,_,rfl,nb,b,kd,os,ps,ns',rs,G,F,p,rs[p],kvs,rfl,hN',hB',mk,?_,List.getElem?_eq_getElem pl,hk',fun pi lo hi e=>?_,fun j ns2 H2 aw2 tu2 hN2 gr2 me ln2=>?_⟩
      · have:63 * i≤63 * ks.length:=Nat.mul_le_mul_left _ (by omega)
        have:=Bdd.hi_len (L.bk hN')
        omega
      · obtain ⟨c1,c2⟩:=pg pi lo hi (by rw [List.getElem?_eq_getElem pl,e])
        obtain ⟨m1,j1,a1,a2,a3⟩:=kj.at (jl.trans tl.symm) c1
        obtain ⟨m2,j2,b1,b2,b3⟩:=kj.at (jl.trans tl.symm) c2
        exact ⟨j1,j2,a3,b3,ms m1 lo j1 a1 a2,ms m2 hi j2 b1 b2⟩
      · have hk2:=aw2 _ _ hk' nk
        refine ⟨_,rfl,_,rfl,kd,_,rfl,DPut.k (k:=Sum.inl (p:Int)) hk2 ?_,?_⟩
        · have:=kj.len
          have:kvs.length≤ks.length:=by rw [this,tl]; omega
          have:63 * ks.length≤8000000:=by omega
          exact Nat.lt_of_lt_of_le (show kvs.length < 1000000 by omega) (by decide)
        have u2:Away G H (upd H2 kd (.dK (putK kvs (Sum.inl (p:Int)) (.int (j:Nat))))):=fun x o e nx=>by
          have z:=aw2 x o (aw x o e nx) nx
          rw [upd_ne (fun y=>by rw [y,hkd] at e; cases e)]
          exact z
        have np:p ∉ ks.take i:=not_mem_take rise.1 hp
        refine ⟨ns2,js ++ [j],putK kvs (Sum.inl (p:Int)) (.int (j:Nat)),some (.int (p:Nat)),u2,fun x xs e=>?_,?_,gr.trans gr2,by rw [Nat.mul_succ]; omega,upd_same,by rw [List.length_append,jl]; rfl,?_,?_,rfl⟩
        · have z:=tu2 _ _ (tu _ _ e)
          rw [upd_ne (fun y=>by rw [y,hkd] at e; cases e)]
          exact z
        · refine L.frame hN2 (fun x o e hx=>?_) (fun x xs e=>?_)
          · rw [upd_ne (fun y:x = kd=>nk (y ▸ hx))]; exact e
          · rw [upd_ne (fun y=>by rw [y,hk2] at e; cases e)]; exact e
        · rw [List.take_succ,hp]
          exact kj.snoc (jl.trans tl.symm) np
        · intro m k j' hm hj
          rw [List.take_succ,hp] at hm
          by_cases hmi:m < i
          · rw [show (some p).toList = [p] from rfl,List.getElem?_append_left (by omega)] at hm
            rw [List.getElem?_append_left (by omega)] at hj
            exact (ms m k j' hm hj).grown (L.bk hN') gr2
          · have hml:=(List.getElem?_eq_some_iff.mp hj).1
            rw [List.length_append,List.length_singleton] at hml
            have em:m = i:=by omega
            subst em
            rw [show (some p).toList = [p] from rfl,List.getElem?_append_right (by omega),tl,Nat.sub_self] at hm
            rw [List.getElem?_append_right (by omega),jl,Nat.sub_self] at hj
            cases hm
            cases hj
            exact me
  · rintro σ H' ⟨ns',js,kvs,f4,aw,tu,hN',gr,ln,hk',jl,kj,ms,rfl⟩
    rw [List.length_map] at ln jl kj ms
    rw [List.take_length] at kj ms
    refine ⟨_,rfl,kd,kvs,rfl,hk',fun l hl=>?_⟩
    have g3:=Same.new hl (.lst (kvs.map (·.2)))
    have fl:H l = none:=by
      cases e:H l with
      | none=>rfl
      | some o =>
        by_cases gl:G l
        · exact absurd hl (L.there hN' gl)
        · rw [aw l o e gl] at hl; cases hl
    refine q l _ ns' js (fun x o e nx=>g3 _ _ (aw x o e nx)) (fun x xs e=>g3 _ _ (tu _ _ e)) (L.same hN' g3) gr fl ?_ jl ms ln
    rw [upd_same,kj.vals jl]
theorem ok_reorderedH (T:Txt P w K mg a)
    (G_Book_order:FnOk P w K mg base CX0 (k + 1) a.a_Book_order a.d_Book_order ["self"] (spBookOrder (BookAt a.a_Book)))
    (G_Book_size:FnOk P w K mg base CX0 (k + 1) a.a_Book_size a.d_Book_size ["self"] (spBookSize (BookAt a.a_Book)))
    (G_Book_init:FnOk P w K mg base CX0 k a.a_Book_init a.d_Book_init ["self", "order"] (spBookInit (BookAt a.a_Book) K a.a_Book))
    (G_rooms_in:FnOk P w K mg base CX0 (k + 1) a.a_rooms_in a.d_rooms_in ["new", "book", "rooms"] (spRoomsInH a.a_Book)):FnOk P w K mg base CX0 (k + 2) a.a_reordered a.d_reordered ["book", "order"] (spReorderedH a.a_Book K):=by
  refine T.F_reordered.ok sc_reordered (fun vs H Q E h=>?_) (fun cdv A outer s H vs Q E hr h=>?_)
  · obtain ⟨b,ol,os,ps,rs,F,rfl,_⟩:=h
    rfl
  obtain ⟨b,ol,os,ps,rs,F,rfl,hB,hO,ho,mk,hlen,q⟩:=h
  refine ⟨_,(pss_cons (ps_if (pt_cmpR (op_neD rfl (hu8 hr)) (pe_callB (call_sorted_strs (K:=K) rfl) rfl T.n_sorted bt_sorted (pa_cons (pv 1) pa_nil)) (pe_callB (call_sorted_strs (K:=K) rfl) rfl T.n_sorted bt_sorted (pa_cons (pe_meth0 (pv 0) T.c_Book T.e_Book_order G_Book_order hr T.b_Book_order .nil pass0) pa_nil)) (nomark _)) (pss_one ps_never) pss_nil)
      (pss_cons (ps_set (i:=2) sc_reordered.nd rfl (Or.inl rfl) (pe_make T.mk_Book G_Book_init hr rfl T.m_Book T.b_Book_init .nil pass0 (pa_cons (pv 1) pa_nil)))
      (pss_one (ps_ret (pe_tup (pa_cons (pv 2) (pa_cons (pe_call G_rooms_in hr rfl T.m_rooms_in T.F_rooms_in.2 T.b_rooms_in .nil pass0 (pa_cons (pv 2) (pa_cons (pv 0) (pa_cons (pe_listRange rfl rfl T.n_list rfl T.n_range (pa_cons (pe_meth0 (pv 0) T.c_Book T.e_Book_size G_Book_size hr T.b_Book_size .nil pass0) pa_nil)) pa_nil)))) pa_nil))))))),?_⟩
  have L:=bookLike a.a_Book
  have BK:=L.bk hB
  have ob:=L.ord hB
  have p8:=ho.le
  have b8:=ob.le
  refine ⟨_,rfl,ol,ps,rfl,hO,by omega,fun l1 m1 hl1 pm1 so1=>?_⟩
  have g1:=Same.new hl1 (.lst (m1.map V.str))
  have hB1:=L.same hB g1
  obtain ⟨dx,fs,hins,hm⟩:=L.ins hB1
  refine ⟨_,rfl,b,dx,_,rfl,hins,hm _ (by decide +kernel),b,os,rs,F,rfl,hB1,fun l2 H2 g2 fl2 hl2=>?_⟩
  refine ⟨l2,os,rfl,SqL.of hl2,by omega,fun l3 m3 hl3 pm3 so3=>?_⟩
  have g3:=Same.new hl3 (.lst (m3.map V.str))
  have em:m1 = m3:=sorted_eq (fun x hx=>ho.mem x (pm1.mem_iff.mp hx)) (pm1.trans ((mk.perm ob.nd ho.nd).symm.trans pm3.symm)) so1 so3
  subst em
  have e1:upd H2 l3 (.lst (m1.map V.str)) l1 = some (.lst (m1.map V.str)):=g3 _ _ (g2 _ _ upd_same)
  refine ⟨true,fun z=>absurd z.1 Bool.false_ne_true,eq_ll (SqL.of e1) (SqL.of upd_same) rfl (fun j x y hx hy=>?_),_,rfl,iteF ?_⟩
  · rw [hx] at hy
    cases hy
    refine eq_flat ?_
    rw [List.getElem?_map] at hx
    cases hz:m1[j]? with
    | none=>rw [hz] at hx; cases hx
    | some z=>rw [hz] at hx; cases hx; rfl
  have g4:=(g1.trans g2).trans g3
  generalize upd H2 l3 (.lst (m1.map V.str)) = H4 at g4
  have hO4:=g4.seq hO
  refine ⟨_,rfl,fun nb dn hnb hdn hne=>⟨nb,dn,ol,ps,rfl,upd_same,Ne.symm hne,?_,ho,fun H5 G keep hN hG=>⟨rfl,?_⟩⟩⟩
  · exact ((Same.new hdn _).trans (same_upd2 hdn hnb hne)).seq hO4
  have g5:Same H4 H5:=fun x o e=>keep x o (by rw [upd_ne (ne_of_none e hnb),upd_ne (ne_of_none e hdn)]; exact e) (ne_of_none e hnb)
  have hG4:∀ x,G x→H4 x = none:=fun x hx=>by
    rcases hG x hx with z | z | z
    · rw [z]; exact hnb
    · rw [z]; exact hdn
    · by_cases e1:x = nb
      · rw [e1] at z; rw [upd_same] at z; cases z
      · by_cases e2:x = dn
        · rw [e2,upd_ne hne,upd_same] at z; cases z
        · rw [upd_ne e1,upd_ne e2] at z; exact z
  have g45:=g4.trans g5
  have hB5:=L.same hB g45
  obtain ⟨dx5,fs5,hins5,hm5⟩:=L.ins hB5
  refine ⟨_,rfl,_,rfl,_,rfl,_,rfl,b,dx5,_,rfl,hins5,hm5 _ (by decide +kernel),b,os,rs,F,rfl,hB5,fun H6 g6=>?_⟩
  refine ⟨rs.length,rfl,by omega,fun rl hrl=>?_⟩
  have g7:=Same.new hrl (.lst (natsV rs.length))
  have g67:=g6.trans g7
  have hN7:=L.same hN g67
  have hB7:=L.same hB5 g67
  have dj:∀ x,F x→¬ G x:=fun x hf hg=>L.there hB hf (g4.free (hG4 x hg))
  refine ⟨nb,b,rl,os,ps,[none,none],rs,G,F,List.range rs.length,rfl,hN7,hB7,mk,dj,upd_same,?_,rises_range BK,?_,fun l H8 ns js aw tu hN8 gr fl hl jl ms ln=>?_⟩
  · exact fun hg=>L.there hN hg (g6.free hrl)
  · rw [List.length_range]; show 0 + 63 * rs.length + 16≤8000000; omega
  rw [List.length_range] at jl ln
  have ln:Bdd.hiN ps.length ns≤63 * rs.length:=Nat.le_trans ln (by show 0 + 63 * rs.length≤_; omega)
  refine ⟨by show 2≤sizeLine; decide,fun t ht=>?_⟩
  have g9:=Same.new ht (.tup [.ref nb,.ref l])
  have S8:Same H H8:=fun x o e=>aw x o (g67 _ _ (g45 _ _ e)) fun hg=>by
    have:=hG4 x hg
    rw [g4 _ _ e] at this; cases this
  refine q t nb l _ ns G js (S8.trans g9) (S8.free ht) upd_same (L.same hN8 g9) (fun x hx=>g4.free (hG4 x hx)) ((g45.trans g67).free fl) (fun hg=>L.there hN7 hg fl) (g9 _ _ hl) jl (fun k j hj=>?_) ln
  have hk:k < rs.length:=by have:=(List.getElem?_eq_some_iff.mp hj).1; omega
  exact ms k k j (by rw [List.getElem?_range hk]) hj
theorem ok_exchanged (T:Txt P w K mg a)
    (G_Book_order:FnOk P w K mg base CX0 k a.a_Book_order a.d_Book_order ["self"] (spBookOrder (BookAt a.a_Book)))
    (G_reordered:FnOk P w K mg base CX0 k a.a_reordered a.d_reordered ["book", "order"] (spReorderedH a.a_Book K)):FnOk P w K mg base CX0 (k + 1) a.a_exchanged a.d_exchanged ["book", "at"] (spExchanged a.a_Book):=by
  refine T.F_exchanged.ok sc_exchanged (fun vs H Q E h=>?_) (fun cdv A outer s H vs Q E hr h=>?_)
  · obtain ⟨b,us,vs,x,y,rs,F,rfl,_⟩:=h
    rfl
  obtain ⟨b,us,vs,x,y,rs,F,rfl,hB,hlen,q⟩:=h
  refine ⟨_,(pss_cons (ps_set (i:=2) sc_exchanged.nd rfl (Or.inl rfl) (pe_meth0 (pv 0) T.c_Book T.e_Book_order G_Book_order hr T.b_Book_order .nil pass0))
      (pss_cons (ps_if (PW.pt (pw_or (pt_cmpR op_lt (pv 1) pe_int (nomark _)) (pw_or1 (pt_cmpR op_ge (pe_op op_add (pv 1) pe_int) (pe_callB call_len_seq rfl T.n_len bt_len (pa_cons (pv 2) pa_nil)) (nomark _))))) (pss_one ps_never) pss_nil)
      (pss_one (ps_ret (pe_call G_reordered hr rfl T.m_reordered T.F_reordered.2 T.b_reordered .nil pass0 (pa_cons (pv 0) (pa_cons (pe_op op_addL (pe_op op_addL (pe_slice sl_list (pv 2) po_none (po_some (pv 1))) (pe_lst (pa_cons (pe_ix ix_list (pv 2) (pe_op op_add (pv 1) pe_int) (fun _ _=>rfl)) (pa_cons (pe_ix ix_list (pv 2) (pv 1) (fun _ _=>rfl)) pa_nil)))) (pe_slice sl_list (pv 2) (po_some (pe_op op_add (pv 1) pe_int)) po_none)) pa_nil))))))),?_⟩
  have L:=bookLike a.a_Book
  have ob:=L.ord hB
  have b8:=ob.le
  have ll:(us ++ x :: y :: vs).length = us.length + (vs.length + 1 + 1):=by rw [List.length_append,List.length_cons,List.length_cons]
  obtain ⟨dx,fs,hins,hm⟩:=L.ins hB
  refine ⟨_,rfl,b,dx,_,rfl,hins,hm _ (by decide +kernel),b,_,rs,F,rfl,hB,fun l1 H1 g1 fl1 hl1=>?_⟩
  have lm:((us ++ x :: y :: vs).map V.str).length = us.length + (vs.length + 1 + 1):=by rw [List.length_map,ll]
  refine ⟨_,rfl,_,_,rfl,rfl,_,rfl,ite2 (fun c=>absurd (of_decide_eq_true c) (by omega)) (fun _=>?_)⟩
  refine ⟨_,rfl,_,_,rfl,rfl,_,rfl,l1,_,rfl,.inl (SqL.of hl1),_,_,rfl,rfl,_,rfl,ite2 (fun c=>absurd (of_decide_eq_true c) (by rw [lm]; omega)) (fun _=>?_)⟩
  refine ⟨_,rfl,_,rfl,_,rfl,_,rfl,l1,_,rfl,SqL.of hl1,fun s1 hs1=>?_⟩
  have e1:cutV ((us ++ x :: y :: vs).map V.str) none (some ((us.length:Nat):Int)) = us.map V.str:=by
    unfold cutV
    rw [HT.sIx_none,HT.sIx_nat,List.drop_zero,lm,Nat.sub_zero,Nat.min_eq_left (by omega),List.map_append,List.take_append_of_le_length (by rw [List.length_map]; exact Nat.le_refl _),List.take_of_length_le (by rw [List.length_map]; exact Nat.le_refl _)]
  rw [e1]
  have g2:=Same.new hs1 (.lst (us.map V.str))
  have hs2:upd H1 s1 (.lst (us.map V.str)) s1 = some (.lst (us.map V.str)):=upd_same
  have hl2:=g2 _ _ hl1
  have G2:=g1.trans g2
  generalize upd H1 s1 (.lst (us.map V.str)) = H2 at g2 hs2 hl2 G2
  refine ⟨_,rfl,_,rfl,_,_,rfl,rfl,l1,_,_,.str y,rfl,rfl,SqL.of hl2,?_,?_⟩
  · have e:((us.length:Nat):Int) + 1 = ((us.length + 1:Nat):Int):=by omega
    rw [e]
    exact atI_nat (by rw [List.getElem?_map,ex_b]; rfl)
  refine ⟨_,rfl,_,rfl,l1,_,_,.str x,rfl,rfl,SqL.of hl2,atI_nat (by rw [List.getElem?_map,ex_a]; rfl),by show 2≤sizeLine; decide,fun s3 hs3=>?_⟩
  have g3:=Same.new hs3 (.lst [.str y,.str x])
  have hs33:upd H2 s3 (.lst [.str y,.str x]) s3 = some (.lst [.str y,.str x]):=upd_same
  have hs23:=g3 _ _ hs2
  have hl3:=g3 _ _ hl2
  have G3:=G2.trans g3
  generalize upd H2 s3 (.lst [.str y,.str x]) = H3 at hs33 hs23 hl3 G3
  refine ⟨s1,s3,_,_,rfl,rfl,SqL.of hs23,SqL.of hs33,Nat.le_of_lt (small1000 (by rw [List.length_map]; show us.length + 2≤1000; omega)),fun s4 hs4=>?_⟩
  have g4:=Same.new hs4 (.lst (us.map V.str ++ [.str y,.str x]))
  have hs44:upd H3 s4 (.lst (us.map V.str ++ [.str y,.str x])) s4 = some (.lst (us.map V.str ++ [.str y,.str x])):=upd_same
  have hl4:=g4 _ _ hl3
  have G4:=G3.trans g4
  generalize upd H3 s4 (.lst (us.map V.str ++ [.str y,.str x])) = H4 at hs44 hl4 G4
  refine ⟨_,rfl,_,rfl,_,_,rfl,rfl,_,rfl,l1,_,rfl,SqL.of hl4,fun s5 hs5=>?_⟩
  have e5:cutV ((us ++ x :: y :: vs).map V.str) (some (((us.length:Nat):Int) + 2)) none = vs.map V.str:=by
    have e:((us.length:Nat):Int) + 2 = ((us.length + 2:Nat):Int):=by omega
    have em:(us ++ x :: y :: vs).map V.str = (us.map V.str ++ [.str x,.str y]) ++ vs.map V.str:=by simp
    unfold cutV
    rw [e,HT.sIx_none,HT.sIx_nat,lm,Nat.min_eq_left (by omega),em,List.drop_left' (by simp),List.take_of_length_le (by rw [List.length_map]; omega)]
  rw [e5]
  have g5:=Same.new hs5 (.lst (vs.map V.str))
  have hs55:upd H4 s5 (.lst (vs.map V.str)) s5 = some (.lst (vs.map V.str)):=upd_same
  have hs45:=g5 _ _ hs44
  have G5:=G4.trans g5
  generalize upd H4 s5 (.lst (vs.map V.str)) = H5 at hs55 hs45 G5
  refine ⟨s4,s5,_,_,rfl,rfl,SqL.of hs45,SqL.of hs55,Nat.le_of_lt (small1000 (by rw [List.length_append,List.length_map,List.length_map]; show us.length + 2 + vs.length≤1000; omega)),fun s6 hs6=>?_⟩
  have e6:us.map V.str ++ [.str y,.str x] ++ vs.map V.str = (us ++ y :: x :: vs).map V.str:=by simp
  rw [e6]
  have g6:=Same.new hs6 (.lst ((us ++ y :: x :: vs).map V.str))
  have hs66:upd H5 s6 (.lst ((us ++ y :: x :: vs).map V.str)) s6 = some (.lst ((us ++ y :: x :: vs).map V.str)):=upd_same
  have G6:=G5.trans g6
  generalize upd H5 s6 (.lst ((us ++ y :: x :: vs).map V.str)) = H6 at hs66 G6
  exact ⟨b,s6,_,_,rs,F,rfl,L.same hB G6,SqL.of hs66,ex_ord ob,ex_marks,hlen,fun t nb l H' ns G js g ft ht hN hG fl nl hl lj mj hi=>q t nb l H' ns G js (G6.trans g) (G6.free ft) ht hN (fun z hz=>G6.free (hG z hz)) (G6.free fl) nl hl lj mj hi⟩
end
end K51
namespace K51
open PySem L2 Sen
section
variable {P:Program} {w:World} {K:PySem.W.Frag} {mg:Str→Option Value} {base:Heap} {a:Ad} {k:Nat}
theorem ok_law_which (T:Txt P w K mg a) (ex:Addr):FnOkH P w K mg base ex (k + 1) a.a_x_law_which a.d_x_law_which ["e"] (spWhichB K a.a_BookError [a.a_NoOrder,a.a_NoMark,a.a_NoRoom,a.a_NoRow,a.a_NoNumber,a.a_NoWeights,a.a_NoShares,a.a_NoCover,a.a_TooGreat] ex):=by
  refine T.F_x_law_which.okH sc_x_law_which (fun vs H Q E h=>?_) (fun cdv A outer s H vs Q E hr hh h=>?_)
  · obtain ⟨D,n,rfl,_⟩:=h
    rfl
  obtain ⟨D,n,rfl,he,xc,hn9,hcs,q⟩:=h
  refine ⟨_,(pss_cons (ps_set (i:=1) sc_x_law_which.nd rfl (Or.inr rfl) (pe_lst (pa_cons (pe_callB (call_isiX (K:=K) rfl) rfl T.n_isinstance bt_isinstance (pa_cons (pv 0) (pa_cons (pe_glob (v:=.ref a.a_NoOrder) rfl T.m_NoOrder rfl) pa_nil))) (pa_cons (pe_callB (call_isiX (K:=K) rfl) rfl T.n_isinstance bt_isinstance (pa_cons (pv 0) (pa_cons (pe_glob (v:=.ref a.a_NoMark) rfl T.m_NoMark rfl) pa_nil))) (pa_cons (pe_callB (call_isiX (K:=K) rfl) rfl T.n_isinstance bt_isinstance (pa_cons (pv 0) (pa_cons (pe_glob (v:=.ref a.a_NoRoom) rfl T.m_NoRoom rfl) pa_nil))) (pa_cons (pe_callB (call_isiX (K:=K) rfl) rfl T.n_isinstance bt_isinstance (pa_cons (pv 0) (pa_cons (pe_glob (v:=.ref a.a_NoRow) rfl T.m_NoRow rfl) pa_nil))) pa_nil))))))
      (pss_cons (ps_set (i:=1) sc_x_law_which.nd rfl (Or.inr rfl) (pe_op op_addL (pv 1) (pe_lst (pa_cons (pe_callB (call_isiX (K:=K) rfl) rfl T.n_isinstance bt_isinstance (pa_cons (pv 0) (pa_cons (pe_glob (v:=.ref a.a_NoNumber) rfl T.m_NoNumber rfl) pa_nil))) (pa_cons (pe_callB (call_isiX (K:=K) rfl) rfl T.n_isinstance bt_isinstance (pa_cons (pv 0) (pa_cons (pe_glob (v:=.ref a.a_NoWeights) rfl T.m_NoWeights rfl) pa_nil))) (pa_cons (pe_callB (call_isiX (K:=K) rfl) rfl T.n_isinstance bt_isinstance (pa_cons (pv 0) (pa_cons (pe_glob (v:=.ref a.a_NoShares) rfl T.m_NoShares rfl) pa_nil))) (pa_cons (pe_callB (call_isiX (K:=K) rfl) rfl T.n_isinstance bt_isinstance (pa_cons (pv 0) (pa_cons (pe_glob (v:=.ref a.a_NoCover) rfl T.m_NoCover rfl) pa_nil))) pa_nil)))))))
      (pss_cons (ps_expr (pe_bm PySem.F.plainAttrs_list PySem.F.slot_list_append PySem.F.type_list_append mt_append (pv 1) (pa_cons (pe_callB (call_isiX (K:=K) rfl) rfl T.n_isinstance bt_isinstance (pa_cons (pv 0) (pa_cons (pe_glob (v:=.ref a.a_TooGreat) rfl T.m_TooGreat rfl) pa_nil))) pa_nil)))
      (pss_cons (ps_set (i:=2) sc_x_law_which.nd rfl (Or.inr rfl) (pe_strs (xs:=["order", "mark", "room", "row", "number", "weights", "shares", "cover", "great"]) (by rfl)))
      (pss_one (ps_ret (pe_tup (pa_cons pe_str (pa_cons (pe_lcTr (rd:=HandE ex) (osc:=defScope S_x_law_which) (js:=[2,1,0]) rfl (by show LcOk (defScope S_x_law_which) _ "k" ["terms", "kinds", "e"]; exact ⟨rfl,by decide +kernel,by decide +kernel,rfl,by decide +kernel,by decide +kernel,by decide +kernel⟩) (fun _ _ _ _ _ _ _=>hh) (pi_range1H rfl T.n_range (pa_cons pe_int pa_nil)) (by show ∀ j∈([2,1,0]:List Nat),j < 3; decide) (fun cl C s₂ H₂ fp pins s' σ' H' Q I h=>tests_by I h (PW.pt (pw_and (pt_truthK (K:=K) rfl (pe_ix (ix_listK (K:=K) rfl) (pv 2) (pv 0) (fun _ _=>rfl)) (fun _=>rfl)) (pw_and1 (pt_truthK (K:=K) rfl (pe_callB (call_isiX (K:=K) rfl) rfl T.n_isinstance bt_isinstance (pa_cons (pv 3) (pa_cons (pe_bltn (v:=.ty "ValueError") rfl T.n_ValueError bt_ValueError rfl) pa_nil))) (fun _=>rfl)))))) (fun cl C s₂ H₂ fp=>(pe_ix (ix_listK (K:=K) rfl) (pv 1) (pv 0) (fun _ _=>rfl)))) pa_nil))))))))),?_⟩
  have nb:=T.xd
  simp only [List.nodup_cons,List.mem_cons,List.not_mem_nil,or_false,not_or] at nb
  have nb:=nb.1
  have cl:=xc.xcls
  have s1:∀ {H':Hp},Same H H'→H' ex = some (excO ex D):=fun g=>g _ _ he
  have ne:∀ C,C∈[a.a_NoOrder,a.a_NoMark,a.a_NoRoom,a.a_NoRow,a.a_NoNumber,a.a_NoWeights,a.a_NoShares,a.a_NoCover,a.a_TooGreat]→a.a_BookError≠C:=by
    intro C hC
    simp only [List.mem_cons,List.not_mem_nil,or_false] at hC
    rcases hC with rfl | rfl | rfl | rfl | rfl | rfl | rfl | rfl | rfl <;> simp [nb]
  refine ⟨_,rfl,ex,D,_,_,rfl,he,cl,rfl,kit_eq xc T.ac_NoOrder (ne _ (by simp)),_,rfl,ex,D,_,_,rfl,he,cl,rfl,kit_eq xc T.ac_NoMark (ne _ (by simp)),_,rfl,ex,D,_,_,rfl,he,cl,rfl,kit_eq xc T.ac_NoRoom (ne _ (by simp)),_,rfl,ex,D,_,_,rfl,he,cl,rfl,kit_eq xc T.ac_NoRow (ne _ (by simp)),by show 4≤sizeLine; decide,fun l1 h1=>?_⟩
  have g1:=Same.new h1 (.lst [.bl (decide (D = a.a_NoOrder)),.bl (decide (D = a.a_NoMark)),.bl (decide (D = a.a_NoRoom)),.bl (decide (D = a.a_NoRow))])
  have e1:=s1 g1
  have f1:upd H l1 (.lst [.bl (decide (D = a.a_NoOrder)),.bl (decide (D = a.a_NoMark)),.bl (decide (D = a.a_NoRoom)),.bl (decide (D = a.a_NoRow))]) l1 = some _:=upd_same
  generalize upd H l1 _ = H1 at g1 e1 f1
  refine ⟨_,rfl,_,rfl,ex,D,_,_,rfl,e1,cl,rfl,kit_eq xc T.ac_NoNumber (ne _ (by simp)),_,rfl,ex,D,_,_,rfl,e1,cl,rfl,kit_eq xc T.ac_NoWeights (ne _ (by simp)),_,rfl,ex,D,_,_,rfl,e1,cl,rfl,kit_eq xc T.ac_NoShares (ne _ (by simp)),_,rfl,ex,D,_,_,rfl,e1,cl,rfl,kit_eq xc T.ac_NoCover (ne _ (by simp)),by show 4≤sizeLine; decide,fun l2 h2=>?_⟩
  have g2:=Same.new h2 (.lst [.bl (decide (D = a.a_NoNumber)),.bl (decide (D = a.a_NoWeights)),.bl (decide (D = a.a_NoShares)),.bl (decide (D = a.a_NoCover))])
  have f2:upd H1 l2 (.lst [.bl (decide (D = a.a_NoNumber)),.bl (decide (D = a.a_NoWeights)),.bl (decide (D = a.a_NoShares)),.bl (decide (D = a.a_NoCover))]) l2 = some _:=upd_same
  generalize upd H1 l2 _ = H2 at g2 f2
  refine ⟨l1,l2,_,_,rfl,rfl,SqL.of (g2 _ _ f1),SqL.of f2,by show 8≤sizeLine; decide,fun l3 h3=>?_⟩
  have n3:H l3 = none:=(g1.trans g2).free h3
  have g3:=Same.new h3 (.lst ([.bl (decide (D = a.a_NoOrder)),.bl (decide (D = a.a_NoMark)),.bl (decide (D = a.a_NoRoom)),.bl (decide (D = a.a_NoRow))] ++ [.bl (decide (D = a.a_NoNumber)),.bl (decide (D = a.a_NoWeights)),.bl (decide (D = a.a_NoShares)),.bl (decide (D = a.a_NoCover))]))
  have f3:upd H2 l3 (.lst ([.bl (decide (D = a.a_NoOrder)),.bl (decide (D = a.a_NoMark)),.bl (decide (D = a.a_NoRoom)),.bl (decide (D = a.a_NoRow))] ++ [.bl (decide (D = a.a_NoNumber)),.bl (decide (D = a.a_NoWeights)),.bl (decide (D = a.a_NoShares)),.bl (decide (D = a.a_NoCover))])) l3 = some _:=upd_same
  generalize upd H2 l3 _ = H3 at g3 f3
  have g03:=(g1.trans g2).trans g3
  refine ⟨_,rfl,.inl ⟨rfl,_,SqL.of f3⟩,_,rfl,ex,D,_,_,rfl,s1 g03,cl,rfl,kit_eq xc T.ac_TooGreat (ne _ (by simp)),l3,_,_,rfl,rfl,f3,by show 8 < sizeLine; decide,?_⟩
  refine ⟨by show 9≤sizeLine; decide,fun l4 h4=>?_⟩
  have ev:([.bl (decide (D = a.a_NoOrder)),.bl (decide (D = a.a_NoMark)),.bl (decide (D = a.a_NoRoom)),.bl (decide (D = a.a_NoRow))] ++ [.bl (decide (D = a.a_NoNumber)),.bl (decide (D = a.a_NoWeights)),.bl (decide (D = a.a_NoShares)),.bl (decide (D = a.a_NoCover))] ++ [V.bl (decide (D = a.a_TooGreat))]:List V) = ((List.range 9).map (fun i=>decide (i = n))).map V.bl:=by
    rw [← hcs]; rfl
  rw [ev] at h4 ⊢
  have g4:Same H (upd H3 l3 (.lst (((List.range 9).map (fun i=>decide (i = n))).map V.bl))):=g03.over n3 _
  have f4:upd H3 l3 (.lst (((List.range 9).map (fun i=>decide (i = n))).map V.bl)) l3 = some _:=upd_same
  generalize upd H3 l3 _ = H4 at h4 g4 f4 ⊢
  have g5:=g4.trans (Same.new h4 (.lst (termsB.map V.str)))
  have f5:upd H4 l4 (.lst (termsB.map V.str)) l4 = some _:=upd_same
  have f4':=(Same.new h4 (.lst (termsB.map V.str))) _ _ f4
  refine ⟨9,rfl,by decide,by decide,?_⟩
  have key:∀ i:Nat,i < 9→(((List.range 9).map (fun i=>decide (i = n))).map V.bl)[i]? = some (.bl (decide (i = n))):=fun i hi=>by
    rw [List.getElem?_map,List.getElem?_map,List.getElem?_range hi]
    rfl
  have kt:∀ i:Nat,i < 9→(termsB.map V.str)[i]? = some (.str (termsB.getD i "")):=fun i hi=>by
    have:i < termsB.length:=hi
    rw [List.getElem?_map,List.getD_eq_getElem?_getD,List.getElem?_eq_getElem this]
    rfl
  refine lc_genH (n:=9) (fun i ys H'=>Same (upd H4 l4 (.lst (termsB.map V.str))) H'∧ys = if n < i then [.str (termsB.getD n "")] else []) ⟨Same.refl _,by rw [if_neg (Nat.not_lt_zero _)]⟩ (by decide) ?_ ?_ ?_ ?_
  · rintro i ys H' _ ⟨_,rfl⟩
    split
    · show 1≤i
      omega
    · exact Nat.zero_le _
  · rintro ys H' ⟨g,_⟩
    exact ⟨D,s1 (g5.trans g)⟩
  · rintro i ys H' N1 N2 hi ⟨g,rfl⟩ h1 h2
    have ei:(0:Int) + (i:Int) = (i:Int):=by omega
    refine ⟨_,rfl,_,rfl,l3,_,_,.bl (decide (i = n)),rfl,rfl,SqL.of (g _ _ f4'),by rw [ei]; exact atI_nat (key i hi),_,rfl,?_⟩
    by_cases z:i = n
    · subst z
      rw [decide_eq_true rfl]
      refine iteT ⟨_,rfl,ex,D,_,_,rfl,s1 (g5.trans g),cl,rfl,kit_ve xc,_,rfl,iteT ?_⟩
      refine ⟨_,rfl,_,rfl,l4,_,_,_,rfl,rfl,SqL.of (g _ _ f5),by rw [ei]; exact atI_nat (kt i hi),h1 _ _ ⟨g,?_⟩⟩
      rw [if_neg (Nat.lt_irrefl _),if_pos (Nat.lt_succ_self _)]
      rfl
    · rw [decide_eq_false z]
      refine iteF (iteF (h2 _ ⟨g,?_⟩))
      by_cases y:n < i
      · rw [if_pos y,if_pos (by omega)]
      · rw [if_neg y,if_neg (by omega)]
  · rintro ys H' p ⟨g,rfl⟩ hp
    rw [if_pos hn9]
    refine ⟨by show 2≤sizeLine; decide,fun t ht=>?_⟩
    have g7:=Same.new hp (.lst [.str (termsB.getD n "")])
    have g8:=Same.new ht (.tup [.str "refused", .ref p])
    exact q t p _ (((g5.trans g).trans g7).trans g8) upd_same (g8 _ _ upd_same)
end
end K51
namespace K51
open PySem L2 Sen
section
variable {P:Program} {w:World} {K:PySem.W.Frag} {mg:Str→Option Value} {base:Heap} {a:Ad} {k:Nat}
theorem ok_law_is (T:Txt P w K mg a):FnOk P w K mg base CX0 (k + 1) a.a_x_law_is a.d_x_law_is ["told", "word"] (spIsB K):=by
  refine T.F_x_law_is.ok sc_x_law_is (fun vs H Q E h=>?_) (fun cdv A outer s H vs Q E hr h=>?_)
  · obtain ⟨t,l,x,rfl,_⟩:=h
    rfl
  obtain ⟨t,l,x,rfl,ht,hl,q⟩:=h
  refine ⟨_,(pss_one (ps_ret (pe_and (pe_callB call_isinst rfl T.n_isinstance bt_isinstance (pa_cons (pv 0) (pa_cons (pe_bltn (v:=.ty "tuple") rfl T.n_tuple bt_tuple rfl) pa_nil))) (pe_and (pe_cmpR (op_eqD rfl (hu8 hr)) (pe_slice sl_tup (pv 0) po_none (po_some pe_int)) (pe_tup (pa_cons pe_str pa_nil)) (nomark _)) (pe_one (pe_cmpR op_in_seq (pv 1) (pe_ix ix_tup (pv 0) pe_int (fun _ _=>rfl)) (by with_unfolding_all rfl))))))),?_⟩
  refine ⟨_,rfl,_,_,_,true,rfl,.tup ht,rfl,true,rfl,iteT ?_⟩
  refine ⟨_,rfl,1,rfl,t,_,rfl,SqT.of ht,fun z=>absurd (show (1:Nat) = 2 from z.2) (by decide),fun p hp=>?_⟩
  refine ⟨by show 1≤sizeLine; decide,fun p2 hp2=>?_⟩
  have g1:=Same.new hp (.tup (cutV [V.str "refused", V.ref l] none (some 1)))
  have g2:=Same.new hp2 (.tup [V.str "refused"])
  have f1:=g2 _ _ (show upd H p (.tup (cutV [V.str "refused", V.ref l] none (some 1))) p = some (.tup [V.str "refused"]) from upd_same)
  have f2:upd (upd H p (.tup (cutV [V.str "refused", V.ref l] none (some 1)))) p2 (.tup [V.str "refused"]) p2 = some _:=upd_same
  have g:=g1.trans g2
  refine ⟨_,fun z=>absurd z.1 Bool.false_ne_true,.tt (e:=fun _=>true) (SqT.of f1) (SqT.of f2) (fun j x y hx hy=>?_),true,rfl,iteT ?_⟩
  · have e:x = y:=Option.some.inj (hx.symm.trans hy)
    subst e
    have hj:x = .str "refused" := by
      cases j with
      | zero=>exact (Option.some.inj hx).symm
      | succ j=>exact absurd hx (by simp)
    subst hj
    have:=EqD.flat (K:=K) (H:=upd (upd H p (.tup (cutV [V.str "refused", V.ref l] none (some 1)))) p2 (.tup [V.str "refused"])) (n:=7) (x:=V.str "refused") (y:=.str "refused") rfl rfl
    rw [eqV_refl rfl] at this
    exact this
  refine ⟨_,rfl,_,rfl,t,_,1,.ref l,rfl,rfl,SqT.of (g _ _ ht),rfl,l,_,rfl,.inl (g.seq hl),rfl,rfl,?_⟩
  have:inV (V.str x) [V.str x] = true:=by
    show (eqV (.str x) (.str x) || false) = true
    rw [eqV_refl rfl]; rfl
  rw [this]
  exact q _ g
theorem okR_exchanged (T:Txt P w K mg a)
    (G_Book_order:FnOk P w K mg base CX0 k a.a_Book_order a.d_Book_order ["self"] (spBookOrder (BookAt a.a_Book))):FnOk P w K mg base (CXE P w) (k + 1) a.a_exchanged a.d_exchanged ["book", "at"] (spExchR a.a_Book a.a_NoNumber):=by
  refine T.F_exchanged.okE sc_exchanged (fun vs H Q E h=>?_) (fun cdv A outer s H vs Q E hr h=>?_)
  · obtain ⟨b,os,rs,F,m,rfl,_⟩:=h
    rfl
  obtain ⟨b,os,rs,F,m,rfl,hB,hm,sm,q⟩:=h
  have G_Book_order:=G_Book_order.lift (CX:=CXE P w)
  have L:=bookLike a.a_Book
  refine ⟨_,(pss_cons (ps_set (i:=2) sc_exchanged.nd rfl (Or.inl rfl) (pe_meth0 (pv 0) T.c_Book T.e_Book_order G_Book_order hr T.b_Book_order .nil passE))
      (pss_cons (ps_if (PW.pt (pw_or (pt_cmpR op_lt (pv 1) pe_int (nomark _)) (pw_or1 (pt_cmpR op_ge (pe_op op_add (pv 1) pe_int) (pe_callB call_len_seq rfl T.n_len bt_len (pa_cons (pv 2) pa_nil)) (nomark _))))) (pss_one (ps_raise rfl rfl T.xc_NoNumber.own rfl T.m_NoNumber raisesE (pa_cons (pe_fst (pfs_cons pf_str (pfs_cons (pf_int (pv 1)) pfs_nil))) pa_nil))) pss_nil)
      pss_never)),?_⟩
  have o1:=(L.ord hB).pos
  obtain ⟨dx,fs,hins,hmt⟩:=L.ins hB
  refine ⟨_,rfl,b,dx,_,rfl,hins,hmt _ (by decide +kernel),b,_,rs,F,rfl,hB,fun l1 H1 g1 fl1 hl1=>?_⟩
  have lm:(os.map V.str).length = os.length:=List.length_map _
  refine ⟨_,rfl,_,_,rfl,rfl,_,rfl,ite2 (fun c=>?_) (fun c=>?_)⟩
  · exact ⟨.int m,rfl,m,rfl,sm,fun x=>⟨by show 1≤sizeLine; decide,q H1 g1⟩⟩
  refine ⟨_,rfl,_,_,rfl,rfl,_,rfl,l1,_,rfl,.inl (SqL.of hl1),_,_,rfl,rfl,_,rfl,ite2 (fun c2=>?_) (fun c2=>?_)⟩
  · exact ⟨.int m,rfl,m,rfl,sm,fun x=>⟨by show 1≤sizeLine; decide,q H1 g1⟩⟩
  · refine absurd hm ?_
    have c:=of_decide_eq_false (Bool.eq_false_iff.mpr c)
    have c2:=of_decide_eq_false (Bool.eq_false_iff.mpr c2)
    rintro (z | z) <;> omega
theorem ok_law_met (T:Txt P w K mg a)
    (G_exchanged:FnOk P w K mg base (CXE P w) k a.a_exchanged a.d_exchanged ["book", "at"] (spExchE a.a_Book a.a_NoNumber))
    (G_x_law_which:∀ ex,FnOkH P w K mg base ex k a.a_x_law_which a.d_x_law_which ["e"] (spWhichB K a.a_BookError [a.a_NoOrder,a.a_NoMark,a.a_NoRoom,a.a_NoRow,a.a_NoNumber,a.a_NoWeights,a.a_NoShares,a.a_NoCover,a.a_TooGreat] ex)):FnOk P w K mg base CX0 (k + 1) a.a_x_law_met a.d_x_law_met ["book", "at"] (spMet51 a.a_Book):=by
  refine T.F_x_law_met.ok sc_x_law_met (fun vs H Q E h=>?_) (fun cdv A outer s H vs Q E hr h=>?_)
  · rcases h with ⟨b,us,vs,x,y,rs,F,rfl,_⟩ | ⟨b,os,rs,F,m,rfl,_⟩ <;> rfl
  refine ⟨_,(pss_cons (ps_set (i:=2) sc_x_law_met.nd rfl (Or.inl rfl) pe_non)
      (pss_cons (ps_try (i:=3) rfl rfl (psxs_one (psx_set (i:=2) sc_x_law_met.nd rfl (Or.inl rfl) (pex_call G_exchanged hr rfl T.m_exchanged T.F_exchanged.2 T.b_exchanged .nil rfl (pa_cons (pv 0) (pa_cons (pv 1) pa_nil))))) (fun ex=>(pss_one (ps_set (i:=2) sc_x_law_met.nd rfl (Or.inl rfl) (pe_callH (G_x_law_which ex) (RoomH.of hr _) rfl rfl T.m_x_law_which T.F_x_law_which.2 T.b_x_law_which .nil (pa_cons (pv 3) pa_nil) (E:=E0))))) rfl T.m_BookError sc_x_law_met.nd rfl rfl)
      (pss_one (ps_ret (pv 2))))),?_⟩
  have nd:[a.a_NoOrder,a.a_NoMark,a.a_NoRoom,a.a_NoRow,a.a_NoNumber,a.a_NoWeights,a.a_NoShares,a.a_NoCover,a.a_TooGreat].map (fun C=>decide (a.a_NoNumber = C)) = (List.range 9).map (fun i=>decide (i = 4)):=by
    have nb:=T.xd
    simp only [List.nodup_cons,List.mem_cons,List.not_mem_nil,or_false,not_or] at nb
    simp [List.range,List.range.loop,nb,Ne.symm]
  rcases h with ⟨b,us,vs,x,y,rs,F,rfl,hB,hl,q⟩ | ⟨b,os,rs,F,m,rfl,hB,hm,sm,q⟩
  · exact ⟨_,rfl,_,rfl,.inl ⟨b,us,vs,x,y,rs,F,rfl,hB,hl,fun t nb l H' ns G js z1 z2 z3 z4 z5 z6 z7 z8 z9 z10 z11=>⟨_,rfl,q t nb l H' ns G js z1 z2 z3 z4 z5 z6 z7 z8 z9 z10 z11⟩⟩⟩
  · exact ⟨_,rfl,_,rfl,.inr ⟨b,os,rs,F,m,rfl,hB,hm,sm,fun H' g=>⟨a.a_NoNumber,rfl,exm_of T.xb T.xc_NoNumber,fun e he=>⟨_,rfl,_,4,rfl,upd_same,T.xc_NoNumber,by decide,nd,fun t l H'' g'' ht hl=>⟨_,rfl,q t l H'' ((g.trans (Same.new he _)).trans g'') ht hl⟩⟩⟩⟩⟩
theorem ok_law_same (T:Txt P w K mg a)
    (G_Book_order:FnOk P w K mg base CX0 k a.a_Book_order a.d_Book_order ["self"] (spBookOrder (BookAt a.a_Book)))
    (G_x_law_rows:FnOk P w K mg base CX0 k a.a_x_law_rows a.d_x_law_rows ["size"] spLawRows)
    (G_x_law_leads:FnOk P w K mg base CX0 k a.a_x_law_leads a.d_x_law_leads ["book", "room", "row"] (spLawLeads a.a_Book K)):FnOk P w K mg base CX0 (k + 1) a.a_x_law_same a.d_x_law_same ["book", "room", "other", "there"] (spSame51 a.a_Book):=by
  refine T.F_x_law_same.ok sc_x_law_same (fun vs H Q E h=>?_) (fun cdv A outer s H vs Q E hr h=>?_)
  · obtain ⟨b,o,os,ps,rs,ns,F,G,i,j,rfl,_⟩:=h
    rfl
  obtain ⟨b,o,os,ps,rs,ns,F,G,i,j,rfl,hB,hO,hM,hi,hj,q⟩:=h
  have L:=bookLike a.a_Book
  refine ⟨_,(pss_cons (ps_set (i:=4) sc_x_law_same.nd rfl (Or.inl rfl) (pe_meth0 (pv 0) T.c_Book T.e_Book_order G_Book_order hr T.b_Book_order .nil pass0))
      (pss_cons (ps_for PassesOwn.never rfl (pi_list (pe_call G_x_law_rows hr rfl T.m_x_law_rows T.F_x_law_rows.2 T.b_x_law_rows .nil pass0 (pa_cons (pe_callB call_len_seq rfl T.n_len bt_len (pa_cons (pv 4) pa_nil)) pa_nil))) (pg_name (i:=5) sc_x_law_same.nd rfl (Or.inl rfl)) (pss_cons (ps_set (i:=6) sc_x_law_same.nd rfl (Or.inr rfl) (pe_dictZip rfl rfl T.n_zip rfl T.n_dict (pa_cons (pv 4) (pa_cons (pv 5) pa_nil))))
      (pss_one (ps_if (pt_cmpR op_ne (pe_call G_x_law_leads hr rfl T.m_x_law_leads T.F_x_law_leads.2 T.b_x_law_leads .nil pass0 (pa_cons (pv 0) (pa_cons (pv 1) (pa_cons (pv 5) pa_nil)))) (pe_call G_x_law_leads hr rfl T.m_x_law_leads T.F_x_law_leads.2 T.b_x_law_leads .nil pass0 (pa_cons (pv 2) (pa_cons (pv 3) (pa_cons (pe_lc0 (osc:=defScope S_x_law_same) (js:=[6]) rfl (by show LcOk (defScope S_x_law_same) _ "mark" ["values"]; exact ⟨rfl,by decide +kernel,by decide +kernel,rfl,by decide +kernel,by decide +kernel,by decide +kernel⟩) rfl (pi_list (pe_meth0 (pv 2) T.c_Book T.e_Book_order G_Book_order hr T.b_Book_order .nil pass0)) (by show ∀ j∈([6]:List Nat),j < 7; decide) (fun cl C s₂ H₂ fp=>(pe_dget (hu_of hr) (pv 1) (pv 0) (fun _ _=>rfl)))) pa_nil)))) (nomark _)) (pss_one (ps_ret pe_bl)) pss_nil))))
      (pss_one (ps_ret pe_bl)))),?_⟩
  have ho:=L.ord hB
  have hp:=L.ord hO
  have o8:=ho.le
  obtain ⟨dx,fs,hins,hmt⟩:=L.ins hB
  refine ⟨_,rfl,b,dx,_,rfl,hins,hmt _ (by decide +kernel),b,_,rs,F,rfl,hB,fun ol H1 g1 _ hol=>?_⟩
  refine ⟨_,rfl,ol,_,rfl,.inl (SqL.of hol),os.length,by rw [List.length_map]; rfl,o8,fun rl H2 rps g2 frl hrl hps=>⟨rl,rfl,⟨_,SqL.of hrl⟩,?_⟩⟩
  refine for_list (xs:=rps.map V.ref) (fun m σ H'=>Same H2 H'∧∃ f5 f6:Option V,σ = [some (.ref b),some (.int (i:Nat)),some (.ref o),some (.int (j:Nat)),some (.ref ol),f5,f6]) ⟨Same.refl _,_,_,rfl⟩ (fun m σ H' _ ⟨g,_⟩=>SqL.of (g _ _ hrl)) ?_ (fun σ H' ⟨g,_⟩=>q H' ((g1.trans g2).trans g))
  rintro m x σ H3 hx ⟨g,f5,f6,rfl⟩
  rw [List.getElem?_map] at hx
  cases hpm:rps[m]? with
  | none=>rw [hpm] at hx; cases hx
  | some rp =>
    rw [hpm] at hx
    cases hx
    obtain ⟨r,hr',_,hrp0⟩:=pd_at hps hpm
    have rl8:=Bdd.allR_len _ _ (List.mem_of_getElem? hr')
    have hrp:=g _ _ hrp0
    have g3:=(g1.trans g2).trans g
    have hol3:=(g2.trans g) _ _ hol
    have en:os.map V.str = (os.map fun x=>(Sum.inr x:Key)).map kV:=by rw [List.map_map]; rfl
    refine ⟨_,rfl,_,rfl,ol,rp,os.map fun x=>(Sum.inr x:Key),rowV r,rfl,by rw [← en]; exact SqL.of hol3,SqL.of hrp,by rw [List.length_map]; unfold rowV; rw [List.length_map]; exact rl8.symm,fun d hd=>?_⟩
    have gd:=Same.new hd (.dK (mergeK [] ((os.map fun x=>(Sum.inr x:Key)).zip (rowV r))))
    have ed:upd H3 d (.dK (mergeK [] ((os.map fun x=>(Sum.inr x:Key)).zip (rowV r)))) d = some _:=upd_same
    have hv:∀ (t:Nat) (x:Str),os[t]? = some x→valV (mergeK [] ((os.map fun x=>(Sum.inr x:Key)).zip (rowV r))) (Sum.inr x:Key) = some (.int ((r.getD t false).toNat:Nat)):=fun t x e=>by
      have jl:=(List.getElem?_eq_some_iff.mp e).1
      refine valV_mz ho.nd e ?_
      unfold rowV
      rw [List.getElem?_map,List.getElem?_eq_getElem (by omega),List.getD_eq_getElem?_getD,List.getElem?_eq_getElem (by omega)]
      rfl
    generalize mergeK [] ((os.map fun x=>(Sum.inr x:Key)).zip (rowV r)) = kv at gd ed hv ⊢
    generalize upd H3 d (.dK kv) = H4 at gd ed ⊢
    have g4:=g3.trans gd
    refine ⟨_,rfl,_,rfl,_,rfl,b,rp,os,rs,F,i,r,rfl,L.same hB g4,hi,SqL.of (gd _ _ hrp),rl8,fun H5 g5=>?_⟩
    have g45:=g4.trans g5
    have hO5:=L.same hO g45
    obtain ⟨dx2,fs2,hins2,hmt2⟩:=L.ins hO5
    refine ⟨_,rfl,_,rfl,_,rfl,o,dx2,_,rfl,hins2,hmt2 _ (by decide +kernel),o,_,ns,G,rfl,hO5,fun pl H6 g6 _ hpl=>⟨pl,rfl,⟨_,SqL.of hpl⟩,?_⟩⟩
    have ed6:=(g5.trans g6) _ _ ed
    refine lc_relL (xs:=ps.map V.str) (fun x v=>v = (match x with | .str y=>V.int ((r.getD (ix os y) false).toNat:Nat) | _=>V.non)) (SqL.of hpl) (by rw [List.length_map]; exact Nat.le_of_lt (small1000 (by have:=hp.le; omega))) (fun t x H7 hx g7=>?_) (fun _ _ _ _ h ⟨v1,e1,v2,e2,a0,v0,z1,z2,z3⟩=>⟨v1,e1,v2,e2,a0,v0,z1,z2,h _ _ z3⟩) (fun ys H7 p hys g7 hp0=>?_)
    · rw [List.getElem?_map] at hx
      cases hm:ps[t]? with
      | none=>rw [hm] at hx; cases hx
      | some y =>
        rw [hm] at hx
        cases hx
        refine ⟨_,rfl,_,rfl,d,.int ((r.getD (ix os y) false).toNat:Nat),rfl,?_,rfl,g7⟩
        rw [← hv _ _ (ix_spec ((hM.mem _).mpr (List.mem_of_getElem? hm))).2.2]
        exact DGet.k (k:=Sum.inr y) (g7 _ _ ed6)
    · have ey:ys = rowV (byName os ps r):=by
        rw [pd_map hys]
        unfold rowV byName
        rw [List.map_map,List.map_map]
        rfl
      rw [ey]
      have g8:=g45.trans (g6.trans (g7.trans (Same.new hp0 (.lst (rowV (byName os ps r))))))
      refine ⟨o,p,ps,ns,G,j,byName os ps r,rfl,L.same hO g8,hj.1,SqL.of upd_same,by unfold byName; rw [List.length_map],fun H9 g9=>⟨rfl,_,rfl,?_⟩⟩
      have e9:Bdd.yes ns j (Bdd.rowL (byName os ps r)) = Bdd.yes rs i (Bdd.rowL r):=by
        rw [hj.2]
        exact Bdd.yes_congr (L.bk hB) i i (Nat.le_refl _) hi fun t h1 h2=>byName_trn ho.nd hp.nd hM r h2
      rw [e9,decide_eq_true rfl]
      exact iteF ⟨g.trans (gd.trans (g5.trans (g6.trans (g7.trans ((Same.new hp0 _).trans g9))))),_,_,rfl⟩
end
end K51
namespace K51
open PySem L2 Sen
section
variable {P:Program} {w:World} {K:PySem.W.Frag} {mg:Str→Option Value} {base:Heap} {a:Ad} {k:Nat}
theorem ok_law_fine (T:Txt P w K mg a)
    (G_Book_order:FnOk P w K mg base CX0 k a.a_Book_order a.d_Book_order ["self"] (spBookOrder (BookAt a.a_Book)))
    (G_Book_size:FnOk P w K mg base CX0 k a.a_Book_size a.d_Book_size ["self"] (spBookSize (BookAt a.a_Book)))
    (G_x_law_whole:FnOk P w K mg base CX0 k a.a_x_law_whole a.d_x_law_whole ["found"] spWhole)
    (G_x_law_same:FnOk P w K mg base CX0 k a.a_x_law_same a.d_x_law_same ["book", "room", "other", "there"] (spSame51 a.a_Book)):FnOk P w K mg base CX0 (k + 1) a.a_x_law_fine a.d_x_law_fine ["book", "order", "found"] (spFine51 a.a_Book K):=by
  refine T.F_x_law_fine.ok sc_x_law_fine (fun vs H Q E h=>?_) (fun cdv A outer s H vs Q E hr h=>?_)
  · obtain ⟨b,ol,t,o,l,os,ps,rs,ns,F,G,js,rfl,_⟩:=h
    rfl
  obtain ⟨b,ol,t,o,l,os,ps,rs,ns,F,G,js,rfl,hB,hol,ht,hO,hM,hl,mv,rz,q⟩:=h
  have L:=bookLike a.a_Book
  refine ⟨_,(pss_cons (ps_if (PW.pt (pw_or (pt_not (pt_truth (pe_callB call_isinst rfl T.n_isinstance bt_isinstance (pa_cons (pv 2) (pa_cons (pe_bltn (v:=.ty "tuple") rfl T.n_tuple bt_tuple rfl) pa_nil))) (fun _=>rfl))) (pw_or (pt_cmpR op_ne (pe_callB call_len_seq rfl T.n_len bt_len (pa_cons (pv 2) pa_nil)) pe_int (nomark _)) (pw_or1 (pt_not (pt_truth (pe_callB call_isinst rfl T.n_isinstance bt_isinstance (pa_cons (pe_ix ix_tup (pv 2) pe_int (fun _ _=>rfl)) (pa_cons (pe_bltn (v:=.ty "list") rfl T.n_list bt_list rfl) pa_nil))) (fun _=>rfl))))))) (pss_one (ps_ret pe_bl)) pss_nil)
      (pss_cons (ps_asg (pv 2) (pg_tup rfl (pgs_cons (pg_name (i:=3) sc_x_law_fine.nd rfl (Or.inr rfl)) (pgs_cons (pg_name (i:=4) sc_x_law_fine.nd rfl (Or.inr rfl)) pgs_nil))))
      (pss_cons (ps_if (PW.pt (pw_or (pt_cmpR (op_neD rfl (hu8 hr)) (pe_meth0 (pv 3) T.c_Book T.e_Book_order G_Book_order hr T.b_Book_order .nil pass0) (pv 1) (nomark _)) (pw_or (pt_cmpR op_ne (pe_callB call_len_seq rfl T.n_len bt_len (pa_cons (pv 4) pa_nil)) (pe_meth0 (pv 0) T.c_Book T.e_Book_size G_Book_size hr T.b_Book_size .nil pass0) (nomark _)) (pw_or1 (pt_not (pt_truth (pe_callB (call_all rfl) rfl T.n_all bt_all (pa_cons (pe_lc0 (osc:=defScope S_x_law_fine) (js:=[]) rfl (by show LcOk (defScope S_x_law_fine) _ "place" []; exact ⟨rfl,by decide +kernel,by decide +kernel,rfl,by decide +kernel,by decide +kernel,by decide +kernel⟩) rfl (pi_list (pv 4)) (by show ∀ j∈([]:List Nat),j < 5; decide) (fun cl C s₂ H₂ fp=>(pe_call G_x_law_whole hr rfl T.m_x_law_whole T.F_x_law_whole.2 T.b_x_law_whole .nil pass0 (pa_cons (pv 0) pa_nil)))) pa_nil)) (fun _=>rfl))))))) (pss_one (ps_ret pe_bl)) pss_nil)
      (pss_cons (ps_if (pt_not (pt_truth (pe_callB (call_all rfl) rfl T.n_all bt_all (pa_cons (pe_lc0 (osc:=defScope S_x_law_fine) (js:=[3]) rfl (by show LcOk (defScope S_x_law_fine) _ "place" ["other"]; exact ⟨rfl,by decide +kernel,by decide +kernel,rfl,by decide +kernel,by decide +kernel,by decide +kernel⟩) rfl (pi_list (pv 4)) (by show ∀ j∈([3]:List Nat),j < 5; decide) (fun cl C s₂ H₂ fp=>(pe_chain op_le op_lt pe_int (pv 0) (pe_meth0 (pv 1) T.c_Book T.e_Book_size G_Book_size hr T.b_Book_size .nil pass0)))) pa_nil)) (fun _=>rfl))) (pss_one (ps_ret pe_bl)) pss_nil)
      (pss_one (ps_ret (pe_callB (call_all rfl) rfl T.n_all bt_all (pa_cons (pe_lc0 (osc:=defScope S_x_law_fine) (js:=[0,3,4]) rfl (by show LcOk (defScope S_x_law_fine) _ "room" ["book", "other", "places"]; exact ⟨rfl,by decide +kernel,by decide +kernel,rfl,by decide +kernel,by decide +kernel,by decide +kernel⟩) rfl (pi_range1 rfl T.n_range (pa_cons (pe_callB call_len_seq rfl T.n_len bt_len (pa_cons (pv 4) pa_nil)) pa_nil)) (by show ∀ j∈([0,3,4]:List Nat),j < 5; decide) (fun cl C s₂ H₂ fp=>(pe_call G_x_law_same hr rfl T.m_x_law_same T.F_x_law_same.2 T.b_x_law_same .nil pass0 (pa_cons (pv 1) (pa_cons (pv 0) (pa_cons (pv 2) (pa_cons (pe_ix (ix_listK (K:=K) rfl) (pv 3) (pv 0) (fun _ _=>rfl)) pa_nil))))))) pa_nil)))))))),?_⟩
  have ho:=L.ord hB
  have hp:=L.ord hO
  have lj:(js.map fun j=>V.int ((j:Nat):Int)).length = rs.length:=by rw [List.length_map]; exact mv.len
  have lz:(js.map fun j=>V.int ((j:Nat):Int)).length≤sizeLine:=by rw [lj]; exact Nat.le_trans rz (by decide)
  refine ⟨_,rfl,_,_,_,true,rfl,.tup ht,rfl,_,rfl,ite2 (fun z=>by cases z) (fun _=>?_)⟩
  refine ⟨_,rfl,t,_,rfl,.inr (SqT.of ht),rfl,_,rfl,iteNS rfl ?_⟩
  refine ⟨_,rfl,t,_,1,.ref l,rfl,rfl,SqT.of ht,rfl,_,_,_,true,rfl,.lst hl,rfl,_,rfl,ite2 (fun z=>by cases z) (fun _=>?_)⟩
  refine ⟨_,rfl,t,_,rfl,SqT.of ht,rfl,_,_,rfl,_,_,rfl,rfl,?_⟩
  obtain ⟨dx,fs,hins,hmt⟩:=L.ins hO
  refine ⟨_,rfl,o,dx,_,rfl,hins,hmt _ (by decide +kernel),o,_,ns,G,rfl,hO,fun pl H1 g1 _ hpl=>?_⟩
  have eq:=eq_strsB (K:=K) (n:=7) (SqL.of hpl) (g1.seq hol)
  rw [decide_eq_true rfl] at eq
  refine ⟨_,rfl,true,(fun z=>absurd z.1 Bool.false_ne_true),eq,_,rfl,iteF ?_⟩
  have hB1:=L.same hB g1
  obtain ⟨dx1,fs1,hins1,hmt1⟩:=L.ins hB1
  refine ⟨_,rfl,l,_,rfl,.inl (SqL.of (g1 _ _ hl)),_,rfl,b,dx1,_,rfl,hins1,hmt1 _ (by decide +kernel),b,_,rs,F,rfl,hB1,fun H2 g2=>⟨rfl,_,rfl,iteNS (by rw [lj]) ?_⟩⟩
  have g12:=g1.trans g2
  have hl2:=g12 _ _ hl
  have nth:∀ {i:Nat} {x:V},(js.map fun j=>V.int ((j:Nat):Int))[i]? = some x→∃ j:Nat,x = .int (j:Nat)∧js[i]? = some j:=fun {i x} hx=>by
    rw [List.getElem?_map] at hx
    cases hj:js[i]? with
    | none=>rw [hj] at hx; cases hx
    | some j=>rw [hj] at hx; cases hx; exact ⟨j,rfl,rfl⟩
  refine ⟨_,rfl,l,rfl,⟨_,SqL.of hl2⟩,lc_truesL (SqL.of hl2) lz (fun i x H' Q0 hx g hQ=>?_) (fun H3 p3 g3 hp3=>?_)⟩
  · obtain ⟨j,rfl,_⟩:=nth hx
    exact ⟨_,rfl,_,rfl,hQ _ (Same.refl _)⟩
  have g4:=g12.trans (g3.trans (Same.new hp3 (.lst ((List.replicate (js.map fun j=>V.int ((j:Nat):Int)).length true).map V.bl))))
  refine ⟨p3,_,rfl,SqL.of upd_same,_,rfl,?_⟩
  rw [all_trues]
  refine ite2 (fun z=>by cases z) (fun _=>?_)
  generalize upd H3 p3 _ = H4 at g4 ⊢
  have hl4:=g4 _ _ hl
  refine ⟨_,rfl,l,rfl,⟨_,SqL.of hl4⟩,lc_truesL (SqL.of hl4) lz (fun i x H' Q0 hx g hQ=>?_) (fun H5 p5 g5 hp5=>?_)⟩
  · obtain ⟨j,rfl,hj⟩:=nth hx
    refine ⟨_,rfl,0,_,rfl,rfl,_,rfl,ite2 (fun _=>?_) (fun c=>absurd (decide_eq_true (by omega)) c)⟩
    have hO':=L.same hO (g4.trans g)
    obtain ⟨dx2,fs2,hins2,hmt2⟩:=L.ins hO'
    refine ⟨_,rfl,o,dx2,_,rfl,hins2,hmt2 _ (by decide +kernel),o,_,ns,G,rfl,hO',fun H6 g6=>⟨_,_,rfl,rfl,?_⟩⟩
    have:=(mv.at_ i j hj).1
    have e6:decide (((j:Nat):Int) < ((ns.length:Nat):Int)) = true:=decide_eq_true (by omega)
    show Q0 (.bl (decide (((j:Nat):Int) < ((ns.length:Nat):Int)))) H6
    rw [e6]
    exact hQ _ g6
  have g6:=g4.trans (g5.trans (Same.new hp5 (.lst ((List.replicate (js.map fun j=>V.int ((j:Nat):Int)).length true).map V.bl))))
  refine ⟨p5,_,rfl,SqL.of upd_same,_,rfl,?_⟩
  rw [all_trues]
  refine ite2 (fun z=>by cases z) (fun _=>?_)
  generalize upd H5 p5 _ = H6 at g6 ⊢
  have hl6:=g6 _ _ hl
  refine ⟨_,rfl,l,_,rfl,.inl (SqL.of hl6),((rs.length:Nat):Int),by rw [lj],by omega,by omega,?_⟩
  rw [Int.toNat_natCast]
  refine lc_truesC (n:=rs.length) (Nat.le_trans rz (by decide)) (fun i H' Q0 hi g hQ=>?_) (fun H7 p7 g7 hp7=>?_)
  · obtain ⟨j,hj⟩:∃ j,js[i]? = some j:=⟨_,List.getElem?_eq_getElem (by rw [mv.len]; exact hi)⟩
    have gg:=g6.trans g
    refine ⟨_,rfl,_,rfl,_,rfl,_,rfl,_,rfl,l,_,_,.int (j:Nat),rfl,rfl,SqL.of (gg _ _ hl),by rw [Int.zero_add]; exact atI_nat (by rw [List.getElem?_map,hj]; rfl),b,o,os,ps,rs,ns,F,G,i,j,by rw [Int.zero_add]; rfl,L.same hB gg,L.same hO gg,hM,hi,mv.at_ i j hj,fun H8 g8=>hQ _ g8⟩
  refine ⟨p7,_,rfl,SqL.of upd_same,?_⟩
  rw [all_trues]
  exact q _ (g6.trans (g7.trans (Same.new hp7 _)))
theorem ok_law_entered (T:Txt P w K mg a)
    (G_Book_enter:FnOk P w K mg base CX0 k a.a_Book_enter a.d_Book_enter ["self", "sentence"] (spEnterT a.a_Book)):FnOk P w K mg base CX0 (k + 1) a.a_x_law_entered a.d_x_law_entered ["book", "some", "found"] (spEntered51 a.a_Book K):=by
  refine T.F_x_law_entered.ok sc_x_law_entered (fun vs H Q E h=>?_) (fun cdv A outer s H vs Q E hr h=>?_)
  · obtain ⟨b,sl,t,o,l,os,ps,rs,ns,F,G,js,ss,qs,rfl,_⟩:=h
    rfl
  obtain ⟨b,sl,t,o,l,os,ps,rs,ns,F,G,js,ss,qs,rfl,hB,hsl,ht,hO,hM,hl,mv,his,lq,hss,q⟩:=h
  have L:=bookLike a.a_Book
  refine ⟨_,(pss_cons (ps_asg (pv 2) (pg_tup rfl (pgs_cons (pg_name (i:=4) sc_x_law_entered.nd rfl (Or.inr rfl)) (pgs_cons (pg_name (i:=5) sc_x_law_entered.nd rfl (Or.inr rfl)) pgs_nil))))
      (pss_cons (ps_setLC (tt:=tYes) (i:=3) sc_x_law_entered.nd rfl (Or.inl rfl) (.inl rfl) (osc:=defScope S_x_law_entered) (js:=[0]) rfl (by show LcOk (defScope S_x_law_entered) _ "one" ["book"]; exact ⟨rfl,by decide +kernel,by decide +kernel,rfl,by decide +kernel,by decide +kernel,by decide +kernel⟩) rfl (pi_list (pv 1)) (by show ∀ j∈([0]:List Nat),j < 6; decide) (fun cl C s₂ H₂ fp pins s' σ' H' Q I h=>wpAny_pure ⟨H',I,h⟩) (fun cl C s₂ H₂ fp=>(pe_meth (pv 1) T.c_Book T.e_Book_enter G_Book_enter hr T.b_Book_enter .nil pass0 (pa_cons (pv 0) pa_nil))) rfl)
      (pss_one (ps_ret (pe_cmpR (op_eqD rfl (hu8 hr)) (pe_lc0 (osc:=defScope S_x_law_entered) (js:=[4]) rfl (by show LcOk (defScope S_x_law_entered) _ "one" ["other"]; exact ⟨rfl,by decide +kernel,by decide +kernel,rfl,by decide +kernel,by decide +kernel,by decide +kernel⟩) rfl (pi_list (pv 1)) (by show ∀ j∈([4]:List Nat),j < 6; decide) (fun cl C s₂ H₂ fp=>(pe_meth (pv 1) T.c_Book T.e_Book_enter G_Book_enter hr T.b_Book_enter .nil pass0 (pa_cons (pv 0) pa_nil)))) (pe_lc0 (osc:=defScope S_x_law_entered) (js:=[5]) rfl (by show LcOk (defScope S_x_law_entered) _ "room" ["places"]; exact ⟨rfl,by decide +kernel,by decide +kernel,rfl,by decide +kernel,by decide +kernel,by decide +kernel⟩) rfl (pi_list (pv 3)) (by show ∀ j∈([5]:List Nat),j < 6; decide) (fun cl C s₂ H₂ fp=>(pe_ix (ix_listK (K:=K) rfl) (pv 1) (pv 0) (fun _ _=>rfl)))) (nomark _)))))),?_⟩
  refine ⟨_,rfl,t,_,rfl,SqT.of ht,rfl,_,_,rfl,_,_,rfl,rfl,?_⟩
  have lz:(qs.map V.ref).length≤sizeLine:=by rw [List.length_map]; exact Nat.le_trans lq (by decide)
  have sen:∀ {i:Nat} {x:V},(qs.map V.ref)[i]? = some x→∃ (p:Addr) (s:Sn),x = .ref p∧ss[i]? = some s∧IsS H s p:=fun {i x} hx=>by
    rw [List.getElem?_map] at hx
    cases hp:qs[i]? with
    | none=>rw [hp] at hx; cases hx
    | some p =>
      rw [hp] at hx; cases hx
      obtain ⟨s,hs,z⟩:=pd_ta his hp
      exact ⟨p,s,rfl,hs,z⟩
  have dom:∀ {k:Nat} {f:Bdd.Row→Bool},Bdd.Means rs k f→∃ j,js[k]? = some j∧js.getD k 0 = j∧Bdd.Means ns j (fun r=>Bdd.yes rs k (trn os ps r)):=fun {k f} m=>by
    have hk:k < js.length:=by rw [mv.len]; exact m.1
    exact ⟨js[k],List.getElem?_eq_getElem hk,by rw [List.getD_eq_getElem?_getD,List.getElem?_eq_getElem hk]; rfl,mv.at_ _ _ (List.getElem?_eq_getElem hk)⟩
  refine ⟨_,rfl,sl,rfl,⟨_,hsl⟩,?_⟩
  refine lc_listC (xs:=qs.map V.ref) (fun i ys H'=>Same H H'∧∃ ks:List Nat,ys = natW ks∧ks.length = i∧∀ (m:Nat) (s:Sn),m < i→ss[m]? = some s→∃ k,ks[m]? = some k∧Bdd.Means rs k (fun r=>s.val (envR os r))) ⟨Same.refl _,[],rfl,rfl,fun m s h=>absurd h (Nat.not_lt_zero _)⟩ lz (fun i ys H' hi ⟨g,ks,e,el,_⟩=>⟨g.seq hsl,by rw [e]; unfold natW; rw [List.length_map]; omega⟩) (fun i x ys H' Q0 hx hP hQ=>?_) (fun ys H1 rl hP hrl=>?_)
  · obtain ⟨g,ks,rfl,el,hks⟩:=hP
    obtain ⟨p,s,rfl,hs,is1⟩:=sen hx
    obtain ⟨in1,c1,d1,k1,mk⟩:=hss s (List.mem_of_getElem? hs)
    have hB':=L.same hB g
    obtain ⟨dx,fs,hins,hmt⟩:=L.ins hB'
    refine ⟨_,rfl,b,dx,_,rfl,hins,hmt _ (by decide +kernel),_,rfl,b,p,os,rs,F,s,k1,rfl,hB',is1.mono (Tups.of g),in1,c1,d1,mk,fun H2 g2=>hQ _ _ ⟨g.trans g2,ks ++ [k1],by unfold natW; rw [List.map_append]; rfl,by rw [List.length_append,el]; rfl,fun m s' hm hs'=>?_⟩⟩
    by_cases hlt:m < i
    · obtain ⟨k,e,z⟩:=hks m s' hlt hs'
      exact ⟨k,by rw [List.getElem?_append_left (by omega)]; exact e,z⟩
    · have em:m = i:=by omega
      subst em
      rw [hs] at hs'
      cases hs'
      exact ⟨k1,by rw [← el]; simp,mk⟩
  obtain ⟨g1,ks,rfl,lk,hks⟩:=hP
  rw [List.length_map] at lk hks
  have g2:=g1.trans (Same.new hrl (.lst (natW ks)))
  have er:upd H1 rl (.lst (natW ks)) rl = some _:=upd_same
  generalize upd H1 rl _ = H2 at g2 er ⊢
  refine ⟨_,rfl,sl,rfl,⟨_,g2.seq hsl⟩,?_⟩
  refine lc_listC (xs:=qs.map V.ref) (fun i ys H'=>Same H2 H'∧ys = natW ((ks.take i).map fun k=>js.getD k 0)) ⟨Same.refl _,rfl⟩ lz (fun i ys H' hi ⟨g,e⟩=>⟨(g2.trans g).seq hsl,by rw [e]; unfold natW; rw [List.length_map,List.length_map,List.length_take]; omega⟩) (fun i x ys H' Q0 hx hP hQ=>?_) (fun ys H3 el hP hel=>?_)
  · obtain ⟨g,rfl⟩:=hP
    have hi:i < qs.length:=by have:=(List.getElem?_eq_some_iff.mp hx).1; rwa [List.length_map] at this
    obtain ⟨p,s,rfl,hs,is1⟩:=sen hx
    obtain ⟨in1,c1,d1,_⟩:=hss s (List.mem_of_getElem? hs)
    obtain ⟨k,hk,mk⟩:=hks i s hi hs
    obtain ⟨j,_,ej,mj⟩:=dom mk
    have gg:=g2.trans g
    have hO':=L.same hO gg
    obtain ⟨dx,fs,hins,hmt⟩:=L.ins hO'
    refine ⟨_,rfl,o,dx,_,rfl,hins,hmt _ (by decide +kernel),_,rfl,o,p,ps,ns,G,s,j,rfl,hO',is1.mono (Tups.of gg),inO_sub (fun x hx=>(hM.mem x).mp hx) in1,c1,d1,⟨mj.1,fun r=>(mj.2 r).trans ((mk.2 _).trans (val_trn in1 r))⟩,fun H4 g4=>hQ _ _ ⟨g.trans g4,?_⟩⟩
    rw [take_next hk]
    unfold natW
    rw [List.map_append,List.map_append,← ej]
    rfl
  obtain ⟨g3,rfl⟩:=hP
  rw [List.length_map,← lk,List.take_length]
  have g4:=g2.trans (g3.trans (Same.new hel (.lst (natW (ks.map fun k=>js.getD k 0)))))
  have g24:=g3.trans (Same.new hel (.lst (natW (ks.map fun k=>js.getD k 0))))
  have ee:upd H3 el (.lst (natW (ks.map fun k=>js.getD k 0))) el = some _:=upd_same
  generalize upd H3 el _ = H4 at g4 g24 ee ⊢
  have lkz:(natW ks).length≤sizeLine:=by unfold natW; rw [List.length_map,lk]; exact Nat.le_trans lq (by decide)
  refine ⟨_,rfl,rl,rfl,⟨_,SqL.of (g24 _ _ er)⟩,?_⟩
  refine lc_listC (xs:=natW ks) (fun i ys H'=>Same H4 H'∧ys = natW ((ks.take i).map fun k=>js.getD k 0)) ⟨Same.refl _,rfl⟩ lkz (fun i ys H' hi ⟨g,e⟩=>⟨SqL.of ((g24.trans g) _ _ er),by rw [e]; unfold natW; rw [List.length_map,List.length_map,List.length_take]; omega⟩) (fun i x ys H' Q0 hx hP hQ=>?_) (fun ys H5 fl hP hfl=>?_)
  · obtain ⟨g,rfl⟩:=hP
    unfold natW at hx
    rw [List.getElem?_map] at hx
    cases hk:ks[i]? with
    | none=>rw [hk] at hx; cases hx
    | some k =>
      rw [hk] at hx; cases hx
      have hi:i < qs.length:=by rw [← lk]; exact (List.getElem?_eq_some_iff.mp hk).1
      obtain ⟨s,hs⟩:∃ s,ss[i]? = some s:=by
        obtain ⟨p,s,_,hs,_⟩:=sen (i:=i) (x:=.ref qs[i]) (by rw [List.getElem?_map,List.getElem?_eq_getElem hi]; rfl)
        exact ⟨s,hs⟩
      obtain ⟨k',hk',mk⟩:=hks i s hi hs
      rw [hk] at hk'
      cases hk'
      obtain ⟨j,ej,ej2,_⟩:=dom mk
      refine ⟨_,rfl,_,rfl,l,_,_,.int (j:Nat),rfl,rfl,SqL.of ((g4.trans g) _ _ hl),atI_nat (by rw [List.getElem?_map,ej]; rfl),hQ _ _ ⟨g,?_⟩⟩
      rw [take_next hk]
      unfold natW
      rw [List.map_append,List.map_append,← ej2]
      rfl
  obtain ⟨g5,rfl⟩:=hP
  have lnk:(natW ks).length = ks.length:=by unfold natW; rw [List.length_map]
  rw [lnk,List.take_length]
  have g6:=g5.trans (Same.new hfl (.lst (natW (ks.map fun k=>js.getD k 0))))
  have eq:=eq_natsB (K:=K) (n:=7) (SqL.of (g6 _ _ ee)) (SqL.of (upd_same:upd H5 fl (.lst (natW (ks.map fun k=>js.getD k 0))) fl = _))
  rw [decide_eq_true rfl] at eq
  exact ⟨true,(fun z=>absurd z.1 Bool.false_ne_true),eq,q _ (g4.trans g6)⟩
end
end K51
namespace K51
open PySem L2 Sen
section
variable {P:Program} {w:World} {K:PySem.W.Frag} {mg:Str→Option Value} {base:Heap} {a:Ad} {k:Nat}
theorem ok_law (T:Txt P w K mg a)
    (G_x_law_cell_at:FnOk P w K mg base CX0 (k + 1) a.a_x_law_cell_at a.d_x_law_cell_at ["script", "k"] (spCellF K))
    (G_x_law_order:FnOk P w K mg base CX0 (k + 1) a.a_x_law_order a.d_x_law_order ["cell", "limit"] spOrder)
    (G_x_law_sentence:FnOk P w K mg base CX0 (k + 1) a.a_x_law_sentence a.d_x_law_sentence ["script", "at", "many", "order"] (spSentence K))
    (G_x_law_draw:FnOk P w K mg base CX0 (k + 1) a.a_x_law_draw a.d_x_law_draw ["cell", "k", "bound"] spDraw)
    (G_Book_init:FnOk P w K mg base CX0 k a.a_Book_init a.d_Book_init ["self", "order"] (spBookInit (BookAt a.a_Book) K a.a_Book))
    (G_Book_enter:FnOk P w K mg base CX0 (k + 1) a.a_Book_enter a.d_Book_enter ["self", "sentence"] (spEnterH a.a_Book))
    (G_Book_order:FnOk P w K mg base CX0 (k + 1) a.a_Book_order a.d_Book_order ["self"] (spBookOrder (BookAt a.a_Book)))
    (G_Book_size:FnOk P w K mg base CX0 (k + 1) a.a_Book_size a.d_Book_size ["self"] (spBookSize (BookAt a.a_Book)))
    (G_Book_room:FnOk P w K mg base CX0 (k + 1) a.a_Book_room a.d_Book_room ["self", "number"] (spBookRoom (BookAt a.a_Book)))
    (G_x_law_met:FnOk P w K mg base CX0 (k + 1) a.a_x_law_met a.d_x_law_met ["book", "at"] (spMet51 a.a_Book))
    (G_x_law_is:FnOk P w K mg base CX0 (k + 1) a.a_x_law_is a.d_x_law_is ["told", "word"] (spIsB K))
    (G_x_law_fine:FnOk P w K mg base CX0 (k + 1) a.a_x_law_fine a.d_x_law_fine ["book", "order", "found"] (spFine51 a.a_Book K))
    (G_x_law_entered:FnOk P w K mg base CX0 (k + 1) a.a_x_law_entered a.d_x_law_entered ["book", "some", "found"] (spEntered51 a.a_Book K)) :
    FnOk P w K mg base CX0 (k + 2) a.a_law a.d_law ["script"] (spLaw K):=by
  refine T.F_law.ok sc_law (fun vs H Q E h=>?_) (fun cdv A outer s H vs Q E hr h=>?_)
  · obtain ⟨a,ns,rfl,_⟩:=h
    rfl
  obtain ⟨sc,ns,rfl,hS,h63,q⟩:=h
  have L:=bookLike a.a_Book
  have cnt200:∀ {s:Sn} {m:Nat},s.depth≤m→m≤7→s.count≤200∧s.depth≤24:=fun {s m} h1 h2=>by
    have h3:=Sn.count_depth s
    have h4:2 ^ s.depth≤2 ^ 7:=Nat.pow_le_pow_right (by decide) (by omega)
    have h5:2 ^ 7 = 128:=rfl
    exact ⟨by omega,by omega⟩
  refine cut0 ?_
  refine cutK (fun σ H=>∃ (H1:Hp) (ol bk:Addr) (os:List Str) (sl p0 p1 p2:Addr) (s0 s1 s2:Sn) (k1 k2:Nat) (rs:List Bdd.Rm) (F:Foot) (c:Int) (f5 f6 f7 f8 f9 f10:Option V),Thr51 a.a_Book K sc ns H1 ol bk os sl p0 p1 p2 s0 s1 s2 k1 k2 126 H rs F∧σ = [some (.ref sc),some (.ref ol),some (.int c),some (.ref sl),some (.ref bk),f5,f6,f7,f8,f9,f10]) (fun t z=>(pss_cons (ps_set (i:=1) sc_law.nd rfl (Or.inr rfl) (pe_call G_x_law_order hr rfl T.m_x_law_order T.F_x_law_order.2 T.b_x_law_order .nil pass0 (pa_cons (pe_call G_x_law_cell_at hr rfl T.m_x_law_cell_at T.F_x_law_cell_at.2 T.b_x_law_cell_at .nil pass0 (pa_cons (pv 0) (pa_cons pe_int pa_nil))) (pa_cons (pe_ix ix_list (pe_lst (pa_cons pe_int (pa_cons pe_int pa_nil))) (pe_callTy call_int1 rfl T.n_int bt_int (pa_cons (pe_cmpR op_eq (pe_op op_mod (pe_call G_x_law_cell_at hr rfl T.m_x_law_cell_at T.F_x_law_cell_at.2 T.b_x_law_cell_at .nil pass0 (pa_cons (pv 0) (pa_cons pe_int pa_nil))) pe_int) pe_int (nomark _)) pa_nil)) (fun _ _=>rfl)) pa_nil))))
      (pss_cons (ps_set (i:=2) sc_law.nd rfl (Or.inr rfl) (pe_call G_x_law_cell_at hr rfl T.m_x_law_cell_at T.F_x_law_cell_at.2 T.b_x_law_cell_at .nil pass0 (pa_cons (pv 0) (pa_cons pe_int pa_nil))))
      (pss_cons (ps_setLC (tt:=tYes) (i:=3) sc_law.nd rfl (Or.inl rfl) (.inl rfl) (osc:=defScope S_law) (js:=[0,1,2]) rfl (by show LcOk (defScope S_law) _ "k" ["script", "order", "cell"]; exact ⟨rfl,by decide +kernel,by decide +kernel,rfl,by decide +kernel,by decide +kernel,by decide +kernel⟩) rfl (pi_range1 rfl T.n_range (pa_cons pe_int pa_nil)) (by show ∀ j∈([0,1,2]:List Nat),j < 11; decide) (fun cl C s₂ H₂ fp pins s' σ' H' Q I h=>wpAny_pure ⟨H',I,h⟩) (fun cl C s₂ H₂ fp=>(pe_call G_x_law_sentence hr rfl T.m_x_law_sentence T.F_x_law_sentence.2 T.b_x_law_sentence .nil pass0 (pa_cons (pv 1) (pa_cons (pe_op op_add pe_int (pe_op op_mul pe_int (pv 0))) (pa_cons (pe_op op_add pe_int (pe_call G_x_law_draw hr rfl T.m_x_law_draw T.F_x_law_draw.2 T.b_x_law_draw .nil pass0 (pa_cons (pv 3) (pa_cons (pv 0) (pa_cons pe_int pa_nil))))) (pa_cons (pv 2) pa_nil)))))) rfl)
      (pss_cons (ps_set (i:=4) sc_law.nd rfl (Or.inr rfl) (pe_make T.mk_Book G_Book_init hr rfl T.m_Book T.b_Book_init .nil pass0 (pa_cons (pe_callTy call_list_of rfl T.n_list bt_list (pa_cons (pv 1) pa_nil)) pa_nil)))
      (pss_cons (ps_for PassesOwn.never rfl (pi_list (pe_slice sl_list (pv 3) po_none (po_some pe_int))) (pg_name (i:=5) sc_law.nd rfl (Or.inl rfl)) (pss_one (ps_expr (pe_meth (pv 4) T.c_Book T.e_Book_enter G_Book_enter hr T.b_Book_enter .nil pass0 (pa_cons (pv 5) pa_nil)))))
      z)))))) ?_ ?_
  · rintro u hu σ H ⟨rfl,rfl⟩
    refine ⟨_,rfl,sc,ns,0,rfl,hS,by show 2≤sizeLine; decide,fun l5 hl5=>?_⟩
    have g5:=Same.new hl5 (.lst [.int 5,.int 7])
    refine ⟨_,rfl,sc,ns,40,rfl,g5.seq hS,_,_,rfl,rfl,(show (0:Int) < 8 by decide),rfl,.inr ⟨_,rfl,l5,_,_,.int ((if (decide (V.int (cellF ns 40 % 8) = V.int 1)) then 7 else 5:Nat):Int),rfl,rfl,SqL.of upd_same,?_,cellF ns 0,(if (decide (V.int (cellF ns 40 % 8) = V.int 1)) then 7 else 5),rfl,?_,?_,fun ol H0 os g1' hol0 ho o8'=>?_⟩⟩
    · cases (decide (V.int (cellF ns 40 % 8) = V.int 1)) <;> rfl
    · cases (decide (V.int (cellF ns 40 % 8) = V.int 1)) <;> decide
    · cases (decide (V.int (cellF ns 40 % 8) = V.int 1)) <;> decide
    have g0:=g5.trans g1'
    clear g1' o8' g5
    have o8:=ho.le
    have hS0:=g0.seq hS
    refine ⟨_,rfl,sc,ns,1,rfl,hS0,?_⟩
    refine ⟨3,rfl,by decide,by decide,?_⟩
    refine lc_rngC (n:=3) (fun i zs H'=>Same H0 H'∧∃ (ps:List Addr) (ss:List Sn),zs = ps.map V.ref∧ps.length = i∧Paired (IsS H') ss ps∧∀ s∈ss,s.inO os∧s.count≤200∧s.depth≤24) ⟨Same.refl _,[],[],rfl,rfl,.nil,fun s hs=>by cases hs⟩ (by show 3≤sizeLine; decide) ?_ ?_ ?_
    · rintro i zs H' hi ⟨g,ps,ss,rfl,lp,pp,ok⟩
      rw [List.length_map]
      omega
    · rintro i zs H' Q0 hi ⟨g,ps,ss,rfl,lp,pp,ok⟩ hQ
      have e1:(2:Int) + 10 * (0 + (i:Nat)) = ((2 + 10 * i:Nat):Int):=by omega
      have e2:(0:Int) + (i:Nat) = ((i:Nat):Int):=by omega
      refine ⟨_,rfl,_,rfl,10,_,rfl,rfl,.inl ⟨by decide,by decide⟩,2,_,rfl,rfl,?_⟩
      refine ⟨_,rfl,_,rfl,cellF ns 1,i,7,congrArg (fun z=>[V.int (cellF ns 1),V.int z,V.int 7]) e2,by omega,by decide,by decide,fun d d0 d1=>?_⟩
      have em:(1:Int) + d = (((1 + d).toNat:Nat):Int):=by omega
      refine ⟨1,_,rfl,rfl,_,rfl,sc,ol,ns,2 + 10 * i,(1 + d).toNat,os,?_,g.seq hS0,SqL.of (g _ _ hol0),ho.pos,o8,by omega,by omega,by omega,fun p H4 s g4 is4 in4 d4=>?_⟩
      · show [V.ref sc,V.int (2 + 10 * (0 + (i:Nat))),V.int (1 + d),V.ref ol] = _
        rw [e1,em]
        rfl
      refine hQ _ _ ⟨g.trans g4,ps ++ [p],ss ++ [s],by rw [List.map_append]; rfl,by rw [List.length_append,lp]; rfl,pd_app (pd_imp (fun _ _ z=>z.mono (Tups.of g4)) pp) (.cons is4 .nil),fun s' hs'=>?_⟩
      rcases List.mem_append.mp hs' with z | z
      · exact ok s' z
      · have:s' = s:=by simpa using z
        subst this
        exact ⟨in4,cnt200 d4 (by omega)⟩
    rintro zs H4 sl ⟨g4,ps,ss,rfl,lp,pp,ok⟩ hsl
    match ps,ss,lp,pp with
    | [p0,p1,p2],[s0,s1,s2],_,.cons i0 (.cons i1 (.cons i2 .nil)) =>
    have gs:=Same.new hsl (.lst [.ref p0,.ref p1,.ref p2])
    have hsl':upd H4 sl (.lst [.ref p0,.ref p1,.ref p2]) sl = some (.lst [.ref p0,.ref p1,.ref p2]):=upd_same
    have hol5:=(g4.trans gs) _ _ hol0
    have hS5:=(g4.trans gs).seq hS0
    have i0':=i0.mono (Tups.of gs)
    have i1':=i1.mono (Tups.of gs)
    have i2':=i2.mono (Tups.of gs)
    show _
    generalize hH5:upd H4 sl (.lst ([p0,p1,p2].map V.ref)) = H5
    have hH5':upd H4 sl (.lst [.ref p0,.ref p1,.ref p2]) = H5:=hH5
    rw [hH5'] at hsl' i0' i1' i2' hol5 hS5
    clear hH5 hH5' gs
    have k0:=ok s0 (by simp)
    have k1':=ok s1 (by simp)
    have k2':=ok s2 (by simp)
    refine ⟨_,rfl,ol,_,rfl,.inl (SqL.of hol5),fun cl hcl=>?_⟩
    have gc:=Same.new hcl (.lst (os.map V.str))
    have hcl':upd H5 cl (.lst (os.map V.str)) cl = some _:=upd_same
    generalize upd H5 cl _ = H6 at gc hcl' ⊢
    refine fun bk dx hbk hdx hne=>⟨bk,dx,cl,os,rfl,upd_same,Ne.symm hne,?_,ho,fun H3 F0 keep hB hF=>⟨rfl,?_⟩⟩
    · refine SqL.of ?_
      rw [upd_ne (ne_of_none hcl' hbk),upd_ne (ne_of_none hcl' hdx)]
      exact hcl'
    have g13:=made_same hbk hdx keep
    have hF1:=made_foot hbk hdx hne hF
    have L0:LedH a.a_Book H6 bk os 0 H3 [none,none] F0:=⟨g13,hF1,hB,Nat.le_refl _⟩
    have hsl6:=gc _ _ hsl'
    refine ⟨_,rfl,2,rfl,sl,_,rfl,SqL.of (g13 _ _ hsl6),fun ql hql=>?_⟩
    have eq2:cutV [V.ref p0,.ref p1,.ref p2] none (some 2) = [.ref p0,.ref p1]:=rfl
    rw [eq2]
    have gq:=Same.new hql (.lst [V.ref p0,.ref p1])
    have nql:¬ F0 ql:=L.fresh hB hql
    have eql:upd H3 ql (.lst [V.ref p0,.ref p1]) ql = some _:=upd_same
    have L1:=L0.new gq
    generalize upd H3 ql _ = H7 at gq eql L1 ⊢
    refine ⟨ql,rfl,⟨_,SqL.of eql⟩,?_⟩
    refine for_list (xs:=[V.ref p0,.ref p1]) (fun i σ H'=>∃ (rs:List Bdd.Rm) (f5:Option V),LedH a.a_Book H6 bk os (63 * i) H' rs F0∧H' ql = some (.lst [V.ref p0,.ref p1])∧(1≤i→∃ k1,Bdd.Means rs k1 (fun r=>s0.val (envR os r)))∧(2≤i→∃ k2,Bdd.Means rs k2 (fun r=>s1.val (envR os r)))∧σ = [some (.ref sc),some (.ref ol),some (.int (cellF ns 1)),some (.ref sl),some (.ref bk),f5,none,none,none,none,none]) ⟨_,_,L1,eql,(fun z=>absurd z (by decide)),(fun z=>absurd z (by decide)),rfl⟩ (fun i σ H' _ ⟨_,_,_,e,_⟩=>SqL.of e) ?_ ?_
    · rintro i x σ H' hx ⟨rs,f5,Ld,eq',h1,h2,rfl⟩
      have hi:i < 2:=(List.getElem?_eq_some_iff.mp hx).1
      obtain ⟨pm,sm,rfl,ism,okm,esm⟩:∃ (pm:Addr) (sm:Sn),x = .ref pm∧IsS H' sm pm∧(sm.inO os∧sm.count≤200∧sm.depth≤24)∧sm = if i = 0 then s0 else s1:=by
        have tq:=Tups.of (gc.trans Ld.same)
        match i,hi,hx with
        | 0,_,hx=>cases hx; exact ⟨p0,s0,rfl,i0'.mono tq,k0,rfl⟩
        | 1,_,hx=>cases hx; exact ⟨p1,s1,rfl,i1'.mono tq,k1',rfl⟩
      obtain ⟨dx',fs',hins',hm'⟩:=L.ins Ld.bk
      have ll:=Ld.len
      refine ⟨_,rfl,bk,dx',fs',rfl,hins',hm' _ (by decide +kernel),_,rfl,bk,pm,os,rs,F0,sm,rfl,Ld.bk,by omega,ism,okm.1,okm.2.1,okm.2.2,fun kk rs' H8 aw8 tu8 hB8 gr8 me8 hh8=>?_⟩
      refine ⟨rs',_,Ld.grow aw8 hB8 hh8,aw8 _ _ eq' nql,fun _=>?_,fun z=>?_,rfl⟩
      · by_cases z:i = 0
        · rw [if_pos z] at esm
          rw [← esm]
          exact ⟨kk,me8⟩
        · obtain ⟨k1,m1⟩:=h1 (by omega)
          exact ⟨k1,m1.grown (L.bk Ld.bk) gr8⟩
      · rw [if_neg (by omega)] at esm
        rw [← esm]
        exact ⟨kk,me8⟩
    · rintro σ H' ⟨rs,f5,Ld,eq',h1,h2,rfl⟩
      obtain ⟨k1,m1⟩:=h1 (by show 1≤2; decide)
      obtain ⟨k2,m2⟩:=h2 (by show 2≤2; decide)
      have tc:=Tups.of gc
      exact hu _ _ ⟨H6,ol,bk,os,sl,p0,p1,p2,s0,s1,s2,k1,k2,rs,F0,_,_,_,_,_,_,_,⟨gc.seq hS5,gc _ _ hol5,hsl6,i0'.mono tc,i1'.mono tc,i2'.mono tc,k0,k1',k2',Ld,m1,m2⟩,rfl⟩
  refine cutK (fun σ H=>∃ (H1:Hp) (ol bk:Addr) (os:List Str) (sl p0 p1 p2:Addr) (s0 s1 s2:Sn) (k1 k2:Nat) (rs:List Bdd.Rm) (F:Foot) (c far:Int) (kl:Addr) (ys:List V) (f5 f8 f9 f10:Option V),Thr51 a.a_Book K sc ns H1 ol bk os sl p0 p1 p2 s0 s1 s2 k1 k2 126 H rs F∧H kl = some (.lst ys)∧ys.length = rs.length∧RoomsV os H rs ys∧0≤far∧far < 10 ^ 40∧σ = [some (.ref sc),some (.ref ol),some (.int c),some (.ref sl),some (.ref bk),f5,some (.ref kl),some (.int far),f8,f9,f10]) (fun t z=>(pss_cons (ps_setLC (tt:=tYes) (i:=6) sc_law.nd rfl (Or.inl rfl) (.inl rfl) (osc:=defScope S_law) (js:=[4]) rfl (by show LcOk (defScope S_law) _ "room" ["book"]; exact ⟨rfl,by decide +kernel,by decide +kernel,rfl,by decide +kernel,by decide +kernel,by decide +kernel⟩) rfl (pi_range1 rfl T.n_range (pa_cons (pe_meth0 (pv 4) T.c_Book T.e_Book_size G_Book_size hr T.b_Book_size .nil pass0) pa_nil)) (by show ∀ j∈([4]:List Nat),j < 11; decide) (fun cl C s₂ H₂ fp pins s' σ' H' Q I h=>wpAny_pure ⟨H',I,h⟩) (fun cl C s₂ H₂ fp=>(pe_meth (pv 1) T.c_Book T.e_Book_room G_Book_room hr T.b_Book_room .nil pass0 (pa_cons (pv 0) pa_nil))) rfl)
      (pss_cons (ps_set (i:=7) sc_law.nd rfl (Or.inl rfl) (pe_op op_mod (pe_op op_fdiv (pe_call G_x_law_cell_at hr rfl T.m_x_law_cell_at T.F_x_law_cell_at.2 T.b_x_law_cell_at .nil pass0 (pa_cons (pv 0) (pa_cons pe_int pa_nil))) pe_int) (pe_op op_pow pe_int pe_int)))
      z))) ?_ ?_
  · rintro u hu σ H ⟨H1,ol,bk,os,sl,p0,p1,p2,s0,s1,s2,k1,k2,rs,F,c,f5,f6,f7,f8,f9,f10,W,rfl⟩
    obtain ⟨dx,fs,hins,hm⟩:=L.ins W.led.bk
    refine ⟨_,rfl,bk,dx,fs,rfl,hins,hm _ (by decide +kernel),bk,os,rs,F,rfl,W.led.bk,fun H2 g2=>?_⟩
    have lenB:=W.led.len
    refine ⟨_,rfl,Int.le_trans (by decide) (Int.natCast_nonneg _),Int.lt_of_le_of_lt (show ((rs.length:Nat):Int)≤2000000 by omega) (by decide),?_⟩
    rw [Int.toNat_natCast]
    have W2:=W.new g2
    refine lc_roomsC (os:=os) (Nat.le_refl _) (Nat.le_of_lt (small1000 (by omega))) (fun i H' Q0 x hi hx g hQ=>?_) (fun ys H3 kl g3 ly ry hkl=>?_)
    · have hB':=L.same W2.led.bk g
      obtain ⟨dx',fs',hins',hm'⟩:=L.ins hB'
      refine ⟨_,rfl,bk,dx',fs',rfl,hins',hm' _ (by decide +kernel),_,rfl,bk,os,rs,F,i,x,?_,hB',hx,fun v H3 g3 rv=>hQ v H3 g3 rv⟩
      show [V.ref bk,V.int (0 + (i:Int))] = _
      rw [Int.zero_add]
    · have gn:=Same.new hkl (.lst ys)
      have W3:=(W2.new g3).new gn
      refine ⟨_,rfl,sc,ns,39,rfl,W3.led.same.seq W3.hs,?_⟩
      refine ⟨_,_,rfl,rfl,⟨by decide,by decide⟩,_,_,rfl,rfl,⟨by decide,by decide,by decide⟩,_,_,rfl,rfl,(by show (0:Int) < 10 ^ 40; decide),?_⟩
      have m0:0≤cellF ns 39 / 8 % 10 ^ 40:=Int.emod_nonneg _ (by decide)
      have m1:cellF ns 39 / 8 % 10 ^ 40 < 10 ^ 40:=Int.emod_lt_of_pos _ (by decide)
      exact hu _ _ ⟨H1,ol,bk,os,sl,p0,p1,p2,s0,s1,s2,k1,k2,rs,F,c,_,kl,ys,_,_,_,_,W3,upd_same,ly,ry.mono (Tups.of gn),m0,m1,rfl⟩
  refine cutK (fun σ H=>∃ (H1:Hp) (ol bk:Addr) (os:List Str) (sl p0 p1 p2:Addr) (s0 s1 s2:Sn) (k1 k2:Nat) (rs:List Bdd.Rm) (F:Foot) (c far:Int) (kl:Addr) (ys:List V) (f5 f8 f9 f10:Option V),Thr51 a.a_Book K sc ns H1 ol bk os sl p0 p1 p2 s0 s1 s2 k1 k2 126 H rs F∧H kl = some (.lst ys)∧ys.length = rs.length∧RoomsV os H rs ys∧0≤far∧far < 10 ^ 40∧σ = [some (.ref sc),some (.ref ol),some (.int c),some (.ref sl),some (.ref bk),f5,some (.ref kl),some (.int far),f8,f9,f10]) (fun t z=>(pss_cons (ps_for PassesOwn.never rfl (pi_list (pe_lst (pa_cons (pe_un un_neg pe_int) (pa_cons (pe_op op_sub (pe_callB call_len_seq rfl T.n_len bt_len (pa_cons (pv 1) pa_nil)) pe_int) (pa_cons (pe_op op_sub (pe_un un_neg pe_int) (pv 7)) (pa_cons (pe_op op_add (pe_op op_sub (pe_callB call_len_seq rfl T.n_len bt_len (pa_cons (pv 1) pa_nil)) pe_int) (pv 7)) pa_nil)))))) (pg_name (i:=8) sc_law.nd rfl (Or.inl rfl)) (pss_one (ps_if (pt_not (pt_truth (pe_call G_x_law_is hr rfl T.m_x_law_is T.F_x_law_is.2 T.b_x_law_is .nil pass0 (pa_cons (pe_call G_x_law_met hr rfl T.m_x_law_met T.F_x_law_met.2 T.b_x_law_met .nil pass0 (pa_cons (pv 4) (pa_cons (pv 8) pa_nil))) (pa_cons pe_str pa_nil))) (fun _=>rfl))) (pss_one (ps_ret pe_bl)) pss_nil)))
      z)) ?_ ?_
  · rintro u hu σ H ⟨H1,ol,bk,os,sl,p0,p1,p2,s0,s1,s2,k1,k2,rs,F,c,far,kl,ys,f5,f8,f9,f10,W,hkl,ly,ry,f0,fz,rfl⟩
    have o1:=(L.ord W.led.bk).pos
    have o8:=(L.ord W.led.bk).le
    have hol:=W.led.same _ _ W.ho
    have lo:(os.map V.str).length = os.length:=List.length_map _
    have f1000:far.natAbs < 2 ^ 200:=Nat.lt_of_lt_of_le (by omega:far.natAbs < 10 ^ 40) (by decide)
    have p200:(2:Nat) ^ 200 + 300000 < 2 ^ 1000:=by decide
    refine ⟨1,rfl,_,rfl,ol,_,rfl,.inl (SqL.of hol),_,_,rfl,rfl,1,rfl,_,rfl,_,_,rfl,rfl,_,rfl,ol,_,rfl,.inl (SqL.of hol),_,_,rfl,rfl,_,rfl,_,_,rfl,rfl,by show 4≤sizeLine; decide,fun l hl=>?_⟩
    rw [lo]
    have hms:∀ x∈[V.int (-1),.int ((os.length:Nat) - 1),.int (-1 - far),.int ((os.length:Nat) - 1 + far)],∃ m:Int,x = .int m∧Bad (os.length - 1) m∧Small m:=fun x hx=>by
      simp only [List.mem_cons,List.not_mem_nil,or_false] at hx
      rcases hx with rfl | rfl | rfl | rfl
      · exact ⟨_,rfl,.inl (by decide),by decide⟩
      · exact ⟨_,rfl,.inr (by omega),small_of (by omega)⟩
      · exact ⟨_,rfl,.inl (by omega),small_of (by omega)⟩
      · exact ⟨_,rfl,.inr (by omega),small_of (by omega)⟩
    have g0:=Same.new hl (.lst [V.int (-1),.int ((os.length:Nat) - 1),.int (-1 - far),.int ((os.length:Nat) - 1 + far)])
    refine ⟨l,rfl,⟨_,SqL.of upd_same⟩,?_⟩
    have e0:upd H l (.lst [V.int (-1),.int ((os.length:Nat) - 1),.int (-1 - far),.int ((os.length:Nat) - 1 + far)]) l = some _:=upd_same
    show _
    generalize upd H l _ = H2 at g0 e0 ⊢
    refine for_list (xs:=[V.int (-1),.int ((os.length:Nat) - 1),.int (-1 - far),.int ((os.length:Nat) - 1 + far)]) (fun i σ H'=>Same H2 H'∧∃ f8:Option V,σ = [some (.ref sc),some (.ref ol),some (.int c),some (.ref sl),some (.ref bk),f5,some (.ref kl),some (.int far),f8,f9,f10]) ⟨Same.refl _,_,rfl⟩ (fun i σ H' _ ⟨g,_⟩=>SqL.of (g _ _ e0)) ?_ ?_
    · rintro i x σ H3 hx ⟨g,f8,rfl⟩
      obtain ⟨m,rfl,bm,sm⟩:=hms x (List.mem_of_getElem? hx)
      have gg:=g0.trans g
      exact ⟨_,rfl,_,rfl,.inr ⟨bk,os,rs,F,m,rfl,(W.new gg).led.bk,bm,sm,fun t lo' H4 g4 ht hlo=>⟨t,lo',"number", rfl,ht,SqL.of hlo,fun H5 g5=>⟨_,rfl,iteF ⟨g.trans (g4.trans g5),_,rfl⟩⟩⟩⟩⟩
    · rintro σ H3 ⟨g,f8,rfl⟩
      have gg:=g0.trans g
      exact hu _ _ ⟨H1,ol,bk,os,sl,p0,p1,p2,s0,s1,s2,k1,k2,rs,F,c,far,kl,ys,_,_,_,_,W.new gg,gg _ _ hkl,ly,ry.mono (Tups.of gg),f0,fz,rfl⟩
  refine cutK (fun σ H=>∃ (H1:Hp) (ol bk:Addr) (os:List Str) (sl p0 p1 p2:Addr) (s0 s1 s2:Sn) (k1 k2:Nat) (rs:List Bdd.Rm) (F:Foot) (c far:Int) (kl:Addr) (ys:List V) (f5 f8 f9 f10:Option V),Thr51 a.a_Book K sc ns H1 ol bk os sl p0 p1 p2 s0 s1 s2 k1 k2 126 H rs F∧H kl = some (.lst ys)∧ys.length = rs.length∧RoomsV os H rs ys∧0≤far∧far < 10 ^ 40∧σ = [some (.ref sc),some (.ref ol),some (.int c),some (.ref sl),some (.ref bk),f5,some (.ref kl),some (.int far),f8,f9,f10]) (fun t z=>(pss_cons (ps_for PassesOwn.never rfl (pi_range1 rfl T.n_range (pa_cons (pe_op op_sub (pe_callB call_len_seq rfl T.n_len bt_len (pa_cons (pv 1) pa_nil)) pe_int) pa_nil)) (pg_name (i:=8) sc_law.nd rfl (Or.inl rfl)) (pss_cons (ps_set (i:=10) sc_law.nd rfl (Or.inl rfl) (pe_op op_addL (pe_op op_addL (pe_slice sl_list (pv 1) po_none (po_some (pv 8))) (pe_lst (pa_cons (pe_ix ix_list (pv 1) (pe_op op_add (pv 8) pe_int) (fun _ _=>rfl)) (pa_cons (pe_ix ix_list (pv 1) (pv 8) (fun _ _=>rfl)) pa_nil)))) (pe_slice sl_list (pv 1) (po_some (pe_op op_add (pv 8) pe_int)) po_none)))
      (pss_cons (ps_set (i:=9) sc_law.nd rfl (Or.inl rfl) (pe_call G_x_law_met hr rfl T.m_x_law_met T.F_x_law_met.2 T.b_x_law_met .nil pass0 (pa_cons (pv 4) (pa_cons (pv 8) pa_nil))))
      (pss_cons (ps_if (PW.pt (pw_or (pt_not (pt_truth (pe_call G_x_law_fine hr rfl T.m_x_law_fine T.F_x_law_fine.2 T.b_x_law_fine .nil pass0 (pa_cons (pv 4) (pa_cons (pv 10) (pa_cons (pv 9) pa_nil)))) (fun _=>rfl))) (pw_or1 (pt_not (pt_truth (pe_call G_x_law_entered hr rfl T.m_x_law_entered T.F_x_law_entered.2 T.b_x_law_entered .nil pass0 (pa_cons (pv 4) (pa_cons (pe_slice sl_list (pv 3) po_none (po_some pe_int)) (pa_cons (pv 9) pa_nil)))) (fun _=>rfl)))))) (pss_one (ps_ret pe_bl)) pss_nil)
      (pss_one (ps_expr (pe_bm PySem.F.plainAttrs_list PySem.F.slot_list_append PySem.F.type_list_append mt_append (pe_ix ix_tup (pv 9) pe_int (fun _ _=>rfl)) (pa_cons pe_int pa_nil))))))))
      z)) ?_ ?_
  · rintro u hu σ H ⟨H1,ol,bk,os,sl,p0,p1,p2,s0,s1,s2,k1,k2,rs,F,c,far,kl,ys,f5,f8,f9,f10,W,hkl,ly,ry,f0,fz,rfl⟩
    have o1:=(L.ord W.led.bk).pos
    have o8:=(L.ord W.led.bk).le
    have hol:=W.led.same _ _ W.ho
    have lo:(os.map V.str).length = os.length:=List.length_map _
    have lrs:=W.led.len
    have eo:((os.length:Nat):Int) - 1 = ((os.length - 1:Nat):Int):=by omega
    refine ⟨_,rfl,ol,_,rfl,.inl (SqL.of hol),_,_,rfl,rfl,((os.length - 1:Nat):Int),?_,by omega,by omega,?_⟩
    · show [V.int ((((os.map V.str).length:Nat):Int) - 1)] = _
      rw [lo,eo]
    rw [Int.toNat_natCast]
    refine for_range (lo:=0) (fun i σ H'=>Same H H'∧∃ f8 f9 f10:Option V,σ = [some (.ref sc),some (.ref ol),some (.int c),some (.ref sl),some (.ref bk),f5,some (.ref kl),some (.int far),f8,f9,f10]) ⟨Same.refl _,_,_,_,rfl⟩ ?_ ?_
    · rintro i σ H0 hi ⟨g1,f8,f9,f10,rfl⟩
      rw [Int.zero_add]
      obtain ⟨us,x,y,vs,rfl,rfl⟩:=split2 (os:=os) (i:=i) (by omega)
      have ll:(us ++ x :: y :: vs).length = us.length + (vs.length + 1 + 1):=by rw [List.length_append,List.length_cons,List.length_cons]
      have lm:((us ++ x :: y :: vs).map V.str).length = us.length + (vs.length + 1 + 1):=by rw [List.length_map,ll]
      have hl1:=g1 _ _ hol
      refine ⟨_,rfl,_,rfl,_,rfl,ol,_,rfl,SqL.of hl1,fun s1' hs1=>?_⟩
      have e1:cutV ((us ++ x :: y :: vs).map V.str) none (some ((us.length:Nat):Int)) = us.map V.str:=by
        unfold cutV
        rw [HT.sIx_none,HT.sIx_nat,List.drop_zero,lm,Nat.sub_zero,Nat.min_eq_left (by omega),List.map_append,List.take_append_of_le_length (by rw [List.length_map]; exact Nat.le_refl _),List.take_of_length_le (by rw [List.length_map]; exact Nat.le_refl _)]
      rw [e1]
      have g2:=Same.new hs1 (.lst (us.map V.str))
      have hs2:upd H0 s1' (.lst (us.map V.str)) s1' = some (.lst (us.map V.str)):=upd_same
      have hl2:=g2 _ _ hl1
      have G2:=g1.trans g2
      generalize upd H0 s1' (.lst (us.map V.str)) = H2 at g2 hs2 hl2 G2
      refine ⟨_,rfl,_,rfl,_,_,rfl,rfl,ol,_,_,.str y,rfl,rfl,SqL.of hl2,?_,?_⟩
      · have e:((us.length:Nat):Int) + 1 = ((us.length + 1:Nat):Int):=by omega
        rw [e]
        exact atI_nat (by rw [List.getElem?_map,ex_b]; rfl)
      refine ⟨_,rfl,_,rfl,ol,_,_,.str x,rfl,rfl,SqL.of hl2,atI_nat (by rw [List.getElem?_map,ex_a]; rfl),by show 2≤sizeLine; decide,fun s3 hs3=>?_⟩
      have g3:=Same.new hs3 (.lst [.str y,.str x])
      have hs33:upd H2 s3 (.lst [.str y,.str x]) s3 = some (.lst [.str y,.str x]):=upd_same
      have hs23:=g3 _ _ hs2
      have hl3:=g3 _ _ hl2
      have G3:=G2.trans g3
      generalize upd H2 s3 (.lst [.str y,.str x]) = H3 at hs33 hs23 hl3 G3
      refine ⟨s1',s3,_,_,rfl,rfl,SqL.of hs23,SqL.of hs33,Nat.le_of_lt (small1000 (by rw [List.length_map]; show us.length + 2≤1000; omega)),fun s4 hs4=>?_⟩
      have g4:=Same.new hs4 (.lst (us.map V.str ++ [.str y,.str x]))
      have hs44:upd H3 s4 (.lst (us.map V.str ++ [.str y,.str x])) s4 = some (.lst (us.map V.str ++ [.str y,.str x])):=upd_same
      have hl4:=g4 _ _ hl3
      have G4:=G3.trans g4
      generalize upd H3 s4 (.lst (us.map V.str ++ [.str y,.str x])) = H4 at hs44 hl4 G4
      refine ⟨_,rfl,_,rfl,_,_,rfl,rfl,_,rfl,ol,_,rfl,SqL.of hl4,fun s5 hs5=>?_⟩
      have e5:cutV ((us ++ x :: y :: vs).map V.str) (some (((us.length:Nat):Int) + 2)) none = vs.map V.str:=by
        have e:((us.length:Nat):Int) + 2 = ((us.length + 2:Nat):Int):=by omega
        have em:(us ++ x :: y :: vs).map V.str = (us.map V.str ++ [.str x,.str y]) ++ vs.map V.str:=by simp
        unfold cutV
        rw [e,HT.sIx_none,HT.sIx_nat,lm,Nat.min_eq_left (by omega),em,List.drop_left' (by simp),List.take_of_length_le (by rw [List.length_map]; omega)]
      rw [e5]
      have g5:=Same.new hs5 (.lst (vs.map V.str))
      have hs55:upd H4 s5 (.lst (vs.map V.str)) s5 = some (.lst (vs.map V.str)):=upd_same
      have hs45:=g5 _ _ hs44
      have G5:=G4.trans g5
      generalize upd H4 s5 (.lst (vs.map V.str)) = H5 at hs55 hs45 G5
      refine ⟨s4,s5,_,_,rfl,rfl,SqL.of hs45,SqL.of hs55,Nat.le_of_lt (small1000 (by rw [List.length_append,List.length_map,List.length_map]; show us.length + 2 + vs.length≤1000; omega)),fun s6 hs6=>?_⟩
      have e6:us.map V.str ++ [.str y,.str x] ++ vs.map V.str = (us ++ y :: x :: vs).map V.str:=by simp
      rw [e6]
      have g6:=Same.new hs6 (.lst ((us ++ y :: x :: vs).map V.str))
      have hs66:upd H5 s6 (.lst ((us ++ y :: x :: vs).map V.str)) s6 = some (.lst ((us ++ y :: x :: vs).map V.str)):=upd_same
      have G6:=G5.trans g6
      generalize upd H5 s6 (.lst ((us ++ y :: x :: vs).map V.str)) = H6 at hs66 G6
      refine ⟨_,rfl,_,rfl,.inl ⟨bk,us,vs,x,y,rs,F,rfl,L.same W.led.bk G6,by omega,fun t nb l H7 ns' G js g7 ft ht hN hG fl nl hl lj mj hhi=>?_⟩⟩
      have W7:=W.new (G6.trans g7)
      refine ⟨_,rfl,_,rfl,_,rfl,bk,s6,t,nb,l,_,_,rs,ns',F,G,js,rfl,W7.led.bk,SqL.of (g7 _ _ hs66),ht,hN,ex_marks,hl,⟨lj,mj⟩,by omega,fun H8 g8=>⟨_,rfl,ite2 (fun z=>by cases z) (fun _=>?_)⟩⟩
      have W8:=W7.new g8
      refine ⟨_,rfl,_,rfl,2,rfl,sl,_,rfl,SqL.of (W8.led.same _ _ W8.hl),fun ql hql=>?_⟩
      have eq2:cutV [V.ref p0,.ref p1,.ref p2] none (some 2) = [.ref p0,.ref p1]:=rfl
      rw [eq2]
      have gq:=Same.new hql (.lst [V.ref p0,.ref p1])
      have eql:upd H8 ql (.lst [V.ref p0,.ref p1]) ql = some _:=upd_same
      generalize upd H8 ql _ = H9 at gq eql ⊢
      have W9:=W8.new gq
      have g79:=g8.trans gq
      have t9:=Tups.of W9.led.same
      refine ⟨_,rfl,bk,ql,t,nb,l,_,_,rs,ns',F,G,js,[s0,s1],[p0,p1],rfl,W9.led.bk,SqL.of eql,g79 _ _ ht,L.same hN g79,ex_marks,g79 _ _ hl,⟨lj,mj⟩,.cons (W.i0.mono t9) (.cons (W.i1.mono t9) .nil),by show 2≤3; decide,?_,fun H10 g10=>⟨_,rfl,ite2 (fun z=>by cases z) (fun _=>?_)⟩⟩
      · intro s' hs'
        simp only [List.mem_cons,List.not_mem_nil,or_false] at hs'
        rcases hs' with rfl | rfl
        · exact ⟨W.ok0.1,W.ok0.2.1,W.ok0.2.2,_,W.m1⟩
        · exact ⟨W.ok1.1,W.ok1.2.1,W.ok1.2.2,_,W.m2⟩
      have g710:=g79.trans g10
      refine ⟨_,rfl,t,_,1,.ref l,rfl,rfl,SqT.of (g710 _ _ ht),rfl,.inl ⟨rfl,_,SqL.of (g710 _ _ hl)⟩,l,_,_,rfl,rfl,g710 _ _ hl,by rw [List.length_map,lj]; exact small1000 (by omega),?_⟩
      exact ⟨(G6.trans (g7.trans g710)).over (G6.free fl) _,_,_,_,rfl⟩
    · rintro σ H' ⟨g,f8,f9,f10,rfl⟩
      exact hu _ _ ⟨H1,ol,bk,os,sl,p0,p1,p2,s0,s1,s2,k1,k2,rs,F,c,far,kl,ys,_,_,_,_,W.new g,g _ _ hkl,ly,ry.mono (Tups.of g),f0,fz,rfl⟩
  refine ⟨_,(pss_cons (ps_if (PW.pt (pw_or (pt_cmpR (op_neD rfl (hu8 hr)) (pe_meth0 (pv 4) T.c_Book T.e_Book_order G_Book_order hr T.b_Book_order .nil pass0) (pv 1) (nomark _)) (pw_or1 (pt_cmpR (op_neD rfl (hu8 hr)) (pe_lc0 (osc:=defScope S_law) (js:=[4]) rfl (by show LcOk (defScope S_law) _ "room" ["book"]; exact ⟨rfl,by decide +kernel,by decide +kernel,rfl,by decide +kernel,by decide +kernel,by decide +kernel⟩) rfl (pi_range1 rfl T.n_range (pa_cons (pe_meth0 (pv 4) T.c_Book T.e_Book_size G_Book_size hr T.b_Book_size .nil pass0) pa_nil)) (by show ∀ j∈([4]:List Nat),j < 11; decide) (fun cl C s₂ H₂ fp=>(pe_meth (pv 1) T.c_Book T.e_Book_room G_Book_room hr T.b_Book_room .nil pass0 (pa_cons (pv 0) pa_nil)))) (pv 6) (nomark _))))) (pss_one (ps_ret pe_bl)) pss_nil)
      (pss_cons (ps_expr (pe_meth (pv 4) T.c_Book T.e_Book_enter G_Book_enter hr T.b_Book_enter .nil pass0 (pa_cons (pe_ix ix_list (pv 3) pe_int (fun _ _=>rfl)) pa_nil)))
      (pss_cons (ps_if (pt_cmpR op_eq (pe_callB call_len_seq rfl T.n_len bt_len (pa_cons (pv 1) pa_nil)) pe_int (nomark _)) (pss_one (ps_ret pe_bl)) pss_nil)
      (pss_cons (ps_set (i:=9) sc_law.nd rfl (Or.inl rfl) (pe_call G_x_law_met hr rfl T.m_x_law_met T.F_x_law_met.2 T.b_x_law_met .nil pass0 (pa_cons (pv 4) (pa_cons pe_int pa_nil))))
      (pss_one (ps_ret (pe_and (pe_call G_x_law_fine hr rfl T.m_x_law_fine T.F_x_law_fine.2 T.b_x_law_fine .nil pass0 (pa_cons (pv 4) (pa_cons (pe_op op_addL (pe_lst (pa_cons (pe_ix ix_list (pv 1) pe_int (fun _ _=>rfl)) (pa_cons (pe_ix ix_list (pv 1) pe_int (fun _ _=>rfl)) pa_nil))) (pe_slice sl_list (pv 1) (po_some pe_int) po_none)) (pa_cons (pv 9) pa_nil)))) (pe_one (pe_call G_x_law_entered hr rfl T.m_x_law_entered T.F_x_law_entered.2 T.b_x_law_entered .nil pass0 (pa_cons (pv 4) (pa_cons (pv 3) (pa_cons (pv 9) pa_nil)))))))))))),?_⟩
  rintro σ H ⟨H1,ol,bk,os,sl,p0,p1,p2,s0,s1,s2,k1,k2,rs,F,c,far,kl,ys,f5,f8,f9,f10,W,hkl,ly,ry,f0,fz,rfl⟩
  have o1:=(L.ord W.led.bk).pos
  have o8:=(L.ord W.led.bk).le
  have lrs:=W.led.len
  obtain ⟨dx,fs,hins,hm⟩:=L.ins W.led.bk
  refine ⟨_,rfl,bk,dx,fs,rfl,hins,hm _ (by decide +kernel),bk,os,rs,F,rfl,W.led.bk,fun ol2 H2 g2 _ hol2=>?_⟩
  have W2:=W.new g2
  have hol3:=W2.led.same _ _ W2.ho
  refine ⟨_,rfl,true,(fun z=>by cases z.1),eq_strs (SqL.of hol2) (SqL.of hol3),_,rfl,iteF ?_⟩
  obtain ⟨dx2,fs2,hins2,hm2⟩:=L.ins W2.led.bk
  refine ⟨_,rfl,bk,dx2,fs2,rfl,hins2,hm2 _ (by decide +kernel),bk,os,rs,F,rfl,W2.led.bk,fun H3 g3=>?_⟩
  refine ⟨_,rfl,Int.le_trans (by decide) (Int.natCast_nonneg _),Int.lt_of_le_of_lt (show ((rs.length:Nat):Int)≤2000000 by omega) (by decide),?_⟩
  rw [Int.toNat_natCast]
  have W3:=W2.new g3
  refine lc_roomsC (os:=os) (Nat.le_refl _) (Nat.le_of_lt (small1000 (by omega))) (fun i H' Q0 x hi hx g hQ=>?_) (fun zs H4 zl g4 lz rz hzl=>?_)
  · have hB':=L.same W3.led.bk g
    obtain ⟨dx',fs',hins',hm'⟩:=L.ins hB'
    refine ⟨_,rfl,bk,dx',fs',rfl,hins',hm' _ (by decide +kernel),_,rfl,bk,os,rs,F,i,x,?_,hB',hx,fun v H3 g3 rv=>hQ v H3 g3 rv⟩
    show [V.ref bk,V.int (0 + (i:Int))] = _
    rw [Int.zero_add]
  have gn:=Same.new hzl (.lst zs)
  have g14:=(g2.trans g3).trans (g4.trans gn)
  refine ⟨_,rfl,true,(fun z=>by cases z.1),?_,_,rfl,iteF ?_⟩
  · refine eq_ll (SqL.of upd_same) (SqL.of (g14 _ _ hkl)) (lz.trans ly.symm) fun j x y hx hy=>?_
    obtain ⟨x1,c1,c2⟩:=rz.2 j x hx
    obtain ⟨x2,d1,d2⟩:=ry.2 j y hy
    rw [c1] at d1
    cases d1
    exact room_eq (c2.mono (Tups.of gn)) (d2.mono (Tups.of g14))
  have W4:=W.new g14
  generalize upd H4 zl _ = H5 at W4
  obtain ⟨dx4,fs4,hins4,hm4⟩:=L.ins W4.led.bk
  have t4:=Tups.of W4.led.same
  refine ⟨_,rfl,bk,dx4,fs4,rfl,hins4,hm4 _ (by decide +kernel),_,rfl,sl,_,_,.ref p2,rfl,rfl,SqL.of (W4.led.same _ _ W4.hl),atI_nat (j:=2) rfl,bk,p2,os,rs,F,s2,rfl,W4.led.bk,by omega,W.i2.mono t4,W.ok2.1,W.ok2.2.1,W.ok2.2.2,fun kk rs' H6 aw6 tu6 hB6 gr6 me6 hh6=>?_⟩
  have Ld6:=W4.led.grow aw6 hB6 hh6
  have l6:=Ld6.len
  have m1:=W.m1.grown (L.bk W4.led.bk) gr6
  have m2:=W.m2.grown (L.bk W4.led.bk) gr6
  have hol6:=Ld6.same _ _ W.ho
  have hsl6:=Ld6.same _ _ W.hl
  have t6:=Tups.of Ld6.same
  have lo:(os.map V.str).length = os.length:=List.length_map _
  refine ⟨_,rfl,ol,_,rfl,.inl (SqL.of hol6),rfl,_,rfl,ite2 (fun _=>q _) (fun cc=>?_)⟩
  have o2:0 + 1 < os.length:=by
    by_cases z:os.length = 1
    · refine absurd (decide_eq_true ?_) cc
      rw [lo,z]; rfl
    · omega
  obtain ⟨us,x,y,vs,rfl,hu0⟩:=split2 (os:=os) (i:=0) o2
  obtain rfl:=List.length_eq_zero_iff.mp hu0
  refine ⟨_,rfl,.inl ⟨bk,[],vs,x,y,rs',F,rfl,hB6,by omega,fun t nb l H7 ns' G js g7 ft ht hN hG fl nl hl lj mj hhi=>?_⟩⟩
  have hol7:=g7 _ _ hol6
  refine ⟨_,rfl,_,rfl,ol,_,_,.str y,rfl,rfl,SqL.of hol7,atI_nat (j:=1) rfl,_,rfl,ol,_,_,.str x,rfl,rfl,SqL.of hol7,atI_nat (j:=0) rfl,by show 2≤sizeLine; decide,fun s3 hs3=>?_⟩
  have g8:=Same.new hs3 (.lst [.str y,.str x])
  have e8:upd H7 s3 (.lst [.str y,.str x]) s3 = some _:=upd_same
  generalize upd H7 s3 _ = H8 at g8 e8 ⊢
  refine ⟨_,rfl,2,rfl,ol,_,rfl,SqL.of (g8 _ _ hol7),fun s5 hs5=>?_⟩
  have e5:cutV (([] ++ x :: y :: vs).map V.str) (some 2) none = vs.map V.str:=by
    have lm:(([] ++ x :: y :: vs).map V.str).length = vs.length + 2:=by simp
    have em:([] ++ x :: y :: vs).map V.str = [.str x,.str y] ++ vs.map V.str:=rfl
    unfold cutV
    rw [show (some (2:Int)) = some (((2:Nat):Int)) from rfl,HT.sIx_none,HT.sIx_nat,lm,Nat.min_eq_left (by omega),em]
    show (vs.map V.str).take (vs.length + 2 - 2) = _
    exact List.take_of_length_le (by rw [List.length_map]; omega)
  rw [e5]
  have g9:=Same.new hs5 (.lst (vs.map V.str))
  have e9:upd H8 s5 (.lst (vs.map V.str)) s5 = some _:=upd_same
  generalize upd H8 s5 _ = H9 at g9 e9 ⊢
  refine ⟨s3,s5,_,_,rfl,rfl,SqL.of (g9 _ _ e8),SqL.of e9,Nat.le_of_lt (small1000 (by rw [List.length_map]; have:=lo; simp at this o8; show 2 + vs.length≤1000; omega)),fun s6 hs6=>?_⟩
  have ga:=Same.new hs6 (.lst ([V.str y,.str x] ++ vs.map V.str))
  have ea:upd H9 s6 (.lst ([V.str y,.str x] ++ vs.map V.str)) s6 = some (.lst (([] ++ y :: x :: vs).map V.str)):=upd_same
  generalize upd H9 s6 _ = Ha at ga ea ⊢
  have g7a:=(g8.trans g9).trans ga
  refine ⟨_,rfl,bk,s6,t,nb,l,_,_,rs',ns',F,G,js,rfl,L.same hB6 (g7.trans g7a),SqL.of ea,g7a _ _ ht,L.same hN g7a,ex_marks,g7a _ _ hl,⟨lj,mj⟩,by omega,fun Hb gb=>⟨true,rfl,iteT ?_⟩⟩
  have g7b:=g7a.trans gb
  have g6b:=g7.trans g7b
  have tb:=t6.trans (Tups.of g6b)
  refine ⟨_,rfl,_,rfl,_,rfl,bk,sl,t,nb,l,_,_,rs',ns',F,G,js,[s0,s1,s2],[p0,p1,p2],rfl,L.same hB6 g6b,SqL.of (g6b _ _ hsl6),g7b _ _ ht,L.same hN g7b,ex_marks,g7b _ _ hl,⟨lj,mj⟩,.cons (W.i0.mono tb) (.cons (W.i1.mono tb) (.cons (W.i2.mono tb) .nil)),by show 3≤3; decide,?_,fun Hc gc=>q _⟩
  intro s' hs'
  simp only [List.mem_cons,List.not_mem_nil,or_false] at hs'
  rcases hs' with rfl | rfl | rfl
  · exact ⟨W.ok0.1,W.ok0.2.1,W.ok0.2.2,_,m1⟩
  · exact ⟨W.ok1.1,W.ok1.2.1,W.ok1.2.2,_,m2⟩
  · exact ⟨W.ok2.1,W.ok2.2.1,W.ok2.2.2,_,me6⟩
end
end K51
namespace K51
open PySem L2 Sen
section
variable {P:Program} {w:World} {K:PySem.W.Frag} {mg:Str→Option Value} {base:Heap} {a:Ad} {k:Nat}
theorem law_all (T:Txt P w K mg a) (base:Heap):FnOk P w K mg base CX0 60 a.a_law a.d_law ["script"] (spLaw K):=by
  have cell:FnOk P w K mg base CX0 1 a.a_x_law_cell_at a.d_x_law_cell_at ["script", "k"] (spCellAt K):=ok_cell_at (k:=0) T
  have draw:FnOk P w K mg base CX0 1 a.a_x_law_draw a.d_x_law_draw ["cell", "k", "bound"] spDraw:=ok_draw (k:=0) T
  have order:=ok_order (k:=1) T draw
  have sentence:=ok_sentence (k:=1) T cell draw
  have allRows:FnOk P w K mg base CX0 2 a.a_all_rows a.d_all_rows ["marks"] spAllRows:=ok_all_rows (k:=1) T
  have rowsWith:FnOk P w K mg base CX0 1 a.a_rows_with a.d_rows_with ["place", "marks"] spRowsWith:=ok_rows_with (k:=0) T
  have flipped:=ok_flipped (k:=1) T rowsWith
  have isMark:FnOk P w K mg base CX0 1 a.a_is_mark a.d_is_mark ["letter"] spIsMark:=ok_is_mark (k:=0) T
  have isOrder:=ok_is_order (k:=1) T isMark
  have lettersOf:FnOk P w K mg base CX0 1 a.a_letters_of a.d_letters_of ["sentence"] spLettersOf:=ok_letters_of (k:=0) T
  have partsOf:FnOk P w K mg base CX0 1 a.a_parts_of a.d_parts_of ["sentence"] spPartsOf:=ok_parts_of (k:=0) T
  have partsOfAll:=ok_parts_of_all (k:=1) T partsOf
  have shaped:=ok_is_shaped (k:=1) T isMark lettersOf partsOf
  have isSen:=ok_is_sentence (k:=2) T shaped partsOfAll
  have mustOrder:=ok_must_be_order (k:=2) T isOrder
  have mustSen:=ok_must_be_sentence (k:=3) T isSen
  have tuplesIn:=ok_tuples_in (k:=2) T partsOfAll
  have lettersIn:=ok_letters_in (k:=3) T tuplesIn (lettersOf.mono (by decide))
  have mustMark:FnOk P w K mg base CX0 1 a.a_must_have_mark a.d_must_have_mark ["order", "letter"] (spMustMark K):=ok_must_have_mark (k:=0) T
  have mustMarks:=ok_must_have_marks (k:=4) T lettersIn (mustMark.mono (by decide))
  have two:FnOk P w K mg base CX0 2 a.a_table_of_two a.d_table_of_two ["word", "one", "other", "every"] spTwo:=ok_table_of_two (k:=1) T
  have table:=ok_table_of (k:=2) T allRows (rowsWith.mono (by decide)) flipped (partsOf.mono (by decide)) two 24
  have heldAt:=ok_held_at (k:=2) T (rowsWith.mono (by decide)) flipped
  have hangs:=ok_hangs_on (k:=2) T flipped
  have first:=ok_first_place (k:=3) T hangs
  have roomWith:=ok_Book_room_withH (k:=4) T first (heldAt.mono (by decide)) 9
  have enter:=ok_Book_enterH (k:=26) T (mustSen.mono (by decide)) (mustMarks.mono (by decide)) table (roomWith.mono (by decide))
  have init:=ok_Book_init (k:=3) T mustOrder (allRows.mono (by decide))
  have mbr:FnOk P w K mg base CX0 1 a.a_Book_must_be_room a.d_Book_must_be_room ["self", "number"] (spMustRoom a.a_Book):=ok_Book_must_be_room (k:=0) T
  have tat:FnOk P w K mg base CX0 1 a.a_Book_table_at a.d_Book_table_at ["self", "number"] (spTableAt a.a_Book):=ok_Book_table_at (k:=0) T
  have ordr:FnOk P w K mg base CX0 1 a.a_Book_order a.d_Book_order ["self"] (spBookOrder (BookAt a.a_Book)):=ok_Book_order (k:=0) T
  have mbr':=mbr.mono (show 1≤13 by decide)
  have tat':=tat.mono (show 1≤13 by decide)
  have ordr':=ordr.mono (show 1≤13 by decide)
  have plc:FnOk P w K mg base CX0 1 a.a_Book_place_of a.d_Book_place_of ["self", "number"] (spPlaceOf a.a_Book):=ok_Book_place_of (k:=0) T
  have goi:FnOk P w K mg base CX0 1 a.a_Book_going a.d_Book_going ["self", "number", "value"] (spGoing a.a_Book):=ok_Book_going (k:=0) T
  have room:=ok_Book_room (k:=1) T mbr plc goi
  have size:FnOk P w K mg base CX0 2 a.a_Book_size a.d_Book_size ["self"] (spBookSize (BookAt a.a_Book)):=ok_Book_size (k:=1) T
  have withoutF:FnOk P w K mg base CX0 1 a.a_without a.d_without ["table", "other"] spWithout:=ok_without (k:=0) T
  have chosenF:=ok_chosen (k:=1) T withoutF
  have roomIn:=ok_room_inH (k:=13) T (room.mono (by decide)) (ordr.mono (by decide)) (rowsWith.mono (by decide)) (chosenF.mono (by decide)) tat' roomWith
  have roomsIn:=ok_rooms_inH (k:=14) T roomIn
  have reord:=ok_reorderedH (k:=14) T (ordr.mono (by decide)) (size.mono (by decide)) (init.mono (by decide)) roomsIn
  have cellF:FnOk P w K mg base CX0 1 a.a_x_law_cell_at a.d_x_law_cell_at ["script", "k"] (spCellF K):=ok_cell_f (k:=0) T
  have there:=(ok_Book_room_thereH (k:=4) T first (heldAt.mono (by decide)) (ok_Book_room_withH (k:=4) T first (heldAt.mono (by decide)) 0)).mono (show 5≤13 by decide)
  have enterT:=ok_Book_enterT (k:=26) T (mustSen.mono (by decide)) (mustMarks.mono (by decide)) table (there.mono (by decide))
  have exch:=ok_exchanged (k:=16) T (ordr.mono (by decide)) reord
  have exchR:=okR_exchanged (k:=16) T (ordr.mono (by decide))
  have exchE:FnOk P w K mg base (CXE P w) 17 a.a_exchanged a.d_exchanged ["book", "at"] (spExchE a.a_Book a.a_NoNumber):=(exch.lift (CX:=CXE P w)).orE exchR
  have which:∀ ex,FnOkH P w K mg base ex 58 a.a_x_law_which a.d_x_law_which ["e"] (spWhichB K a.a_BookError [a.a_NoOrder,a.a_NoMark,a.a_NoRoom,a.a_NoRow,a.a_NoNumber,a.a_NoWeights,a.a_NoShares,a.a_NoCover,a.a_TooGreat] ex):=fun ex=>ok_law_which (k:=57) T ex
  have isB:FnOk P w K mg base CX0 1 a.a_x_law_is a.d_x_law_is ["told", "word"] (spIsB K):=ok_law_is (k:=0) T
  have met:=ok_law_met (k:=58) T (exchE.mono (by decide)) which
  have lrows:FnOk P w K mg base CX0 1 a.a_x_law_rows a.d_x_law_rows ["size"] spLawRows:=ok_law_rows (k:=0) T
  have lwhole:FnOk P w K mg base CX0 1 a.a_x_law_whole a.d_x_law_whole ["found"] spWhole:=ok_whole (k:=0) T
  have leads:=ok_law_leads (k:=2) T room (ordr.mono (by decide))
  have same:=ok_law_same (k:=3) T (ordr.mono (by decide)) (lrows.mono (by decide)) leads
  have fine:=ok_law_fine (k:=4) T (ordr.mono (by decide)) (size.mono (by decide)) (lwhole.mono (by decide)) same
  have ent:=ok_law_entered (k:=27) T enterT
  exact ok_law (k:=58) T (cellF.mono (by decide)) (order.mono (by decide)) (sentence.mono (by decide)) (draw.mono (by decide)) (init.mono (by decide)) (enter.mono (by decide)) (ordr.mono (by decide)) (size.mono (by decide)) (room.mono (by decide)) met (isB.mono (by decide)) (fine.mono (by decide)) (ent.mono (by decide))
end
end K51
namespace PySem.W.Fast
def tw9366296597162599690:Nat:=0
def tw702609201118878691:Nat:=0
def tw10677950421662701512:Nat:=0
def tw5000011574956347243:Nat:=0
def tw2812452514372230674:Nat:=0
def tw71402328645795024:Nat:=0
def tw17675045538437727893:Nat:=0
def tw16771348680668392729:Nat:=0
def tw2548042871418354209:Nat:=0
def tw4981228690379839908:Nat:=0
def tw7078706779233839879:Nat:=0
def tw3334242688107846576:Nat:=0
def tw3641928013084145780:Nat:=0
def tw9694597391130888504:Nat:=0
def tw16644760192160574820:Nat:=0
def tw7562648694561211193:Nat:=0
def tw15557053022363722797:Nat:=0
def tw2105458644487996794:Nat:=0
def tw5013527960432079988:Nat:=0
def tw17858672048001846851:Nat:=0
def tw14414310062489401742:Nat:=0
def tw10015671011678116808:Nat:=0
def tw2344015550496419198:Nat:=0
def tw8102525107611220842:Nat:=0
def tw15319554205442814485:Nat:=0
def tw9634072369032414639:Nat:=0
def tw1660371441499403395:Nat:=0
def tw5263527659155597846:Nat:=0
def tw12252297092569314392:Nat:=0
def tw14184007390704740035:Nat:=0
def tw15151006604470687636:Nat:=0
def tw2013660757177285395:Nat:=0
def tw8929564125654872288:Nat:=0
def tw14284595037028144474:Nat:=0
def tw8619632336408732409:Nat:=0
def tw4674870859236452561:Nat:=0
def tw6376135807094888855:Nat:=0
def tw15644072950871585858:Nat:=0
def tw5621546935013829562:Nat:=0
def tw16114764796626208047:Nat:=0
def tw1747737629711953508:Nat:=0
def tw7778017960463944486:Nat:=0
def tw10773740747927250843:Nat:=0
def tw13651371722343297802:Nat:=0
def tw16391784002946049041:Nat:=0
def tw5019104132600605138:Nat:=0
def tw12719653834513434101:Nat:=0
def tw17423685253568067286:Nat:=0
def tw2787759491218769856:Nat:=0
def tw7670123453522064192:Nat:=0
def tw752020912905443307:Nat:=0
def tw10080098172140345098:Nat:=0
def tw1375182497781597034:Nat:=0
def tw15121598728463785355:Nat:=0
def tw6763014704578980046:Nat:=0
def tw13016469272241466262:Nat:=0
def tw11869994268036093128:Nat:=0
def tw3131963776068142250:Nat:=0
def tw12343216851105937412:Nat:=0
def tw12804468831588763795:Nat:=0
def tw13674304547970159879:Nat:=0
def tw6079697121197721461:Nat:=0
def tw17554067534329341207:Nat:=0
def tw1589683166530456602:Nat:=0
def tw1207772875016127457:Nat:=0
def tw1803629971201768207:Nat:=0
def tw13287708459987031046:Nat:=0
def tw14600840946947180181:Nat:=0
def tw9395058085881202190:Nat:=0
def tw5978721305283489921:Nat:=0
def tw14144987563115592796:Nat:=0
def tw15136080141425746616:Nat:=0
def tw3793983886030747018:Nat:=0
def tw5893462617681450845:Nat:=0
def tw964778006860845844:Nat:=0
def tw331090969789752559:Nat:=0
def tw7886634880162893268:Nat:=0
def tw16966227513250732716:Nat:=0
def tw8487263294637400368:Nat:=0
def tw10167893975866137752:Nat:=0
def tw13086270391853645743:Nat:=0
def tw18036686088368437429:Nat:=0
def tw1295752891183604430:Nat:=0
def tw4972076229141080975:Nat:=0
def tw10350070192868682154:Nat:=0
def tw12020495721585047119:Nat:=0
def tw4645923868931295687:Nat:=0
def tw6858595940144231770:Nat:=0
def tw5677994048265721926:Nat:=0
def tw18175266816336769590:Nat:=0
def tw12722838787662794073:Nat:=0
def tw15653787138678725906:Nat:=0
def tw7778845648100417916:Nat:=0
def tw8329566545649785169:Nat:=0
def tw9270464381565612573:Nat:=0
def tw11805352668342851546:Nat:=0
def tw977798697043538342:Nat:=0
def tw2374470023801390363:Nat:=0
def tw1732667881747438715:Nat:=0
def tw3079077539290442309:Nat:=0
def tw5947676725705020198:Nat:=0
def tw13415583099821892446:Nat:=0
def tw9646046272543658480:Nat:=0
def tw6717075628879463366:Nat:=0
def tw6363244027406113276:Nat:=0
def tw481827888945277348:Nat:=0
def tw2724067382705021223:Nat:=0
def tw6819698669462398702:Nat:=0
def tw16714583106867675930:Nat:=0
def tw1285945603880333269:Nat:=0
def tw6065977377446157288:Nat:=0
def tw5287151297330516414:Nat:=0
def tw8489521157203097003:Nat:=0
def tw15412481139456733535:Nat:=0
def tw10819134552290728927:Nat:=0
def tw15146510614133494602:Nat:=0
def tw16236559604732887473:Nat:=0
def tw11318221073202392809:Nat:=0
def tw2175545237757151678:Nat:=0
def tw5370794456534080763:Nat:=0
def tw16448647680773441940:Nat:=0
def tw10876747993823357373:Nat:=0
def tw14952266577703473210:Nat:=0
def tw8468677641128042681:Nat:=0
def tw633030561147105427:Nat:=0
def tw13259196632977172687:Nat:=0
def tw10970386698097895763:Nat:=0
def tw16620961104150877498:Nat:=0
def tw5719313446448766851:Nat:=0
def tw13324738782537259551:Nat:=0
def tw3931481084764603071:Nat:=0
def tw1731422487779827327:Nat:=0
def tw1983912605371753402:Nat:=0
def tw11261785902058830663:Nat:=0
def tw4242583356771994633:Nat:=0
def tw2298735143894679875:Nat:=0
def tw6626155550031433344:Nat:=0
def tw17413978950051337903:Nat:=0
def tw5683730943575694088:Nat:=0
def tw3102193152376680845:Nat:=0
def tw9669692588467334114:Nat:=0
def tw3679202503965574867:Nat:=0
def tw1355403412309015691:Nat:=0
def tw16746449651845420799:Nat:=0
def tw16407860330062971576:Nat:=0
def tw16779197409317415368:Nat:=0
def tw10458438726944221092:Nat:=0
def tw2665597545043885434:Nat:=0
def tw12789667332815694488:Nat:=0
def tw523054134280255215:Nat:=0
def tw16318558299732975010:Nat:=0
def tw4420156053425560708:Nat:=0
def tw5932238481993238529:Nat:=0
def tw12878533624176082013:Nat:=0
def tw9225650354463970323:Nat:=0
def tw8103741529108455217:Nat:=0
def tw13376010145071376133:Nat:=0
def tw3644246821780403281:Nat:=0
def tw7085112373753239501:Nat:=0
def tw9667787382724318146:Nat:=0
def tw10027918165136031787:Nat:=0
def tw13078955670423868052:Nat:=0
def tw8476220713743259361:Nat:=0
def tw7978471096292368922:Nat:=0
def tw14848855651659582953:Nat:=0
def tw2414785796565254205:Nat:=0
def tw433517702183836734:Nat:=0
def tw12585944590954832411:Nat:=0
def tw11503767271869641939:Nat:=0
def tw8543280570840734511:Nat:=0
def tw13042080124319565921:Nat:=0
def tw15848648905930471102:Nat:=0
def tw16589197387658742841:Nat:=0
def tw8753255019549448383:Nat:=0
def tw9352573686470332196:Nat:=0
def tw16918799042423698394:Nat:=0
def tw17016524830777901745:Nat:=0
def tw17595909970664495209:Nat:=0
def tw7679447576020346038:Nat:=0
def tw8089693516204645536:Nat:=0
def tw12998686777547418556:Nat:=0
def tw13366562181386857327:Nat:=0
def tw15892038823899902291:Nat:=0
def tw3070326486990622148:Nat:=0
def tw12868871185764868622:Nat:=0
def tw1647349243910471733:Nat:=0
def tw9786366039720710144:Nat:=0
def tw8423227259617353931:Nat:=0
def tw1371149996510676923:Nat:=0
def tw3834022147301794996:Nat:=0
def tw15748542813874982028:Nat:=0
def tw1054706794222873162:Nat:=0
def tw4241447008855266909:Nat:=0
def tw11075494961534363395:Nat:=0
def tw12034124475621543177:Nat:=0
def tw3066172622531449634:Nat:=0
def tw6112608537311129715:Nat:=0
def tw4456880791937806125:Nat:=0
def tw17458447561409724557:Nat:=0
def tw10605845189523392718:Nat:=0
def tw8389715444181694780:Nat:=0
def tw10496557099538234325:Nat:=0
def tw14807152719754204040:Nat:=0
def tw261481195160669599:Nat:=0
def tw5138852913004870939:Nat:=0
def tw15553249668160583802:Nat:=0
def tw9938864417159272692:Nat:=0
def tw13158795093102104112:Nat:=0
def tw3843552199392172911:Nat:=0
def tw4245904188679245151:Nat:=0
def tw5116646656814782824:Nat:=0
def tw5426243260698311918:Nat:=0
def tw11807203174462311004:Nat:=0
def tw3184669423191463998:Nat:=0
def tw16157135608637912234:Nat:=0
def tw5797392327605061942:Nat:=0
def tw2382545502469235113:Nat:=0
def tw14744036091458646527:Nat:=0
def tw12973785133416881545:Nat:=0
def tw8836136079423956773:Nat:=0
def tw14712987609485302646:Nat:=0
def tw1487873263678962712:Nat:=0
def tw5794359912622456644:Nat:=0
def tw6337647147244610355:Nat:=0
def tw429142060775920952:Nat:=0
def tw13424309179036082125:Nat:=0
def tw5042945798689367758:Nat:=0
def tw14119702369093399944:Nat:=0
def tw7377882886394583900:Nat:=0
def tw7418441164159120021:Nat:=0
def tw13708632908450362601:Nat:=0
def tw3731416435033605616:Nat:=0
def tw8962645438096221619:Nat:=0
def tw863567014965228826:Nat:=0
def tw17252815052280805818:Nat:=0
def tw12978253868333491751:Nat:=0
def tw1969457288756483203:Nat:=0
def tw9434049348754717757:Nat:=0
def tw12180011508338896269:Nat:=0
def tw15331576115100101177:Nat:=0
def tw5646446924083370249:Nat:=0
def tw17603234353620394267:Nat:=0
def tw498587277163044123:Nat:=0
def tw10279834504202881260:Nat:=0
def tw673776496050259308:Nat:=0
def tw3894354971476820418:Nat:=0
def tw2076296336043135996:Nat:=0
def tw8021666701894613566:Nat:=0
def tw11047763901225819348:Nat:=0
def tw4630525331628876619:Nat:=0
def tw4809715340366782308:Nat:=0
def tw1291362811186143977:Nat:=0
def tw15910888795214004407:Nat:=0
def tw13839706257350790801:Nat:=0
def tw2921670628443618798:Nat:=0
def tw12104794770643246118:Nat:=0
def tw12180462445757030610:Nat:=0
def tw7930883335680697837:Nat:=0
def tw4708122528770182252:Nat:=0
def tw10577699851568393736:Nat:=0
def tw11506853619784862970:Nat:=0
def tw6601334616732658465:Nat:=0
def tw979046199651412488:Nat:=0
def tw14105939777353215112:Nat:=0
def tw1611368354566479931:Nat:=0
def tw1909425663998799904:Nat:=0
def tw8104963230742584623:Nat:=0
def tw17599023956540284355:Nat:=0
def tw1610562318080336546:Nat:=0
def tw17753671692082888659:Nat:=0
def tw3726189545035015782:Nat:=0
def tw4195647615292245071:Nat:=0
def tw315977764112669806:Nat:=0
def tw1891083630709077776:Nat:=0
def tw4472545228757037970:Nat:=0
def tw6735285646394180593:Nat:=0
def tw10726038662384575103:Nat:=0
def tw16536537630388214660:Nat:=0
def tw11449805950069958840:Nat:=0
def tw557768208859116887:Nat:=0
def tw11141297727844322120:Nat:=0
def tw18209059620467744193:Nat:=0
def tw16676734835007132103:Nat:=0
def tw9927994207838319661:Nat:=0
def tw2483760447814313029:Nat:=0
def tw17578632821456203882:Nat:=0
def tw12299123357981749731:Nat:=0
def tw16924652090056799907:Nat:=0
def tw17310928765392059955:Nat:=0
def tw8550275933404089036:Nat:=0
def tw2464913683328887004:Nat:=0
def tw3319025108098100863:Nat:=0
def tw2032929164447912091:Nat:=0
def tw8201431084383466929:Nat:=0
def tw1339124453115216306:Nat:=0
def tw7965688930114599421:Nat:=0
def tw14526579285023045588:Nat:=0
def tw6296174360293365850:Nat:=0
def tw116911843167613335:Nat:=0
def tw2844678843561418562:Nat:=0
def tw13370498013553665933:Nat:=0
def tw6761514537355416003:Nat:=0
def tw14071028322747869234:Nat:=0
def tw8678820867588943514:Nat:=0
def tw7157009427074088:Nat:=0
def tw13369165887489520334:Nat:=0
def tw7261852694570565909:Nat:=0
def tw13864308682599450682:Nat:=0
def tw14994138926339128039:Nat:=0
def tw9805413492442479080:Nat:=0
def tw3030220532017440597:Nat:=0
def tw13948169348938339919:Nat:=0
def tw5745474579404800235:Nat:=0
def tw15852997126674393444:Nat:=0
def tw1856062541667009468:Nat:=0
def tw11468469303181657849:Nat:=0
def tw1125604049639327943:Nat:=0
def tw11921411016543757289:Nat:=0
def tw18331696748560253725:Nat:=0
def tw17147408974911412028:Nat:=0
def tw7088797188515177461:Nat:=0
def tw14800973910320221879:Nat:=0
def tw13151330970787465523:Nat:=0
def tw15768273823105291783:Nat:=0
def tw129776519541661495:Nat:=0
def tw15886585559318563150:Nat:=0
def tw2573693521616002519:Nat:=0
def tw16619956763080943948:Nat:=0
def tw1592369419590973199:Nat:=0
def tw13643024686466570824:Nat:=0
def tw11275241257440237204:Nat:=0
def tw17662885171930551787:Nat:=0
def tw15676659805596746139:Nat:=0
def tw1521448194844100091:Nat:=0
def tw3352874939468477269:Nat:=0
def tw13475911435021737575:Nat:=0
def tw2276707493046517460:Nat:=0
def tw15632101503950113420:Nat:=0
def tw7538060948899417941:Nat:=0
def tw12424270633308119583:Nat:=0
def tw764471778061729069:Nat:=0
def tw2147856333416856471:Nat:=0
def tw1923748107640095833:Nat:=0
def tw5046572957539520928:Nat:=0
def tw5317268464706149845:Nat:=0
def tw7483979167169966159:Nat:=0
def tw9706852351847833022:Nat:=0
def tw13839401298711831307:Nat:=0
def tw9429394019835138246:Nat:=0
def tw10123978404798456645:Nat:=0
def tw11988969946308908178:Nat:=0
def tw18267267131408662877:Nat:=0
def tw17904027759694609321:Nat:=0
def tw17430777249136996483:Nat:=0
def tw17519728028746296937:Nat:=0
def tw4977598422200648695:Nat:=0
def tw17120799570920469357:Nat:=0
def tw17299914630435410658:Nat:=0
def tw1487279255232597899:Nat:=0
def tw16296620202991797617:Nat:=0
def tw7811970982900909864:Nat:=0
def tw3102444901121257595:Nat:=0
def tw14206319312496400133:Nat:=0
def tw13745688321505079515:Nat:=0
def tw17861650015454257757:Nat:=0
def tw3755739181458706260:Nat:=0
def tw12780568144238787470:Nat:=0
def tw15982889826917834295:Nat:=0
def tw5320866001685850256:Nat:=0
def tw12069121997826532897:Nat:=0
def tw4513450768318666090:Nat:=0
def tw4377362039199420291:Nat:=0
def tw1675109409071584530:Nat:=0
def tw1530868547106919803:Nat:=0
def tw12745900226889321166:Nat:=0
def tw15858939215322927798:Nat:=0
def tw16346392178536682630:Nat:=0
def tw3102944222034201534:Nat:=0
def tw954053584133174433:Nat:=0
def tw18246752348029966090:Nat:=0
def tw4948507241055331185:Nat:=0
def tw13682187728285566080:Nat:=0
def tw13626953172910813334:Nat:=0
def tw2870548659990764573:Nat:=0
def tw650514788406519073:Nat:=0
def tw7626855681276153170:Nat:=0
def tw7693005320581796765:Nat:=0
def tw1817735113523746022:Nat:=0
def tw7798712284716488749:Nat:=0
def tw17537572031728609219:Nat:=0
end PySem.W.Fast
open PySem PySem.W PyProof.Rows
set_option maxRecDepth 100000 in
set_option maxHeartbeats 0 in
theorem PySem.Challenge.cw_decidebook_k51_neighbours_exchanged_holds : PySem.Challenge.rw_decidebook_k51_neighbours_exchanged.Holds := by
  w_on; o_law; k_head; (case hw => w_witness2)
  k_fill
  refine L2.walk_ofK (l := PySem.Challenge.rw_decidebook_k51_neighbours_exchanged) (n := 63) (k := 60) (x := "script") (CX := L2.CX0) (sp := Sen.spLaw) rfl (by decide) rfl (by first | exact ⟨rfl, by decide, by decide⟩ | exact ⟨rfl, rfl, by decide, by decide⟩) (fun w h Y => PySem.W.kIn_of Y) ?F ?S ?C
  case F =>
    intro w mg fa h KX G hmg
    have T : ∃ a, K51.Txt PySem.Challenge.rw_decidebook_k51_neighbours_exchanged.prog w (L2.KOf KX) mg a := by
      dsimp only [L2.KOf]
      refine' K51.txt_mk KX G ?a_Book ?a0 ?F0 ?a1 ?F1 ?a2 ?F2 ?a3 ?F3 ?a4 ?F4 ?a5 ?F5 ?a6 ?F6 ?a7 ?F7 ?a8 ?F8 ?a9 ?F9 ?a10 ?F10 ?a11 ?F11 ?a12 ?F12 ?a13 ?F13 ?a14 ?F14 ?a15 ?F15 ?a16 ?F16 ?a17 ?F17 ?a18 ?F18 ?a19 ?F19 ?a20 ?F20 ?a21 ?F21 ?a22 ?F22 ?a23 ?i23 ?F23 ?a24 ?i24 ?F24 ?a25 ?i25 ?F25 ?a26 ?i26 ?F26 ?a27 ?i27 ?F27 ?a28 ?i28 ?F28 ?a29 ?i29 ?F29 ?a30 ?i30 ?F30 ?a31 ?i31 ?F31 ?a32 ?i32 ?F32 ?a33 ?F33 ?a34 ?F34 ?a35 ?F35 ?a36 ?F36 ?a37 ?F37 ?a38 ?F38 ?a39 ?F39 ?a40 ?F40 ?a41 ?F41 ?a42 ?F42 ?a43 ?F43 ?a44 ?F44 ?a45 ?F45 ?a46 ?F46 ?a47 ?F47 ?a48 ?F48 ?a49 ?F49 ?a50 ?F50 ?pg_Book ?hd_Book ?po_Book ?sa_Book ?mk_Book ?kc_Book ?na_Book_marks ?na_Book_rooms ?na_Book_tables ?na_Book_numbers ?a_BookError ?a_NoOrder ?a_NoSentence ?a_NoMark ?a_NoRoom ?a_NoRow ?a_NoNumber ?a_NoWeights ?a_NoShares ?a_NoCover ?a_TooGreat ?cl_NoOrder ?ty_NoOrder ?cl_NoSentence ?ty_NoSentence ?cl_NoMark ?ty_NoMark ?cl_NoRoom ?ty_NoRoom ?cl_NoRow ?ty_NoRow ?cl_NoNumber ?ty_NoNumber ?cl_NoWeights ?ty_NoWeights ?cl_NoShares ?ty_NoShares ?cl_NoCover ?ty_NoCover ?cl_TooGreat ?ty_TooGreat ?ow_NoOrder ?ga_NoOrder ?gt_NoOrder ?ca_NoOrder ?mr_NoOrder ?ow_NoSentence ?ga_NoSentence ?gt_NoSentence ?ca_NoSentence ?mr_NoSentence ?ow_NoMark ?ga_NoMark ?gt_NoMark ?ca_NoMark ?mr_NoMark ?ow_NoRoom ?ga_NoRoom ?gt_NoRoom ?ca_NoRoom ?mr_NoRoom ?ow_NoNumber ?ga_NoNumber ?gt_NoNumber ?ca_NoNumber ?mr_NoNumber ?cl_BookError ?ty_BookError ?bx_BookError ?x_d ?z_ValueError ?a_MARKS ?l_MARKS ?v_MARKS ?a_MOST_TUPLES ?a_MOST_DEEP ?a_SHAPES ?l_SHAPES ?e_SHAPES ?s_SHAPES ?lSHAPES_0 ?vSHAPES_0 ?lSHAPES_1 ?vSHAPES_1 ?lSHAPES_2 ?vSHAPES_2 ?lSHAPES_3 ?vSHAPES_3 ?lSHAPES_4 ?vSHAPES_4 ?lSHAPES_5 ?vSHAPES_5 ?lSHAPES_6 ?vSHAPES_6 ?lSHAPES_7 ?vSHAPES_7 ?lSHAPES_8 ?vSHAPES_8 ?lSHAPES_9 ?vSHAPES_9 ?z_all ?z_bool ?z_dict ?z_int ?z_isinstance ?z_len ?z_list ?z_range ?z_set ?z_sorted ?z_str ?z_tuple ?z_zip
      (case a_Book => k_is)
      (case a0 => k_is)
      (case F0 => apply L2.fun_mk; k_is; k_is; k_is)
      (case a1 => k_is)
      (case F1 => apply L2.fun_mk; k_is; k_is; k_is)
      (case a2 => k_is)
      (case F2 => apply L2.fun_mk; k_is; k_is; k_is)
      (case a3 => k_is)
      (case F3 => apply L2.fun_mk; k_is; k_is; k_is)
      (case a4 => k_is)
      (case F4 => apply L2.fun_mk; k_is; k_is; k_is)
      (case a5 => k_is)
      (case F5 => apply L2.fun_mk; k_is; k_is; k_is)
      (case a6 => k_is)
      (case F6 => apply L2.fun_mk; k_is; k_is; k_is)
      (case a7 => k_is)
      (case F7 => apply L2.fun_mk; k_is; k_is; k_is)
      (case a8 => k_is)
      (case F8 => apply L2.fun_mk; k_is; k_is; k_is)
      (case a9 => k_is)
      (case F9 => apply L2.fun_mk; k_is; k_is; k_is)
      (case a10 => k_is)
      (case F10 => apply L2.fun_mk; k_is; k_is; k_is)
      (case a11 => k_is)
      (case F11 => apply L2.fun_mk; k_is; k_is; k_is)
      (case a12 => k_is)
      (case F12 => apply L2.fun_mk; k_is; k_is; k_is)
      (case a13 => k_is)
      (case F13 => apply L2.fun_mk; k_is; k_is; k_is)
      (case a14 => k_is)
      (case F14 => apply L2.fun_mk; k_is; k_is; k_is)
      (case a15 => k_is)
      (case F15 => apply L2.fun_mk; k_is; k_is; k_is)
      (case a16 => k_is)
      (case F16 => apply L2.fun_mk; k_is; k_is; k_is)
      (case a17 => k_is)
      (case F17 => apply L2.fun_mk; k_is; k_is; k_is)
      (case a18 => k_is)
      (case F18 => apply L2.fun_mk; k_is; k_is; k_is)
      (case a19 => k_is)
      (case F19 => apply L2.fun_mk; k_is; k_is; k_is)
      (case a20 => k_is)
      (case F20 => apply L2.fun_mk; k_is; k_is; k_is)
      (case a21 => k_is)
      (case F21 => apply L2.fun_mk; k_is; k_is; k_is)
      (case a22 => k_is)
      (case F22 => apply L2.fun_mk; k_is; k_is; k_is)
      (case a23 => k_is)
      (case i23 => k_is)
      (case F23 => apply L2.fun_mk; k_is; k_is; k_is)
      (case a24 => k_is)
      (case i24 => k_is)
      (case F24 => apply L2.fun_mk; k_is; k_is; k_is)
      (case a25 => k_is)
      (case i25 => k_is)
      (case F25 => apply L2.fun_mk; k_is; k_is; k_is)
      (case a26 => k_is)
      (case i26 => k_is)
      (case F26 => apply L2.fun_mk; k_is; k_is; k_is)
      (case a27 => k_is)
      (case i27 => k_is)
      (case F27 => apply L2.fun_mk; k_is; k_is; k_is)
      (case a28 => k_is)
      (case i28 => k_is)
      (case F28 => apply L2.fun_mk; k_is; k_is; k_is)
      (case a29 => k_is)
      (case i29 => k_is)
      (case F29 => apply L2.fun_mk; k_is; k_is; k_is)
      (case a30 => k_is)
      (case i30 => k_is)
      (case F30 => apply L2.fun_mk; k_is; k_is; k_is)
      (case a31 => k_is)
      (case i31 => k_is)
      (case F31 => apply L2.fun_mk; k_is; k_is; k_is)
      (case a32 => k_is)
      (case i32 => k_is)
      (case F32 => apply L2.fun_mk; k_is; k_is; k_is)
      (case a33 => k_is)
      (case F33 => apply L2.fun_mk; k_is; k_is; k_is)
      (case a34 => k_is)
      (case F34 => apply L2.fun_mk; k_is; k_is; k_is)
      (case a35 => k_is)
      (case F35 => apply L2.fun_mk; k_is; k_is; k_is)
      (case a36 => k_is)
      (case F36 => apply L2.fun_mk; k_is; k_is; k_is)
      (case a37 => k_is)
      (case F37 => apply L2.fun_mk; k_is; k_is; k_is)
      (case a38 => k_is)
      (case F38 => apply L2.fun_mk; k_is; k_is; k_is)
      (case a39 => k_is)
      (case F39 => apply L2.fun_mk; k_is; k_is; k_is)
      (case a40 => k_is)
      (case F40 => apply L2.fun_mk; k_is; k_is; k_is)
      (case a41 => k_is)
      (case F41 => apply L2.fun_mk; k_is; k_is; k_is)
      (case a42 => k_is)
      (case F42 => apply L2.fun_mk; k_is; k_is; k_is)
      (case a43 => k_is)
      (case F43 => apply L2.fun_mk; k_is; k_is; k_is)
      (case a44 => k_is)
      (case F44 => apply L2.fun_mk; k_is; k_is; k_is)
      (case a45 => k_is)
      (case F45 => apply L2.fun_mk; k_is; k_is; k_is)
      (case a46 => k_is)
      (case F46 => apply L2.fun_mk; k_is; k_is; k_is)
      (case a47 => k_is)
      (case F47 => apply L2.fun_mk; k_is; k_is; k_is)
      (case a48 => k_is)
      (case F48 => apply L2.fun_mk; k_is; k_is; k_is)
      (case a49 => k_is)
      (case F49 => apply L2.fun_mk; k_is; k_is; k_is)
      (case a50 => k_is)
      (case F50 => apply L2.fun_mk; k_is; k_is; k_is)
      (case pg_Book => k_is)
      (case hd_Book => k_is)
      (case po_Book => k_is)
      (case sa_Book => k_is)
      (case mk_Book => k_is)
      (case kc_Book => k_is)
      (case na_Book_marks => k_is)
      (case na_Book_rooms => k_is)
      (case na_Book_tables => k_is)
      (case na_Book_numbers => k_is)
      (case a_BookError => k_is)
      (case a_NoOrder => k_is)
      (case a_NoSentence => k_is)
      (case a_NoMark => k_is)
      (case a_NoRoom => k_is)
      (case a_NoRow => k_is)
      (case a_NoNumber => k_is)
      (case a_NoWeights => k_is)
      (case a_NoShares => k_is)
      (case a_NoCover => k_is)
      (case a_TooGreat => k_is)
      (case cl_NoOrder => k_is)
      (case ty_NoOrder => k_is)
      (case cl_NoSentence => k_is)
      (case ty_NoSentence => k_is)
      (case cl_NoMark => k_is)
      (case ty_NoMark => k_is)
      (case cl_NoRoom => k_is)
      (case ty_NoRoom => k_is)
      (case cl_NoRow => k_is)
      (case ty_NoRow => k_is)
      (case cl_NoNumber => k_is)
      (case ty_NoNumber => k_is)
      (case cl_NoWeights => k_is)
      (case ty_NoWeights => k_is)
      (case cl_NoShares => k_is)
      (case ty_NoShares => k_is)
      (case cl_NoCover => k_is)
      (case ty_NoCover => k_is)
      (case cl_TooGreat => k_is)
      (case ty_TooGreat => k_is)
      (case ow_NoOrder => k_exc)
      (case ga_NoOrder => k_is)
      (case gt_NoOrder => k_is)
      (case ca_NoOrder => k_is)
      (case mr_NoOrder => rfl)
      (case ow_NoSentence => k_exc)
      (case ga_NoSentence => k_is)
      (case gt_NoSentence => k_is)
      (case ca_NoSentence => k_is)
      (case mr_NoSentence => rfl)
      (case ow_NoMark => k_exc)
      (case ga_NoMark => k_is)
      (case gt_NoMark => k_is)
      (case ca_NoMark => k_is)
      (case mr_NoMark => rfl)
      (case ow_NoRoom => k_exc)
      (case ga_NoRoom => k_is)
      (case gt_NoRoom => k_is)
      (case ca_NoRoom => k_is)
      (case mr_NoRoom => rfl)
      (case ow_NoNumber => k_exc)
      (case ga_NoNumber => k_is)
      (case gt_NoNumber => k_is)
      (case ca_NoNumber => k_is)
      (case mr_NoNumber => rfl)
      (case cl_BookError => k_is)
      (case ty_BookError => k_is)
      (case bx_BookError => k_is)
      (case x_d => rfl)
      (case z_ValueError => k_is)
      (case a_MARKS => k_is)
      (case l_MARKS => k_is)
      (case v_MARKS => rfl)
      (case a_MOST_TUPLES => k_is)
      (case a_MOST_DEEP => k_is)
      (case a_SHAPES => k_is)
      (case l_SHAPES => k_is)
      (case e_SHAPES => rfl)
      (case s_SHAPES => rfl)
      (case lSHAPES_0 => k_is)
      (case vSHAPES_0 => rfl)
      (case lSHAPES_1 => k_is)
      (case vSHAPES_1 => rfl)
      (case lSHAPES_2 => k_is)
      (case vSHAPES_2 => rfl)
      (case lSHAPES_3 => k_is)
      (case vSHAPES_3 => rfl)
      (case lSHAPES_4 => k_is)
      (case vSHAPES_4 => rfl)
      (case lSHAPES_5 => k_is)
      (case vSHAPES_5 => rfl)
      (case lSHAPES_6 => k_is)
      (case vSHAPES_6 => rfl)
      (case lSHAPES_7 => k_is)
      (case vSHAPES_7 => rfl)
      (case lSHAPES_8 => k_is)
      (case vSHAPES_8 => rfl)
      (case lSHAPES_9 => k_is)
      (case vSHAPES_9 => rfl)
      (case z_all => k_is)
      (case z_bool => k_is)
      (case z_dict => k_is)
      (case z_int => k_is)
      (case z_isinstance => k_is)
      (case z_len => k_is)
      (case z_list => k_is)
      (case z_range => k_is)
      (case z_set => k_is)
      (case z_sorted => k_is)
      (case z_str => k_is)
      (case z_tuple => k_is)
      (case z_zip => k_is)
    obtain ⟨a, T⟩ := T
    have e0 := hmg.symm.trans T.m_law
    cases e0
    exact ⟨_, T.x_law, fun base kb nb => K51.law_all T base⟩
  case S => exact fun K H a ns hl hO hS => ⟨a, ns, rfl, hS, hl, fun _ => rfl⟩
  case C => exact fun _ _ _ _ h => h
