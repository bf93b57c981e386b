import PyProof.Rows.All
import Wide.All
import OpenK.AllK
import Wide.FinOn
import Lean
import PyProof.EqAt
import PyProof.EqKinds
import PyProof.TupleCall
import KE.KRevIter
import PySem.Challenge.RW_decidebook_k77_whole_worlds_hang_togethe
set_option Elab.async false
set_option linter.all false
set_option maxRecDepth 100000
namespace L2
open PySem PySem.Spec PyProof.Rows
abbrev Key:=Sum Int Str
def keyIs:Key→Value→Bool
  | .inl k,v=>Value.isInt k v
  | .inr x,v=>Value.isStrOf x v
def keyH (w:World):Key→Int
  | .inl k=>hashInt k
  | .inr x=>hashStr w x
theorem keyIs_shape:∀ {k:Key} {v:Value},keyIs k v = true→(∃ i t,k = Sum.inl i∧v = Value.int i t)∨(∃ x t,k = Sum.inr x∧v = Value.str x t)
  | .inl i,v,h=>by
    obtain ⟨t,e⟩:=Value.isInt_shape (k:=i) (v:=v) h
    exact .inl ⟨i,t,rfl,e⟩
  | .inr x,v,h=>by
    obtain ⟨t,e⟩:=Value.isStrOf_shape (x:=x) (v:=v) h
    exact .inr ⟨x,t,rfl,e⟩
theorem keyIs_int (i:Int) (t:Tok):keyIs (.inl i) (.int i t) = true:=by simp [keyIs,Value.isInt]
theorem keyIs_str (x:Str) (t:Tok):keyIs (.inr x) (.str x t) = true:=by simp [keyIs,Value.isStrOf]
theorem key_ll (a b:Int):decide ((Sum.inl a:Key) = Sum.inl b) = (a == b):=by
  by_cases e:a = b
  · subst e; simp
  · have h:¬ (Sum.inl a:Key) = Sum.inl b:=fun q=>e (Sum.inl.inj q)
    rw [decide_eq_false h]
    exact (beq_eq_false_iff_ne.mpr e).symm
theorem key_rr (a b:Str):decide ((Sum.inr a:Key) = Sum.inr b) = decide (a = b):=by
  by_cases e:a = b
  · subst e; simp
  · have h:¬ (Sum.inr a:Key) = Sum.inr b:=fun q=>e (Sum.inr.inj q)
    rw [decide_eq_false h,decide_eq_false e]
theorem key_lr (a:Int) (b:Str):decide ((Sum.inl a:Key) = Sum.inr b) = false:=decide_eq_false (fun q=>nomatch q)
theorem key_rl (a:Str) (b:Int):decide ((Sum.inr a:Key) = Sum.inl b) = false:=decide_eq_false (fun q=>nomatch q)
def mixKind (prog:Program) (w:World):PySem.KeyKind prog w Key where
  is:=keyIs
  hash:=keyH w
  inj:=fun v a b ha hb=>by
    rcases keyIs_shape ha with ⟨i,t,rfl,rfl⟩ | ⟨x,t,rfl,rfl⟩
    · rcases keyIs_shape hb with ⟨j,u,rfl,e⟩ | ⟨y,u,rfl,e⟩
      · injection e with e1 _; rw [e1]
      · exact nomatch e
    · rcases keyIs_shape hb with ⟨j,u,rfl,e⟩ | ⟨y,u,rfl,e⟩
      · exact nomatch e
      · injection e with e1 _; rw [e1]
  byValue:=fun k v h=>by
    rcases keyIs_shape h with ⟨i,t,rfl,rfl⟩ | ⟨x,t,rfl,rfl⟩ <;> rfl
  pyHash:=fun hv h=>by
    rcases keyIs_shape hv with ⟨i,t,rfl,rfl⟩ | ⟨x,t,rfl,rfl⟩
    · exact wpAny_pyHash_int h
    · exact wpAny_pyHash_str h
  eqBool:=fun hu hv h=>by
    rcases keyIs_shape hu with ⟨i,t,rfl,rfl⟩ | ⟨x,t,rfl,rfl⟩
    · rcases keyIs_shape hv with ⟨j,u,rfl,rfl⟩ | ⟨y,u,rfl,rfl⟩
      · rw [key_ll] at h; exact wpAny_eqBool_int h
      · rw [key_lr] at h; exact SeqAt.EqAt.int_str i t y u _ _ _ _ h
    · rcases keyIs_shape hv with ⟨j,u,rfl,rfl⟩ | ⟨y,u,rfl,rfl⟩
      · rw [key_rl] at h; exact SeqAt.EqAt.str_int x t j u _ _ _ _ h
      · rw [key_rr] at h; exact wpAny_eqBool_str h
  «strs»:=fun k x t v h=>by
    rcases keyIs_shape h with ⟨i,u,rfl,e⟩ | ⟨y,u,rfl,e⟩
    · exact nomatch e
    · injection e with e1 _
      subst e1
      cases v <;> rfl
theorem mixKind_int (prog:Program) (w:World) (i:Int) (t:Tok):(mixKind prog w).is (.inl i) (.int i t) = true:=keyIs_int i t
theorem mixKind_str (prog:Program) (w:World) (x:Str) (t:Tok):(mixKind prog w).is (.inr x) (.str x t) = true:=keyIs_str x t
end L2
namespace L2
open PySem PySem.Spec PyProof.Rows
inductive V where
  | non | bl (b:Bool) | int (i:Int) | str (x:Str) | byt (b:Array UInt8) | flt (b:UInt64) | ref (a:Addr) | ty (n:String)
  deriving DecidableEq
def RelV:V→Value→Prop
  | .non,u=>u = Value.none
  | .bl b,u=>u = Value.bool b
  | .int i,u=>∃ t,u = Value.int i t
  | .str x,u=>∃ t,u = Value.str x t
  | .byt b,u=>∃ t,u = Value.bytes b t
  | .flt b,u=>∃ t,u = Value.float b t
  | .ref a,u=>u = Value.ref a
  | .ty n,u=>u = Value.type n
abbrev Vals:List V→List Value→Prop:=Paired RelV
theorem Vals.length {xs:List V} {us:List Value} (r:Vals xs us):xs.length = us.length:=Paired.length r
theorem Vals.get:∀ {xs:List V} {us:List Value} {i:Nat} {x:V},Vals xs us→xs[i]? = some x→∃ u,us[i]? = some u∧RelV x u
  | _,_,_,_,.nil,e=>by simp at e
  | _,_,0,_,.cons r _,e=>by simp at e; subst e; exact ⟨_,rfl,r⟩
  | _,_,i + 1,x,.cons _ t,e=>by
    obtain ⟨u,h1,h2⟩:=Vals.get (i:=i) (x:=x) t (by simpa using e)
    exact ⟨u,by simpa using h1,h2⟩
theorem Vals.append:∀ {xs ys:List V} {us ws:List Value},Vals xs us→Vals ys ws→Vals (xs ++ ys) (us ++ ws)
  | _,_,_,_,.nil,s=>s
  | _,_,_,_,.cons r t,s=>.cons r (Vals.append t s)
theorem Vals.take:∀ {xs:List V} {us:List Value} (n:Nat),Vals xs us→Vals (xs.take n) (us.take n)
  | _,_,0,_=>.nil
  | _,_,_ + 1,.nil=>.nil
  | _,_,n + 1,.cons r t=>.cons r (Vals.take n t)
theorem Vals.drop:∀ {xs:List V} {us:List Value} (n:Nat),Vals xs us→Vals (xs.drop n) (us.drop n)
  | _,_,0,r=>r
  | _,_,_ + 1,.nil=>.nil
  | _,_,n + 1,.cons _ t=>Vals.drop n t
def RelO:Option V→Option Value→Prop
  | some v,some u=>RelV v u
  | none,none=>True
  | _,_=>False
def KV {κ:Type}:List (κ × V)→List (κ × Value)→Prop:=Paired fun (p:κ × V) (q:κ × Value)=>p.1 = q.1∧RelV p.2 q.2
def kV:Key→V
  | .inl i=>.int i
  | .inr x=>.str x
inductive HO where
  | lst (xs:List V)
  | tup (xs:List V)
  | dK (kvs:List (Key × V)) | dT (kvs:List (List Key × V))
  | set (S:Int→Bool) (n:Nat)
  | ins (C dx:Addr) (fs:List (Str × V))
  | own (x:Addr)
  | xd (fs:List (Str × V))
  | met (f x:Addr)
  | rng (lo hi:Int)
  | frz (o:Obj) (u:HO)
  | tbl (ps:Array Value)
  | ext (φ:Heap→Prop)
abbrev Hp:=Addr→Option HO
def upd (H:Hp) (a:Addr) (o:HO):Hp:=fun b=>if b = a then some o else H b
theorem upd_same {H:Hp} {a:Addr} {o:HO}:upd H a o a = some o:=by unfold upd; rw [if_pos rfl]
theorem upd_ne {H:Hp} {a b:Addr} {o:HO} (h:b≠a):upd H a o b = H b:=by unfold upd; rw [if_neg h]
theorem upd_upd {H:Hp} {a:Addr} {o u:HO}:upd (upd H a o) a u = upd H a u:=by
  funext b; unfold upd; split <;> rfl
theorem ne_of {H:Hp} {a b:Addr} {o u:HO} (h:H a = some o) (h':H b = some u) (d:o≠u):a≠b:=by
  intro e; subst e; rw [h] at h'; exact d (Option.some.inj h')
theorem ne_of_none {H:Hp} {a b:Addr} {o:HO} (h:H a = some o) (h':H b = none):a≠b:=by
  intro e; subst e; rw [h] at h'; cases h'
section
variable (P:Program) (w:World)
def ObjOk (H:Hp) (h:Heap) (a:Addr):HO→Prop
  | .lst xs=>xs.length≤sizeLine∧∃ (its:List Value) (n:Nat),Vals xs its∧h.get? a = some { cls:=.type "list", data:=.seq its.toArray n }
  | .tup xs=>xs.length≤sizeLine∧∃ its:List Value,Vals xs its∧IsTup h a its.toArray
  | .dK kvs=>kvs.length≤sizeLine∧(a == sysModules) = false∧∃ vs,KV kvs vs∧h.DictOf (mixKind P w) a vs
  | .dT kvs=>kvs.length≤sizeLine∧(a == sysModules) = false∧∃ xs:List (List Key × Addr × Value),
      Paired (fun (p:List Key × V) (q:List Key × Addr × Value)=>p.1 = q.1∧H q.2.1 = some (.tup (p.1.map kV))∧RelV p.2 q.2.2) kvs xs ∧
      ∃ o es ep,h.get? a = some o∧o.ExactDict∧o.data = .dict es ep∧es.toList = xs.map (entryOfKey (tupleKind (mixKind P w)))∧(xs.map (·.1)).Nodup
  | .set S n=>h.SetOf (intKind P w) a S n
  | .ins C dx fs=>H dx = some (.own a)∧fs.length≤1000∧dx≠a∧h.get? a = some (PySem.W.instObj C dx) ∧
      ∃ mA,h.Ns1 dx mA∧(∀ f,RelO (fs.lookup f) (mA f))∧PySem.Within mA (fs.map (·.1))
  | .own _=>∃ o,h.get? a = some o
  | .xd fs=>∃ mA,h.Ns1 a mA∧∀ f,RelO (fs.lookup f) (mA f)
  | .rng lo hi=>∃ t u v,h.get? a = some { cls:=.type "range", data:=.fields #[.int lo t,.int hi u,.int 1 v] }
  | .frz o u=>h.get? a = some o∧ObjOk H h a u
  | .tbl ps=>h.get? a = some { cls:=.none,data:=.fields ps }
  | .met f x=>h.get? a = some (PySem.W.methodObj (.ref f) (.ref x))
  | .ext φ=>φ h∧(∃ o,h.get? a = some o)∧∀ h1 h2:Heap,φ h1→(∀ o,h1.get? a = some o→h2.get? a = some o)→φ h2
def HOk (H:Hp) (h:Heap):Prop:=∀ a o,H a = some o→ObjOk P w H h a o
end
section
variable {P:Program} {w:World} {H H':Hp} {h h':Heap} {a:Addr} {o:HO}
theorem ObjOk.lt (x:ObjOk P w H h a o):a < h.objs.size:=by
  cases o with
  | lst xs=>obtain ⟨_,_,_,_,e⟩:=x; exact Heap.lt_size e
  | tup xs=>obtain ⟨_,_,_,p⟩:=x; exact p.lt
  | dK kvs=>obtain ⟨_,_,_,_,o,_,_,e,_⟩:=x; exact Heap.lt_size e
  | dT kvs=>obtain ⟨_,_,_,_,o,_,_,e,_⟩:=x; exact Heap.lt_size e
  | set S n=>obtain ⟨o,_,_,_,e,_⟩:=x; exact Heap.lt_size e
  | ins C dx fs=>obtain ⟨_,_,_,e,_⟩:=x; exact Heap.lt_size e
  | own y=>obtain ⟨_,e⟩:=x; exact Heap.lt_size e
  | xd fs=>obtain ⟨_,⟨_,_,_,e,_⟩,_⟩:=x; exact Heap.lt_size e
  | rng lo hi=>obtain ⟨_,_,_,e⟩:=x; exact Heap.lt_size e
  | frz ob u=>obtain ⟨e,_⟩:=x; exact Heap.lt_size e
  | tbl ps=>exact Heap.lt_size (show h.get? a = some _ from x)
  | met f y=>exact Heap.lt_size (show h.get? a = some _ from x)
  | ext φ=>obtain ⟨_,⟨_,e⟩,_⟩:=x; exact Heap.lt_size e
theorem Paired.mapP {α β:Type} {F G:α→β→Prop}:∀ {l₁:List α} {l₂:List β},Paired F l₁ l₂→(∀ a b,F a b→G a b)→Paired G l₁ l₂
  | _,_,.nil,_=>.nil
  | _,_,.cons r t,f=>.cons (f _ _ r) (Paired.mapP t f)
theorem ObjOk.stay (x:ObjOk P w H h a o) (k:∀ b u,(b = a∨H b = some (.own a))→h.get? b = some u→h'.get? b = some u)
    (ho:∀ b,H b = some (.own a)→H' b = some (.own a)) (ht:∀ b xs,H b = some (.tup xs)→H' b = some (.tup xs)):ObjOk P w H' h' a o:=by
  induction o with
  | lst xs=>obtain ⟨z,its,n,r,e⟩:=x; exact ⟨z,its,n,r,k _ _ (.inl rfl) e⟩
  | tup xs=>obtain ⟨z,its,r,ob,e,c⟩:=x; exact ⟨z,its,r,ob,k _ _ (.inl rfl) e,c⟩
  | dK kvs=>obtain ⟨z,y,vs,r,ob,es,ep,e,c⟩:=x; exact ⟨z,y,vs,r,ob,es,ep,k _ _ (.inl rfl) e,c⟩
  | dT kvs =>
    obtain ⟨z,y,xs,r,ob,es,ep,e,c⟩:=x
    exact ⟨z,y,xs,Paired.mapP r fun p q z=>⟨z.1,ht _ _ z.2.1,z.2.2⟩,ob,es,ep,k _ _ (.inl rfl) e,c⟩
  | set S n=>obtain ⟨ob,es,ep,t,e,c⟩:=x; exact ⟨ob,es,ep,t,k _ _ (.inl rfl) e,c⟩
  | ins C dx fs =>
    obtain ⟨d,z,ne,e,mA,⟨od,es,ep,e2,c⟩,r⟩:=x
    exact ⟨ho _ d,z,ne,k _ _ (.inl rfl) e,mA,⟨od,es,ep,k _ _ (.inr d) e2,c⟩,r⟩
  | own y=>obtain ⟨ob,e⟩:=x; exact ⟨ob,k _ _ (.inl rfl) e⟩
  | xd fs=>obtain ⟨mA,⟨od,es,ep,e,c⟩,r⟩:=x; exact ⟨mA,⟨od,es,ep,k _ _ (.inl rfl) e,c⟩,r⟩
  | rng lo hi=>obtain ⟨t,u,v,e⟩:=x; exact ⟨t,u,v,k _ _ (.inl rfl) e⟩
  | frz ob u ih=>obtain ⟨e,q⟩:=x; exact ⟨k _ _ (.inl rfl) e,ih q⟩
  | tbl ps =>
    have e:h.get? a = some { cls:=.none,data:=.fields ps }:=x
    show h'.get? a = some { cls:=.none,data:=.fields ps }
    exact k a _ (.inl rfl) e
  | met f y =>
    have e:h.get? a = some (PySem.W.methodObj (.ref f) (.ref y)):=x
    show h'.get? a = some (PySem.W.methodObj (.ref f) (.ref y))
    exact k a _ (.inl rfl) e
  | ext φ=>obtain ⟨p,⟨o,e⟩,st⟩:=x; exact ⟨st _ _ p fun o q=>k _ _ (.inl rfl) q,⟨o,k _ _ (.inl rfl) e⟩,st⟩
theorem HOk.lt (x:HOk P w H h) (e:H a = some o):a < h.objs.size:=(x a o e).lt
theorem HOk.fresh (x:HOk P w H h) (e:h.objs.size≤a):H a = none:=by
  cases q:H a with
  | none=>rfl
  | some u=>exact absurd (Nat.lt_of_lt_of_le (x.lt q) e) (Nat.lt_irrefl _)
theorem HOk.kept (x:HOk P w H h) (k:∀ b u,h.get? b = some u→h'.get? b = some u):HOk P w H h':=fun a o e =>
  (x a o e).stay (fun b u _ q=>k b u q) (fun _ q=>q) fun _ _ q=>q
theorem HOk.laid (x:HOk P w H h) (k:∀ b u,h.get? b = some u→h'.get? b = some u) (hp:h.objs.size≤a) (new:ObjOk P w (upd H a o) h' a o):HOk P w (upd H a o) h':=fun b u e=>by
  have hn:=x.fresh hp
  by_cases hb:b = a
  · subst hb; rw [upd_same] at e; cases e; exact new
  · rw [upd_ne hb] at e
    exact (x b u e).stay (fun c v _ q=>k c v q) (fun c q=>by rw [upd_ne (ne_of_none q hn)]; exact q) fun c xs q=>by rw [upd_ne (ne_of_none q hn)]; exact q
end
def Rd (H:Hp) (a:Addr) (u:HO):Prop:=H a = some u∨∃ o,H a = some (.frz o u)
theorem Rd.ok {P:Program} {w:World} {H:Hp} {h:Heap} {a:Addr} {u:HO} (r:Rd H a u) (x:HOk P w H h):ObjOk P w H h a u:=by
  rcases r with r | ⟨o,r⟩
  · exact x a u r
  · obtain ⟨_,q⟩:=x a _ r
    exact q
def Mut:Option HO→Prop
  | some (.lst _)=>True
  | some (.dK _)=>True
  | some (.dT _)=>True
  | some (.set _ _)=>True
  | some (.ins _ _ _)=>True
  | some (.ext _)=>True
  | _=>False
section
variable {P:Program} {w:World} {H:Hp} {h h':Heap} {x e:Addr} {o':HO}
theorem HOk.write (ok:HOk P w H h) (mu:Mut (H x)) (he:e = x∨H e = some (.own x)) (k:∀ b u,b≠e→h.get? b = some u→h'.get? b = some u) (heo:∃ u,h'.get? e = some u)
    (new:ObjOk P w (upd H x o') h' x o'):HOk P w (upd H x o') h':=fun b u q=>by
  have nown:∀ c y,H c = some (.own y)→c≠x:=fun c y r z=>by subst z; rw [r] at mu; exact mu
  have ntup:∀ c xs,H c = some (.tup xs)→c≠x:=fun c xs r z=>by subst z; rw [r] at mu; exact mu
  by_cases hb:b = x
  · subst hb; rw [upd_same] at q; cases q; exact new
  · rw [upd_ne hb] at q
    by_cases hbe:b = e
    · have q':H b = some (.own x):=by
        rcases he with z | z
        · exact absurd (hbe.trans z) hb
        · rw [hbe]; exact z
      rw [q] at q'; cases q'
      obtain ⟨v,hv⟩:=heo
      exact ⟨v,by rw [hbe]; exact hv⟩
    · refine (ok b u q).stay (fun c v hc r=>k c v ?_ r) (fun c r=>by rw [upd_ne (nown c b r)]; exact r) fun c xs r=>by rw [upd_ne (ntup c xs r)]; exact r
      rcases hc with rfl | hc
      · exact hbe
      · rintro rfl
        rcases he with z | z
        · exact nown c b hc z
        · rw [hc] at z; cases z; exact hb rfl
end
structure Un (fs ex:List Addr) (H H':Hp) (h h':Heap):Prop where
  keep:∀ b o,h.get? b = some o→H b = none→b ∉ fs→b ∉ ex→h'.get? b = some o
  slot:∀ b o,h.get? b = some o→H b = none→b∈fs→b ∉ ex→∃ sl,h'.get? b = some { o with slots:=sl }
  free:∀ b o,h.get? b = some o→H b = none→b ∉ ex→H' b = none
  there:∀ b o,h.get? b = some o→b ∉ ex→∃ o',h'.get? b = some o'
  tups:∀ b xs,H b = some (.tup xs)→H' b = some (.tup xs)
  frzs:∀ b o u,H b = some (.frz o u)→H' b = some (.frz o u)
  tbls:∀ b ps,H b = some (.tbl ps)→∃ more,H' b = some (.tbl (ps ++ more))
section
variable {fs fs' ex ex':List Addr} {H H1 H2:Hp} {h h1 h2 h':Heap} {a x e:Addr} {o:HO}
theorem Un.any (u:Un fs ex H H1 h h1) {b:Addr} {ob:Obj} (q:h.get? b = some ob) (n:H b = none) (hx:b ∉ ex):∃ sl,h1.get? b = some { ob with slots:=sl }:=by
  by_cases hb:b∈fs
  · exact u.slot b ob q n hb hx
  · exact ⟨ob.slots,u.keep b ob q n hb hx⟩
theorem Un.kept (k:∀ b u,h.get? b = some u→h'.get? b = some u):Un fs ex H H h h' :=
  ⟨fun b ob q _ _ _=>k b ob q,fun b ob q _ _ _=>⟨ob.slots,k b ob q⟩,fun _ _ _ n _=>n,fun b ob q _=>⟨ob,k b ob q⟩,fun _ _ q=>q,fun _ _ _ q=>q,fun _ ps q=>⟨#[],by rw [q]; simp⟩⟩
theorem Un.refl:Un fs ex H H h h:=Un.kept fun _ _ q=>q
theorem Un.laid (k:∀ b u,h.get? b = some u→h'.get? b = some u) (hp:h.objs.size≤a) (hn:H a = none):Un fs ex H (upd H a o) h h' where
  keep:=fun b u q _ _ _=>k b u q
  slot:=fun b u q _ _ _=>⟨u.slots,k b u q⟩
  free:=fun b u q n _=>by rw [upd_ne (Nat.ne_of_lt (Nat.lt_of_lt_of_le (Heap.lt_size q) hp))]; exact n
  there:=fun b u q _=>⟨u,k b u q⟩
  tups:=fun b xs q=>by rw [upd_ne (ne_of_none q hn)]; exact q
  frzs:=fun b u xs q=>by rw [upd_ne (ne_of_none q hn)]; exact q
  tbls:=fun b ps q=>⟨#[],by rw [upd_ne (ne_of_none q hn),q]; simp⟩
theorem Un.write (mu:Mut (H x)) (he:e = x∨H e = some (.own x)) (k:∀ b u,b≠e→h.get? b = some u→h'.get? b = some u) (heo:∃ u,h'.get? e = some u):Un fs ex H (upd H x o) h h':=by
  have hx:∀ b,H b = none→b≠x:=fun b n z=>by subst z; rw [n] at mu; exact mu
  have hb:∀ b,H b = none→b≠e:=fun b n z=>by
    subst z
    rcases he with r | r
    · exact hx b n r
    · rw [n] at r; cases r
  have hm:∀ b u,H b = some u→¬ Mut (some u)→b≠x:=fun b u q nm z=>by subst z; rw [q] at mu; exact nm mu
  refine ⟨fun b u q n _ _=>k b u (hb b n) q,fun b u q n _ _=>⟨u.slots,k b u (hb b n) q⟩,fun b u q n _=>by rw [upd_ne (hx b n)]; exact n,fun b u q _=>?_,
    fun b xs q=>by rw [upd_ne (hm b _ q fun z=>z)]; exact q,fun b u xs q=>by rw [upd_ne (hm b _ q fun z=>z)]; exact q,fun b ps q=>⟨#[],by rw [upd_ne (hm b _ q fun z=>z),q]; simp⟩⟩
  by_cases hbe:b = e
  · subst hbe; exact heo
  · exact ⟨u,k b u hbe q⟩
end
def trk (h:Heap) (H:Hp):List Addr:=(List.range h.objs.size).filter fun a=>(H a).isSome
def hidT (h:Heap) (H:Hp):Heap:=PySem.W.hideAll h (trk h H)
theorem hidT_size (h:Heap) (H:Hp):(hidT h H).objs.size = h.objs.size:=PySem.W.hideAll_size _ _
theorem hidT_get {h:Heap} {H:Hp} {b:Addr} {o:Obj} (e:h.get? b = some o) (n:H b = none):(hidT h H).get? b = some o :=
  PySem.W.hideAll_get _ e fun hm=>by
    have q:(H b).isSome = true:=(List.mem_filter.mp hm).2
    rw [n] at q; simp at q
theorem of_hidT {h:Heap} {H:Hp} {b:Addr} {o:Obj} (e:(hidT h H).get? b = some o):h.get? b = some o∧H b = none:=by
  have e':h.get? b = some o:=PySem.W.of_hideAll (trk h H) e
  refine ⟨e',?_⟩
  cases q:H b with
  | none=>rfl
  | some x =>
    have hm:b∈trk h H:=List.mem_filter.mpr ⟨List.mem_range.mpr (Heap.lt_size e'),by simp [q]⟩
    have z:(hidT h H).get? b = none:=PySem.W.hideAll_none (trk h H) hm
    rw [z] at e; cases e
end L2
namespace L2
open PySem PySem.Spec PyProof.Rows
structure Mod (K:PySem.W.Frag) (mg:Str→Option Value) (base:Heap):Prop where
  kin:K.In base
  glob:base.Ns mainGlobals mg
  blt:∃ mb,base.Ns builtinsNs mb∧∀ x:Str,x ≠ "__name__" → mb x = bootBuiltins x
  nolimit:base.NoLimit
structure Cx where
  prog:Program
  w:World
  K:PySem.W.Frag
  mg:Str→Option Value
  base:Heap
  A:Around
  N:List Str
  s₀:Shared
  H₀:Hp
  env:Env
  outer:List Env
  stack:List Env
  ex:List Addr
  fn:Str→Bool
  calm:Bool
  pn:List (Addr × Obj)
  xe:Value→Shared→Prop
def frs (l:List Env):List Addr:=l.filterMap (·.frame)
abbrev Cx.fs (X:Cx):List Addr:=frs X.outer
def Vis (sc:Scope) (x:Str):Prop:=sc.names.lookup x = some .local∨sc.names.lookup x = some .cell∨sc.names.lookup x = some .free
def Loc (sc:Scope) (x:Str):Prop:=sc.names.lookup x = some .local∨sc.names.lookup x = some .cell
def Look (env:Env) (h:Heap) (m:Str→Option Value) (x:Str) (u:Value):Prop :=
  (env.kindOf x = some .local∧m x = some u)∨((env.kindOf x = some .cell∨env.kindOf x = some .free)∧∃ c,env.cells.lookup x = some c∧h.IsCell c (some u))
structure Cx.Ok (X:Cx):Prop where
  mod:Mod X.K X.mg X.base
  kind:X.env.scope.kind = .function
  glob:X.env.globals = mainGlobals
  blt:X.env.builtins = builtinsNs
  above:X.s₀.heap.objs.size≤X.env.locals
  inj:∀ x y c,X.env.cells.lookup x = some c→X.env.cells.lookup y = some c→x = y
  has:∀ x,(X.env.kindOf x = some .cell∨X.env.kindOf x = some .free)→∃ c,X.env.cells.lookup x = some c
  cab:∀ x c,X.fn x = true→X.env.cells.lookup x = some c→X.s₀.heap.objs.size≤c
  hd:X.calm = true→X.A.handled = none
  frames:X.A.frames = some X.stack
  stk:X.stack = X.outer∨(X.stack = X.env :: X.outer∧X.env.frame = some X.env.locals)
  exf:∀ b∈X.ex,b≠X.env.locals∧∀ x c,X.env.cells.lookup x = some c→c≠b
  bs:∀ b o,X.base.get? b = some o→X.s₀.heap.get? b = some o∧X.H₀ b = none
  bsz:X.base.objs.size≤X.s₀.heap.objs.size
  noex:∀ b o,X.base.get? b = some o→b ∉ X.ex
  exfs:∀ b∈X.ex,b ∉ X.fs
  funs:X.s₀.heap.FunFrames X.base X.outer
  frf:∀ b∈X.fs,X.H₀ b = none
structure Inv (X:Cx) (pins:List (Addr × Obj)) (σ:List (Option V)) (H:Hp) (s:Shared):Prop where
  ok:X.Ok
  os:s.os = X.s₀.os
  bare:AllBare s.gens
  base:Un X.fs X.ex X.H₀ H X.s₀.heap s.heap
  loc:∃ m,s.heap.Ns X.env.locals m∧∀ (i:Nat) (x:Str) (v:V),X.N[i]? = some x→σ[i]? = some (some v)→Vis X.env.scope x→∃ u,RelV v u∧Look X.env s.heap m x u
  cell:∀ x c,X.env.cells.lookup x = some c→∃ v,s.heap.IsCell c v
  free:H X.env.locals = none
  freeC:∀ x c,X.env.cells.lookup x = some c→H c = none
  pin:∀ p∈X.pn ++ pins,s.heap.get? p.1 = some p.2∧H p.1 = none∧p.1≠X.env.locals∧p.1 ∉ X.fs∧∀ v,p.2.data≠.cell v
  hok:HOk X.prog X.w H s.heap
  len:σ.length = X.N.length
section
variable {X:Cx} {pins:List (Addr × Obj)} {σ:List (Option V)} {H H':Hp} {s:Shared} {h':Heap}
theorem Cx.Ok.nofr (ok:X.Ok) {b:Addr} {o:Obj} (e:X.base.get? b = some o):b ∉ X.fs:=fun hb=>by
  have:=(ok.funs.mem hb).1
  rw [e] at this; cases this
theorem Inv.bs (I:Inv X pins σ H s):∀ b o,X.base.get? b = some o→s.heap.get? b = some o∧H b = none:=fun b o e =>
  ⟨I.base.keep b o (I.ok.bs b o e).1 (I.ok.bs b o e).2 (I.ok.nofr e) (I.ok.noex b o e),I.base.free b o (I.ok.bs b o e).1 (I.ok.bs b o e).2 (I.ok.noex b o e)⟩
theorem Inv.bk (I:Inv X pins σ H s):∀ b o,X.base.get? b = some o→s.heap.get? b = some o:=fun b o e=>(I.bs b o e).1
theorem Inv.mod (I:Inv X pins σ H s):Mod X.K X.mg X.base:=I.ok.mod
theorem Inv.kIn (I:Inv X pins σ H s):X.K.In s.heap:=I.ok.mod.kin.keeps I.bk
theorem Inv.lt (I:Inv X pins σ H s):X.env.locals < s.heap.objs.size:=let ⟨_,hn,_⟩:=I.loc; hn.lt
theorem Inv.sz (I:Inv X pins σ H s):X.s₀.heap.objs.size≤s.heap.objs.size:=Nat.le_trans I.ok.above (Nat.le_of_lt I.lt)
theorem Inv.nofs (I:Inv X pins σ H s) {a:Addr} (h:s.heap.objs.size≤a):a ∉ X.fs:=fun hb=>by
  obtain ⟨_,o,ho,_⟩:=I.ok.funs.mem hb
  exact absurd (Nat.lt_of_lt_of_le (Heap.lt_size ho) (Nat.le_trans I.sz h)) (Nat.lt_irrefl _)
theorem Inv.cne (I:Inv X pins σ H s):∀ x c,X.env.cells.lookup x = some c→c≠X.env.locals:=fun x c e z=>by
  obtain ⟨v,o,ho,hd⟩:=I.cell x c e
  obtain ⟨m,⟨o',es,ep,ho',hd',_⟩,_⟩:=I.loc
  rw [z,ho'] at ho; cases ho; rw [hd'] at hd; cases hd
theorem Inv.funs (I:Inv X pins σ H s):s.heap.FunFrames X.base X.outer:=by
  have all:∀ (l:List Env),(∀ b∈frs l,b∈X.fs)→X.s₀.heap.FunFrames X.base l→s.heap.FunFrames X.base l:=by
    intro l
    induction l with
    | nil=>intro _ _; trivial
    | cons env r ih =>
      intro hs hl
      obtain ⟨hk,⟨L,o,hf,hn,ho,hd⟩,hr⟩:=hl
      have hL:L∈X.fs:=hs L (by unfold frs; rw [List.filterMap_cons,hf]; exact List.mem_cons_self)
      obtain ⟨sl,e⟩:=I.base.slot L o ho (I.ok.frf L hL) hL fun z=>I.ok.exfs L z hL
      exact ⟨hk,⟨L,_,hf,hn,e,hd⟩,ih (fun b hb=>hs b (by unfold frs; rw [List.filterMap_cons,hf]; exact List.mem_cons_of_mem _ hb)) hr⟩
  exact all X.outer (fun _ hb=>hb) I.ok.funs
theorem Inv.stack (I:Inv X pins σ H s):s.heap.FunFrames X.base X.stack:=by
  rcases I.ok.stk with e | ⟨e,hf⟩
  · rw [e]; exact I.funs
  · rw [e]
    obtain ⟨m,hn,_⟩:=I.loc
    refine .cons (by rw [I.ok.kind]; decide) hf hn ?_ I.funs
    exact Heap.get?_none_of_le (Nat.le_trans I.ok.bsz I.ok.above)
theorem Inv.stkSub (I:Inv X pins σ H s):∀ b∈frs X.stack,b∈X.env.locals :: X.fs:=fun b hb=>by
  rcases I.ok.stk with e | ⟨e,hf⟩
  · rw [e] at hb; exact List.mem_cons_of_mem _ hb
  · rw [e] at hb
    unfold frs at hb
    rw [List.filterMap_cons,hf] at hb
    exact hb
theorem Inv.stkFree (I:Inv X pins σ H s):∀ b∈frs X.stack,H b = none:=fun b hb=>by
  rcases List.mem_cons.mp (I.stkSub b hb) with e | hb
  · rw [e]; exact I.free
  · obtain ⟨_,o,ho,_⟩:=I.ok.funs.mem hb
    exact I.base.free b o ho (I.ok.frf b hb) fun z=>I.ok.exfs b z hb
theorem Inv.step {g':Array GenState} {t':Nat} {d':Drawn} {ch:List Addr} (I:Inv X pins σ H s)
    (hch:∀ b∈ch,(b∈X.ex∨X.s₀.heap.objs.size≤b)∧b≠X.env.locals∧(∀ x c,X.env.cells.lookup x = some c→c≠b)∧∀ p∈X.pn ++ pins,p.1≠b)
    (keep:∀ b o,b≠X.env.locals→b ∉ X.fs→b ∉ ch→s.heap.get? b = some o→H b = none→h'.get? b = some o)
    (slot:∀ b o,b≠X.env.locals→b∈X.fs→b ∉ ch→s.heap.get? b = some o→H b = none→∃ sl,h'.get? b = some { o with slots:=sl }) (free:∀ b o,b ∉ ch→s.heap.get? b = some o→H b = none→H' b = none)
    (there:∀ b o,b ∉ ch→s.heap.get? b = some o→∃ o',h'.get? b = some o')
    (tups:∀ b xs,H b = some (.tup xs)→H' b = some (.tup xs)) (frzs:∀ b o u,H b = some (.frz o u)→H' b = some (.frz o u)) (tbls:∀ b ps,H b = some (.tbl ps)→∃ more,H' b = some (.tbl (ps ++ more)))
    (ns:∀ m,s.heap.Ns X.env.locals m→h'.Ns X.env.locals m) (hok:HOk X.prog X.w H' h') (hg:AllBare g') :
    Inv X pins σ H' { s with heap:=h',gens:=g',drawn:=d',toks:=t' }:=by
  have neL:∀ b o,X.s₀.heap.get? b = some o→b≠X.env.locals:=fun b o e=>Nat.ne_of_lt (Nat.lt_of_lt_of_le (Heap.lt_size e) I.ok.above)
  have neC:∀ b o,X.s₀.heap.get? b = some o→b ∉ X.ex→b ∉ ch:=fun b o e hx hb=>by
    rcases (hch b hb).1 with z | z
    · exact hx z
    · exact absurd (Nat.lt_of_lt_of_le (Heap.lt_size e) z) (Nat.lt_irrefl _)
  have cellK:∀ x c,X.env.cells.lookup x = some c→∀ v,s.heap.IsCell c v→h'.IsCell c v:=fun x c e v ⟨o,ho,hd⟩=>by
    have nch:c ∉ ch:=fun z=>(hch c z).2.2.1 x c e rfl
    by_cases hc:c∈X.fs
    · obtain ⟨sl,q⟩:=slot c o (I.cne x c e) hc nch ho (I.freeC x c e)
      exact ⟨_,q,hd⟩
    · exact ⟨o,keep c o (I.cne x c e) hc nch ho (I.freeC x c e),hd⟩
  refine ⟨I.ok,I.os,hg,⟨fun b o e n hb hx=>?_,fun b o e n hb hx=>?_,fun b o e n hx=>?_,fun b o e hx=>?_,fun b xs e=>tups b xs (I.base.tups b xs e),fun b o xs e=>frzs b o xs (I.base.frzs b o xs e),fun b ps e=>?_⟩,?_,fun x c e=>?_,?_,fun x c e=>?_,fun p hp=>?_,hok,I.len⟩
  · exact keep b o (neL b o e) hb (neC b o e hx) (I.base.keep b o e n hb hx) (I.base.free b o e n hx)
  · obtain ⟨sl,e1⟩:=I.base.slot b o e n hb hx
    obtain ⟨sl',e2⟩:=slot b _ (neL b o e) hb (neC b o e hx) e1 (I.base.free b o e n hx)
    exact ⟨sl',e2⟩
  · obtain ⟨o',e1⟩:=I.base.there b o e hx
    exact free b o' (neC b o e hx) e1 (I.base.free b o e n hx)
  · obtain ⟨o',e1⟩:=I.base.there b o e hx
    exact there b o' (neC b o e hx) e1
  · obtain ⟨m1,e1⟩:=I.base.tbls b ps e
    obtain ⟨m2,e2⟩:=tbls b _ e1
    exact ⟨m1 ++ m2,by rw [e2,Array.append_assoc]⟩
  · obtain ⟨m,hn,hl⟩:=I.loc
    refine ⟨m,ns m hn,fun i x v e1 e2 e3=>?_⟩
    obtain ⟨u,r,l⟩:=hl i x v e1 e2 e3
    refine ⟨u,r,?_⟩
    rcases l with l | ⟨k,c,e,z⟩
    · exact .inl l
    · exact .inr ⟨k,c,e,cellK x c e _ z⟩
  · obtain ⟨v,z⟩:=I.cell x c e
    exact ⟨v,cellK x c e v z⟩
  · obtain ⟨m,⟨o,_,_,ho,_⟩,_⟩:=I.loc
    exact free _ o (fun z=>(hch _ z).2.1 rfl) ho I.free
  · obtain ⟨v,o,ho,hd⟩:=I.cell x c e
    exact free c o (fun z=>(hch c z).2.2.1 x c e rfl) ho (I.freeC x c e)
  · obtain ⟨e,n,ne,nf,d⟩:=I.pin p hp
    have nch:p.1 ∉ ch:=fun z=>(hch p.1 z).2.2.2 p hp rfl
    exact ⟨keep p.1 p.2 ne nf nch e n,free p.1 p.2 nch e n,ne,nf,d⟩
theorem Inv.un {t':Nat} (I:Inv X pins σ H s) (u:Un X.fs [] H H' s.heap h') (hok:HOk X.prog X.w H' h'):Inv X pins σ H' { s with heap:=h',toks:=t' }:=by
  obtain ⟨m,⟨o,es,ep,ho,r⟩,_⟩:=id I.loc
  obtain ⟨sl,hL⟩:=u.any ho I.free (by simp)
  exact I.step (g':=s.gens) (d':=s.drawn) (ch:=[]) (fun _ z=>nomatch z) (fun b o _ hb _ e n=>u.keep b o e n hb (by simp)) (fun b o _ hb _ e n=>u.slot b o e n hb (by simp)) (fun b o _ e n=>u.free b o e n (by simp)) (fun b o _ e=>u.there b o e (by simp)) u.tups u.frzs u.tbls (fun m' hm=>by
    obtain ⟨o',es',ep',ho',r'⟩:=hm
    rw [ho] at ho'; cases ho'
    exact ⟨_,es',ep',hL,r'⟩) hok I.bare
theorem Inv.call {g':Array GenState} {t':Nat} {d':Drawn} {ch:List Addr} (I:Inv X pins σ H s) (u:Un (frs X.stack) ch H H' s.heap h') (hok:HOk X.prog X.w H' h') (hg:AllBare g')
    (hch:∀ b∈ch,(b∈X.ex∨X.s₀.heap.objs.size≤b)∧b≠X.env.locals∧(∀ x c,X.env.cells.lookup x = some c→c≠b)∧∀ p∈X.pn ++ pins,p.1≠b) :
    Inv X pins σ H' { s with heap:=h',gens:=g',drawn:=d',toks:=t' }:=by
  obtain ⟨m,⟨o,es,ep,ho,r⟩,_⟩:=id I.loc
  obtain ⟨sl,hL⟩:=u.any ho I.free fun z=>(hch _ z).2.1 rfl
  exact I.step (ch:=ch) hch (fun b o hL hb hc e n=>u.keep b o e n (fun z=>(List.mem_cons.mp (I.stkSub b z)).elim hL hb) hc) (fun b o _ _ hc e n=>u.any e n hc) (fun b o hc e n=>u.free b o e n hc) (fun b o hc e=>u.there b o e hc) u.tups u.frzs u.tbls (fun m' hm=>by
    obtain ⟨o',es',ep',ho',r'⟩:=hm
    rw [ho] at ho'; cases ho'
    exact ⟨_,es',ep',hL,r'⟩) hok hg
theorem Inv.turned {t':Nat} {it:Addr} (I:Inv X pins σ H s) (k:∀ b o,b≠it→s.heap.get? b = some o→h'.get? b = some o) (hn:H it = none) (hL:it≠X.env.locals)
    (h1:it∈X.ex∨X.s₀.heap.objs.size≤it) (h2:∀ x c,X.env.cells.lookup x = some c→c≠it) (h3:∀ p∈X.pn ++ pins,p.1≠it):Inv X pins σ H { s with heap:=h',toks:=t' }:=by
  have nit:∀ b u,H b = some u→b≠it:=fun b u e z=>by rw [z,hn] at e; cases e
  refine I.step (g':=s.gens) (d':=s.drawn) (ch:=[it]) (fun b hb=>?_) (fun b o _ _ hc e _=>k b o (fun z=>hc (by simp [z])) e) (fun b o _ _ hc e _=>⟨o.slots,k b o (fun z=>hc (by simp [z])) e⟩) (fun _ _ _ _ n=>n)
    (fun b o hc e=>⟨o,k b o (fun z=>hc (by simp [z])) e⟩) (fun _ _ e=>e) (fun _ _ _ e=>e) (fun b ps e=>⟨#[],by rw [e]; simp⟩) (fun m hm=>?_) (fun b u e=>?_) I.bare
  · have e:b = it:=by simpa using hb
    subst e
    exact ⟨h1,hL,h2,h3⟩
  · obtain ⟨o,es,ep,ho,r⟩:=hm
    exact ⟨o,es,ep,k _ o (Ne.symm hL) ho,r⟩
  · refine (I.hok b u e).stay (fun c v hc q=>k c v ?_ q) (fun _ q=>q) fun _ _ q=>q
    rcases hc with z | z
    · rw [z]; exact nit b u e
    · exact nit c _ z
theorem Inv.tok (I:Inv X pins σ H s) (t:Nat):Inv X pins σ H { s with toks:=t }:=I.un (h':=s.heap) (t':=t) Un.refl I.hok
theorem Inv.kept {t':Nat} (I:Inv X pins σ H s) (k:∀ b u,s.heap.get? b = some u→h'.get? b = some u):Inv X pins σ H { s with heap:=h',toks:=t' }:=I.un (Un.kept k) (I.hok.kept k)
theorem Inv.laid {a:Addr} {o:HO} {t':Nat} (I:Inv X pins σ H s) (k:∀ b u,s.heap.get? b = some u→h'.get? b = some u) (hp:s.heap.objs.size≤a) (new:ObjOk X.prog X.w (upd H a o) h' a o) :
    Inv X pins σ (upd H a o) { s with heap:=h',toks:=t' }:=I.un (Un.laid k hp (I.hok.fresh hp)) (I.hok.laid k hp new)
theorem Inv.write {x e:Addr} {o:HO} {t':Nat} (I:Inv X pins σ H s) (mu:Mut (H x)) (he:e = x∨H e = some (.own x)) (k:∀ b u,b≠e→s.heap.get? b = some u→h'.get? b = some u) (heo:∃ u,h'.get? e = some u)
    (new:ObjOk X.prog X.w (upd H x o) h' x o):Inv X pins σ (upd H x o) { s with heap:=h',toks:=t' }:=I.un (Un.write mu he k heo) (I.hok.write mu he k heo new)
theorem Inv.pins_of {pins':List (Addr × Obj)} (I:Inv X pins σ H s) (h:∀ p∈pins',s.heap.get? p.1 = some p.2∧H p.1 = none∧p.1≠X.env.locals∧p.1 ∉ X.fs∧∀ v,p.2.data≠.cell v):Inv X pins' σ H s :=
  ⟨I.ok,I.os,I.bare,I.base,I.loc,I.cell,I.free,I.freeC,fun p hp=>(List.mem_append.mp hp).elim (fun z=>I.pin p (List.mem_append_left _ z)) (h p),I.hok,I.len⟩
theorem nodup_ix {N:List Str} (hN:N.Nodup) {i j:Nat} {x:Str} (a:N[i]? = some x) (b:N[j]? = some x):i = j:=by
  obtain ⟨h1,e1⟩:=List.getElem?_eq_some_iff.mp a
  obtain ⟨h2,e2⟩:=List.getElem?_eq_some_iff.mp b
  exact (List.getElem_inj hN).mp (e1.trans e2.symm)
theorem store_ok2 {M:Model} {A:Around} {E:Value→Shared→Prop} {i:Nat} {x:Str} {v:V} {u:Value} {Q:Unit→Shared→Prop} (I:Inv X pins σ H s) (hN:X.N.Nodup) (hi:X.N[i]? = some x) (hx:Loc X.env.scope x) (r:RelV v u)
    (h:∀ s',Inv X pins (σ.set i (some v)) H s'→(∃ a,Heap.SameBut a s.heap s'.heap∧(a = X.env.locals∨X.env.cells.lookup x = some a))→Q () s') (hf:X.fn x = true∨X.env.scope.names.lookup x = some .local:=by first | exact .inl rfl | exact .inr rfl | assumption):wpAny M A (storeName X.env x u) Q E s:=by
  obtain ⟨m,hn,hl⟩:=id I.loc
  have hcls:(X.env.scope.kind == .class || (X.env.scope.kind == .module && X.env.locals != X.env.globals)) = false:=by rw [I.ok.kind]; rfl
  have hiσ:i < σ.length:=by rw [I.len]; exact (List.getElem?_eq_some_iff.mp hi).1
  have cne:=I.cne
  have tracked:∀ {a:Addr} {h':Heap},(∃ o,s.heap.get? a = some o∧H a = none)→Heap.SameBut a s.heap h'→HOk X.prog X.w H h':=fun {a h'} ha hs b ob e=>by
    obtain ⟨_,_,hfree⟩:=ha
    refine (I.hok b ob e).stay (fun c w' hc q=>(hs.2 c ?_).trans q) (fun _ q=>q) fun _ _ q=>q
    rintro rfl
    rcases hc with rfl | hc
    · rw [hfree] at e; cases e
    · rw [hfree] at hc; cases hc
  rcases hx with hk | hk
  · refine wpAny_storeName_local hk hn (fun h' hn' hs=>?_) hcls
    obtain ⟨oL,_,_,hoL,_⟩:=id hn
    refine h _ ⟨I.ok,I.os,I.bare,⟨fun b o e n hb hx=>?_,fun b o e n hb hx=>?_,I.base.free,fun b o e hx=>?_,I.base.tups,I.base.frzs,I.base.tbls⟩,⟨_,hn',fun j y v' e1 e2 e3=>?_⟩,fun y c e=>?_,I.free,I.freeC,fun p hp=>?_,tracked ⟨oL,hoL,I.free⟩ hs,by simpa using I.len⟩ ⟨_,hs,.inl rfl⟩
    · exact (hs.2 b (Nat.ne_of_lt (Nat.lt_of_lt_of_le (Heap.lt_size e) I.ok.above))).trans (I.base.keep b o e n hb hx)
    · obtain ⟨sl,e1⟩:=I.base.slot b o e n hb hx
      exact ⟨sl,(hs.2 b (Nat.ne_of_lt (Nat.lt_of_lt_of_le (Heap.lt_size e) I.ok.above))).trans e1⟩
    · obtain ⟨o',e1⟩:=I.base.there b o e hx
      exact ⟨o',(hs.2 b (Nat.ne_of_lt (Nat.lt_of_lt_of_le (Heap.lt_size e) I.ok.above))).trans e1⟩
    · by_cases hj:j = i
      · subst hj
        rw [hi] at e1; cases e1
        rw [List.getElem?_set_self hiσ] at e2
        cases e2
        exact ⟨u,r,.inl ⟨hk,by simp⟩⟩
      · rw [List.getElem?_set_ne (Ne.symm hj)] at e2
        obtain ⟨u',r',q⟩:=hl j y v' e1 e2 e3
        refine ⟨u',r',?_⟩
        rcases q with ⟨k,e⟩ | ⟨k,c,e,z⟩
        · refine .inl ⟨k,?_⟩
          have:y≠x:=fun e=>hj (nodup_ix hN e1 (e ▸ hi))
          simp [this,e]
        · exact .inr ⟨k,c,e,z.sameBut hs (cne y c e)⟩
    · obtain ⟨w',z⟩:=I.cell y c e
      exact ⟨w',z.sameBut hs (cne y c e)⟩
    · obtain ⟨e,n,ne,nf,d⟩:=I.pin p hp
      exact ⟨(hs.2 p.1 ne).trans e,n,ne,nf,d⟩
  · have hfn:X.fn x = true:=by
      rcases hf with z | z
      · exact z
      · rw [z] at hk; cases hk
    obtain ⟨c,hc⟩:=I.ok.has x (.inl hk)
    obtain ⟨w',z⟩:=I.cell x c hc
    refine wpAny_storeName_cell I.ok.kind hk hc z (fun h' hc' hs=>?_)
    obtain ⟨oc,hoc,hocd⟩:=id z
    refine h { s with heap:=h' } ⟨I.ok,I.os,I.bare,⟨fun b o e n hb hx=>?_,fun b o e n hb hx=>?_,I.base.free,fun b o e hx=>?_,I.base.tups,I.base.frzs,I.base.tbls⟩,⟨m,hn.sameBut hs (Ne.symm (cne x c hc)),fun j y v' e1 e2 e3=>?_⟩,fun y c' e=>?_,I.free,I.freeC,fun p hp=>?_,tracked ⟨oc,hoc,I.freeC x c hc⟩ hs,by simpa using I.len⟩ ⟨c,hs,.inr hc⟩
    · exact (hs.2 b (Nat.ne_of_lt (Nat.lt_of_lt_of_le (Heap.lt_size e) (I.ok.cab x c hfn hc)))).trans (I.base.keep b o e n hb hx)
    · obtain ⟨sl,e1⟩:=I.base.slot b o e n hb hx
      exact ⟨sl,(hs.2 b (Nat.ne_of_lt (Nat.lt_of_lt_of_le (Heap.lt_size e) (I.ok.cab x c hfn hc)))).trans e1⟩
    · obtain ⟨o',e1⟩:=I.base.there b o e hx
      exact ⟨o',(hs.2 b (Nat.ne_of_lt (Nat.lt_of_lt_of_le (Heap.lt_size e) (I.ok.cab x c hfn hc)))).trans e1⟩
    · by_cases hj:j = i
      · subst hj
        rw [hi] at e1; cases e1
        rw [List.getElem?_set_self hiσ] at e2
        cases e2
        exact ⟨u,r,.inr ⟨.inl hk,c,hc,hc'⟩⟩
      · rw [List.getElem?_set_ne (Ne.symm hj)] at e2
        obtain ⟨u',r',q⟩:=hl j y v' e1 e2 e3
        refine ⟨u',r',?_⟩
        rcases q with q | ⟨k,c',e,z'⟩
        · exact .inl q
        · refine .inr ⟨k,c',e,z'.sameBut hs ?_⟩
          rintro rfl
          exact hj (nodup_ix hN e1 (I.ok.inj _ _ _ e hc ▸ hi))
    · by_cases hcc:c' = c
      · subst hcc; exact ⟨_,hc'⟩
      · obtain ⟨w2,z2⟩:=I.cell y c' e
        exact ⟨w2,z2.sameBut hs hcc⟩
    · obtain ⟨e,n,ne,nf,d⟩:=I.pin p hp
      refine ⟨(hs.2 p.1 ?_).trans e,n,ne,nf,d⟩
      intro q
      rw [q,hoc] at e
      have q':oc = p.2:=Option.some.inj e
      exact d w' (by rw [← q']; exact hocd)
theorem store_ok {M:Model} {A:Around} {E:Value→Shared→Prop} {i:Nat} {x:Str} {v:V} {u:Value} {Q:Unit→Shared→Prop} (I:Inv X pins σ H s) (hN:X.N.Nodup) (hi:X.N[i]? = some x) (hx:Loc X.env.scope x) (r:RelV v u)
    (h:∀ s',Inv X pins (σ.set i (some v)) H s'→Q () s') (hf:X.fn x = true∨X.env.scope.names.lookup x = some .local:=by first | exact .inl rfl | exact .inr rfl | assumption):wpAny M A (storeName X.env x u) Q E s :=
  store_ok2 I hN hi hx r (fun s' I' _=>h s' I') hf
theorem Inv.call' {s':Shared} {ch:List Addr} (I:Inv X pins σ H s) (ho:s'.os = s.os) (u:Un (frs X.stack) ch H H' s.heap s'.heap) (hok:HOk X.prog X.w H' s'.heap) (hg:AllBare s'.gens)
    (hch:∀ b∈ch,(b∈X.ex∨X.s₀.heap.objs.size≤b)∧b≠X.env.locals∧(∀ x c,X.env.cells.lookup x = some c→c≠b)∧∀ p∈X.pn ++ pins,p.1≠b):Inv X pins σ H' s':=by
  obtain ⟨h',g',d',t',o'⟩:=s'
  have e:o' = s.os:=ho
  subst e
  exact I.call (g':=g') (t':=t') (d':=d') u hok hg hch
end
abbrev XK:=Value→Option Addr→Hp→Prop
abbrev St:=List (Option V)
abbrev VK:=V→Hp→Prop
abbrev TE:=St→Hp→VK→Prop
abbrev TT:=St→Hp→(Bool→Hp→Prop)→Prop
abbrev TA:=St→Hp→(List V→Hp→Prop)→Prop
structure Ends where
  nx:St→Hp→Prop
  rt:VK
  bk:St→Hp→Prop:=fun _ _=>False
  ct:St→Hp→Prop:=fun _ _=>False
abbrev TS:=Ends→St→Hp→Prop
def EP (X:Cx) (pins:List (Addr × Obj)) (σ:St) (Q:VK) (u:Value) (s':Shared):Prop:=∃ v H',Inv X pins σ H' s'∧RelV v u∧Q v H'
def TP (X:Cx) (pins:List (Addr × Obj)) (σ:St) (Q:Bool→Hp→Prop) (b:Bool) (s':Shared):Prop:=∃ H',Inv X pins σ H' s'∧Q b H'
def AP (X:Cx) (pins:List (Addr × Obj)) (σ:St) (Q:List V→Hp→Prop) (us:List Value) (s':Shared):Prop:=∃ vs H',Inv X pins σ H' s'∧Vals vs us∧Q vs H'
def SP (X:Cx) (pins:List (Addr × Obj)) (D:Ends) (f:Flow) (s':Shared):Prop :=
  match f with
  | .next=>∃ σ' H',Inv X pins σ' H' s'∧D.nx σ' H'
  | .brk=>∃ σ' H',Inv X pins σ' H' s'∧D.bk σ' H'
  | .cont=>∃ σ' H',Inv X pins σ' H' s'∧D.ct σ' H'
  | .ret u=>∃ v σ' H',Inv X pins σ' H' s'∧RelV v u∧D.rt v H'
def PE (X:Cx) (e:Expr) (t:TE):Prop :=
  ∀ (pins:List (Addr × Obj)) (s:Shared) (σ:St) (H:Hp) (Q:VK),Inv X pins σ H s→t σ H Q→wpAny (model X.prog X.w) X.A (eval e X.env) (EP X pins σ Q) X.xe s
def PT (X:Cx) (e:Expr) (t:TT):Prop :=
  ∀ (pins:List (Addr × Obj)) (s:Shared) (σ:St) (H:Hp) (Q:Bool→Hp→Prop),Inv X pins σ H s→t σ H Q→wpAny (model X.prog X.w) X.A (isTrue e X.env (eval e X.env)) (TP X pins σ Q) X.xe s
def PW (X:Cx) (e:Expr) (t:TT):Prop :=
  ∀ (whole:Sem Value) (pins:List (Addr × Obj)) (s:Shared) (σ:St) (H:Hp) (Q:Bool→Hp→Prop),Inv X pins σ H s→t σ H Q→wpAny (model X.prog X.w) X.A (isTrue e X.env whole) (TP X pins σ Q) X.xe s
theorem PW.pt {X:Cx} {e:Expr} {t:TT} (h:PW X e t):PT X e t:=h _
def PA (X:Cx) (es:List Expr) (t:TA):Prop :=
  ∀ (pos:Pos) (pins:List (Addr × Obj)) (s:Shared) (σ:St) (H:Hp) (Q:List V→Hp→Prop),Inv X pins σ H s→t σ H Q→wpAny (model X.prog X.w) X.A (spliced (backTo pos (starEach es X.env))) (AP X pins σ Q) X.xe s
def PS (X:Cx) (st:Stmt) (t:TS):Prop :=
  ∀ (pins:List (Addr × Obj)) (s:Shared) (σ:St) (H:Hp) (D:Ends),Inv X pins σ H s→t D σ H→wpAny (model X.prog X.w) X.A (exec st X.env) (SP X pins D) X.xe s
def PSs (X:Cx) (st:List Stmt) (t:TS):Prop :=
  ∀ (pins:List (Addr × Obj)) (s:Shared) (σ:St) (H:Hp) (D:Ends),Inv X pins σ H s→t D σ H→wpAny (model X.prog X.w) X.A (execs st X.env) (SP X pins D) X.xe s
theorem thn {α:Type} {t:Sem α} {Q Q':α→Shared→Prop} {M:Model} {A:Around} {E:Value→Shared→Prop} {s:Shared} (h:wpAny M A t Q E s) (hQ:∀ a s,Q a s→Q' a s):wpAny M A t Q' E s:=wpAny_mono h hQ fun _ _ x=>x
end L2
namespace L2
open PySem PySem.Spec PyProof.Rows
section
variable {X:Cx}
theorem bin {a b:Expr} {ta tb:TE} (ha:PE X a ta) (hb:PE X b tb) {pins:List (Addr × Obj)} {s:Shared} {σ:St} {H:Hp} {R:V→V→Hp→Prop} (I:Inv X pins σ H s) (h:ta σ H fun x H1=>tb σ H1 fun y H2=>R x y H2)
    {α:Type} {Q:α→Shared→Prop} {f:Value→Value→Sem α}
    (hf:∀ v u s2 x y H2,Inv X pins σ H2 s2→RelV x v→RelV y u→R x y H2→wpAny (model X.prog X.w) X.A (f v u) Q X.xe s2) :
    wpAny (model X.prog X.w) X.A (eval a X.env) (fun v s₁=>wpAny (model X.prog X.w) X.A (eval b X.env) (fun u s₂=>wpAny (model X.prog X.w) X.A (f v u) Q X.xe s₂) X.xe s₁) X.xe s:=by
  refine thn (ha pins s σ H _ I h) fun v s1 ⟨x,H1,I1,r1,q1⟩=>?_
  refine thn (hb pins s1 σ H1 _ I1 q1) fun u s2 ⟨y,H2,I2,r2,q2⟩=>?_
  exact hf v u s2 x y H2 I2 r1 r2 q2
def tVar (i:Nat):TE:=fun σ H Q=>∃ v,σ[i]? = some (some v)∧Q v H
def tC (v:V):TE:=fun _ H Q=>Q v H
theorem pe_var {i:Nat} {x:Str} {pos:Pos} (hN:X.N[i]? = some x) (hv:Vis X.env.scope x) (hd:(x == ("__debug__" : Str)) = false:=by decide) (hcd:(x == ("__classdict__" : Str)) = false:=by decide):PE X (.Name x pos) (tVar i):=by
  intro pins s σ H Q I h
  obtain ⟨v,e,h⟩:=h
  obtain ⟨m,hn,hl⟩:=I.loc
  obtain ⟨u,r,l⟩:=hl i x v hN e hv
  have fin:EP X pins σ Q u s:=⟨v,H,I,r,h⟩
  rcases l with ⟨hk,hm⟩ | ⟨hk,c,hc,hcell⟩
  · exact wpAny_Name (wpAny_loadName_local I.ok.kind hk hn hm fin) hd
  · rcases hk with hk | hk
    · exact wpAny_Name (wpAny_loadName_cell I.ok.kind hk hc hcell fin) hd
    · exact wpAny_Name (wpAny_loadName_free I.ok.kind hk hc hcell fin hcd) hd
theorem pe_int {i j pos}:PE X (.Constant (.int i) j pos) (tC (.int i)):=fun _ _ _ H _ I h=>wpAny_Constant_int ⟨.int i,H,I.tok _,⟨_,rfl⟩,h⟩
theorem pe_bl {b j pos}:PE X (.Constant (.bool b) j pos) (tC (.bl b)):=fun _ _ _ H _ I h=>Constant_bool ⟨.bl b,H,I,rfl,h⟩
theorem pe_non {j pos}:PE X (.Constant .none j pos) (tC .non):=fun _ _ _ H _ I h=>Constant_none ⟨.non,H,I,rfl,h⟩
theorem pe_str {x j pos}:PE X (.Constant (.str x) j pos) (tC (.str x)):=fun _ _ _ H _ I h=>Calls.Constant_str ⟨.str x,H,I.tok _,⟨_,rfl⟩,h⟩
def Gl (X:Cx) (x:Str):Prop:=X.env.kindOf x = some .globalImplicit
theorem ld_glob {E:Value→Shared→Prop} {pins:List (Addr × Obj)} {s:Shared} {σ:St} {H:Hp} {x:Str} {u:Value} {pos:Pos} {Q:Value→Shared→Prop} (I:Inv X pins σ H s) (hg:Gl X x) (hm:X.mg x = some u) (h:Q u s)
    (hd:(x == ("__debug__" : Str)) = false:=by decide):wpAny (model X.prog X.w) X.A (eval (.Name x pos) X.env) Q E s :=
  Calls.Name_function_global I.ok.kind hg (Calls.loadGlobal_global (by rw [I.ok.glob]; exact I.mod.glob.keeps I.bk) hm h) hd
theorem ld_blt {E:Value→Shared→Prop} {pins:List (Addr × Obj)} {s:Shared} {σ:St} {H:Hp} {x:Str} {u:Value} {pos:Pos} {Q:Value→Shared→Prop} (I:Inv X pins σ H s) (hg:Gl X x) (hm:X.mg x = none) (hv:bootBuiltins x = some u) (h:Q u s)
    (hn:x ≠ "__name__" := by decide) (hd:(x == ("__debug__" : Str)) = false:=by decide):wpAny (model X.prog X.w) X.A (eval (.Name x pos) X.env) Q E s:=by
  obtain ⟨mb,h1,h2⟩:=I.mod.blt
  exact Calls.Name_function_global I.ok.kind hg (Calls.loadGlobal_builtin (by rw [I.ok.glob]; exact I.mod.glob.keeps I.bk) hm (by rw [I.ok.blt]; exact h1.keeps I.bk) ((h2 x hn).trans hv) h) hd
theorem pe_glob {x:Str} {v:V} {u:Value} {pos:Pos} (hg:Gl X x) (hm:X.mg x = some u) (r:RelV v u) (hd:(x == ("__debug__" : Str)) = false:=by decide):PE X (.Name x pos) (tC v) :=
  fun _ _ _ H _ I h=>ld_glob I hg hm ⟨v,H,I,r,h⟩ hd
theorem pe_bltn {x:Str} {v:V} {u:Value} {pos:Pos} (hg:Gl X x) (hm:X.mg x = none) (hv:bootBuiltins x = some u) (r:RelV v u) (hn:x ≠ "__name__" := by decide) (hd:(x == ("__debug__" : Str)) = false:=by decide):PE X (.Name x pos) (tC v) :=
  fun _ _ _ H _ I h=>ld_blt I hg hm hv ⟨v,H,I,r,h⟩ hn hd
variable {a b:Expr} {ta tb:TE} {pos:Pos}
def PC (X:Cx) (op:CmpOp) (a b:Expr) (t:TE):Prop :=
  ∀ (pins:List (Addr × Obj)) (s:Shared) (σ:St) (H:Hp) (Q:VK),Inv X pins σ H s→t σ H Q →
    wpAny (model X.prog X.w) X.A (eval a X.env) (fun v s₁=>wpAny (model X.prog X.w) X.A (eval b X.env) (fun u s₂=>wpAny (model X.prog X.w) X.A (compareOp op v u) (EP X pins σ Q) X.xe s₂) X.xe s₁) X.xe s
def tB (t:TE):TT:=fun σ H Q=>t σ H fun x H1=>∃ c,x = .bl c∧Q c H1
theorem pt_cmp {op:CmpOp} {t:TE} (h:PC X op a b t) (h1:behindInMarks op b = false:=by first | exact nobehind _ (by decide) (by decide) | rfl):PT X (.Compare a [op] [b] pos) (tB t):=by
  intro pins s σ H Q I hw
  refine wpAny_isTrue_Compare1 (thn (h pins s σ H _ I hw) fun v s1 h1=>thn h1 fun u s2 h2=>thn h2 fun c s3 ⟨x,H1,I1,r1,q1⟩=>?_) h1
  obtain ⟨d,rfl,q⟩:=q1
  cases r1
  exact wpAny_truthy_bool ⟨H1,I1,q⟩
variable {tA tB':TT} {rest:List Expr}
def tAnd (t u:TT):TT:=fun σ H Q=>t σ H fun c H1=>if c = true then u σ H1 Q else Q false H1
def tOr (t u:TT):TT:=fun σ H Q=>t σ H fun c H1=>if c = true then Q true H1 else u σ H1 Q
def tNot (t:TT):TT:=fun σ H Q=>t σ H fun c H1=>Q (!c) H1
theorem pw_and1 (ha:PT X a tA):PW X (.BoolOp .And [a] pos) tA:=by
  intro wh pins s σ H Q I h
  refine isTrue_and (thn (ha pins s σ H Q I h) fun c s1 e=>?_)
  cases c with
  | true=>exact isTrue_and_nil e
  | false=>exact e
theorem pw_or1 (ha:PT X a tA):PW X (.BoolOp .Or [a] pos) tA:=by
  intro wh pins s σ H Q I h
  refine isTrue_or (thn (ha pins s σ H Q I h) fun c s1 e=>?_)
  cases c with
  | false=>exact isTrue_or_nil e
  | true=>exact e
theorem pw_and (ha:PT X a tA) (hb:PW X (.BoolOp .And (b :: rest) pos) tB'):PW X (.BoolOp .And (a :: b :: rest) pos) (tAnd tA tB'):=by
  intro wh pins s σ H Q I h
  refine isTrue_and (thn (ha pins s σ H _ I h) fun c s1 ⟨H1,I1,q1⟩=>?_)
  cases c with
  | true=>exact hb wh pins s1 σ H1 Q I1 q1
  | false=>exact ⟨H1,I1,q1⟩
theorem pw_or (ha:PT X a tA) (hb:PW X (.BoolOp .Or (b :: rest) pos) tB'):PW X (.BoolOp .Or (a :: b :: rest) pos) (tOr tA tB'):=by
  intro wh pins s σ H Q I h
  refine isTrue_or (thn (ha pins s σ H _ I h) fun c s1 ⟨H1,I1,q1⟩=>?_)
  cases c with
  | true=>exact ⟨H1,I1,q1⟩
  | false=>exact hb wh pins s1 σ H1 Q I1 q1
theorem pt_not (ha:PT X a tA):PT X (.UnaryOp .Not a pos) (tNot tA):=by
  intro pins s σ H Q I h
  exact isTrue_not (ha pins s σ H (fun c H1=>Q (!c) H1) I h)
def tAndV (ta tb:TE):TE:=fun σ H Q=>ta σ H fun x H1=>∃ c,x = .bl c∧if c = true then tb σ H1 Q else Q (.bl false) H1
theorem pe_one {op} {t:TE} (h:PE X a t):PE X (.BoolOp op [a] pos) t:=fun pins s σ H Q I hw=>BoolOp_one (h pins s σ H Q I hw)
theorem pe_and (ha:PE X a ta) (hb:PE X (.BoolOp .And (b :: rest) pos) tb):PE X (.BoolOp .And (a :: b :: rest) pos) (tAndV ta tb):=by
  intro pins s σ H Q I h
  refine BoolOp_and (thn (ha pins s σ H _ I h) fun v s1 ⟨x,H1,I1,r1,q1⟩=>?_)
  obtain ⟨c,rfl,q1⟩:=q1
  cases r1
  refine wpAny_truthy_bool ?_
  cases c with
  | true=>exact hb pins s1 σ H1 Q I1 q1
  | false=>exact ⟨.bl false,H1,I1,rfl,q1⟩
def tIf (t:TT) (ta tb:TE):TE:=fun σ H Q=>t σ H fun c H1=>if c = true then ta σ H1 Q else tb σ H1 Q
theorem pe_ifExp {c:Expr} (hc:PT X c tA) (ha:PE X a ta) (hb:PE X b tb):PE X (.IfExp c a b pos) (tIf tA ta tb):=by
  intro pins s σ H Q I h
  refine wpAny_IfExp (thn (hc pins s σ H _ I h) fun d s1 ⟨H1,I1,q1⟩=>?_)
  cases d with
  | true=>exact ha pins s1 σ H1 Q I1 q1
  | false=>exact hb pins s1 σ H1 Q I1 q1
end
end L2
namespace L2
open PySem PySem.Spec PyProof.Rows
def SqL (K:PySem.W.Frag) (H:Hp) (a:Addr) (xs:List V):Prop :=
  Rd H a (.lst xs) ∨
    ∃ (o:Obj) (its:Array Value) (n:Nat),K.lookup a = some o∧o.cls = .type "list" ∧ o.dict = none∧o.data = .seq its n∧its.size≤sizeLine∧Vals xs its.toList
def SqT (K:PySem.W.Frag) (H:Hp) (a:Addr) (xs:List V):Prop :=
  Rd H a (.tup xs) ∨
    ∃ (o:Obj) (its:Array Value) (n:Nat),K.lookup a = some o∧o.cls = .type "tuple" ∧ o.data = .seq its n∧its.size≤sizeLine∧Vals xs its.toList
def absV:Value→Option V
  | .none=>some .non
  | .bool b=>some (.bl b)
  | .int i _=>some (.int i)
  | .str x _=>some (.str x)
  | .bytes b _=>some (.byt b)
  | .float b _=>some (.flt b)
  | .ref a=>some (.ref a)
  | .type n=>some (.ty n)
  | _=>none
theorem RelV.abs {x:V} {u:Value} (r:RelV x u):absV u = some x:=by
  cases x with
  | non=>cases r; rfl
  | bl _=>cases r; rfl
  | int _=>obtain ⟨t,rfl⟩:=r; rfl
  | str _=>obtain ⟨t,rfl⟩:=r; rfl
  | byt _=>obtain ⟨t,rfl⟩:=r; rfl
  | flt _=>obtain ⟨t,rfl⟩:=r; rfl
  | ref _=>cases r; rfl
  | ty _=>cases r; rfl
theorem RelV.inj {x y:V} {u:Value} (r:RelV x u) (q:RelV y u):x = y:=Option.some.inj (r.abs.symm.trans q.abs)
theorem Vals.inj:∀ {xs ys:List V} {us:List Value},Vals xs us→Vals ys us→xs = ys
  | _,_,_,.nil,.nil=>rfl
  | _,_,_,.cons r t,.cons r' t'=>by rw [r.inj r',Vals.inj t t']
section
variable {X:Cx} {pins:List (Addr × Obj)} {σ:St} {H:Hp} {s:Shared} {a:Addr} {xs ys:List V}
theorem SqL.of {K:PySem.W.Frag} (h:H a = some (.lst xs)):SqL K H a xs:=.inl (.inl h)
theorem SqT.of {K:PySem.W.Frag} (h:H a = some (.tup xs)):SqT K H a xs:=.inl (.inl h)
theorem Inv.list (I:Inv X pins σ H s) (h:SqL X.K H a xs):∃ its:List Value,Vals xs its∧PlainL s.heap a its.toArray∧xs.length≤sizeLine:=by
  rcases h with h | ⟨o,its,n,hk,hc,hd,hs,hz,r⟩
  · obtain ⟨z,its,n,r,e⟩:=h.ok I.hok
    exact ⟨its,r,⟨_,n,e,rfl,rfl,rfl⟩,z⟩
  · refine ⟨its.toList,r,⟨o,n,I.kIn a o hk,hc,hd,by simpa using hs⟩,?_⟩
    have e:=r.length
    simp only [Array.length_toList] at e
    omega
theorem Inv.tuple (I:Inv X pins σ H s) (h:SqT X.K H a xs):∃ its:List Value,Vals xs its∧IsTup s.heap a its.toArray∧xs.length≤sizeLine:=by
  rcases h with h | ⟨o,its,n,hk,hc,hs,hz,r⟩
  · obtain ⟨z,its,r,p⟩:=h.ok I.hok
    exact ⟨its,r,p,z⟩
  · refine ⟨its.toList,r,⟨o,I.kIn a o hk,hc,n,by simpa using hs⟩,?_⟩
    have e:=r.length
    simp only [Array.length_toList] at e
    omega
theorem Inv.list_inj (I:Inv X pins σ H s) (h:SqL X.K H a xs) (h':SqL X.K H a ys):xs = ys:=by
  obtain ⟨its,r,⟨o,n,e,_,_,d⟩,_⟩:=I.list h
  obtain ⟨its',r',⟨o',n',e',_,_,d'⟩,_⟩:=I.list h'
  rw [e] at e'; cases e'
  rw [d] at d'
  injection d' with d1 _
  have:its = its':=by simpa using congrArg Array.toList d1
  subst this
  exact r.inj r'
theorem Inv.tuple_inj (I:Inv X pins σ H s) (h:SqT X.K H a xs) (h':SqT X.K H a ys):xs = ys:=by
  obtain ⟨its,r,⟨o,e,_,n,d⟩,_⟩:=I.tuple h
  obtain ⟨its',r',⟨o',e',_,n',d'⟩,_⟩:=I.tuple h'
  rw [e] at e'; cases e'
  rw [d] at d'
  injection d' with d1 _
  have:its = its':=by simpa using congrArg Array.toList d1
  subst this
  exact r.inj r'
end
abbrev Cx.wish (X:Cx) (E:Value→Shared→Prop):Cx:={ X with xe:=E }
abbrev Cx.nox (X:Cx):Cx:=X.wish fun _ _=>False
theorem Cx.Ok.wish {X:Cx} (ok:X.Ok) (E:Value→Shared→Prop):(X.wish E).Ok :=
  ⟨ok.mod,ok.kind,ok.glob,ok.blt,ok.above,ok.inj,ok.has,ok.cab,ok.hd,ok.frames,ok.stk,ok.exf,ok.bs,ok.bsz,ok.noex,ok.exfs,ok.funs,ok.frf⟩
theorem Cx.Ok.unwish {X:Cx} {E:Value→Shared→Prop} (ok:(X.wish E).Ok):X.Ok :=
  ⟨ok.mod,ok.kind,ok.glob,ok.blt,ok.above,ok.inj,ok.has,ok.cab,ok.hd,ok.frames,ok.stk,ok.exf,ok.bs,ok.bsz,ok.noex,ok.exfs,ok.funs,ok.frf⟩
section
variable {X:Cx} {pins:List (Addr × Obj)} {σ:St} {H:Hp} {s:Shared} {E:Value→Shared→Prop}
theorem Inv.wish (I:Inv X pins σ H s) (E:Value→Shared→Prop):Inv (X.wish E) pins σ H s:=⟨I.ok.wish E,I.os,I.bare,I.base,I.loc,I.cell,I.free,I.freeC,I.pin,I.hok,I.len⟩
theorem Inv.unwish (I:Inv (X.wish E) pins σ H s):Inv X pins σ H s:=⟨I.ok.unwish,I.os,I.bare,I.base,I.loc,I.cell,I.free,I.freeC,I.pin,I.hok,I.len⟩
theorem SP.unwish {D:Ends} {f:Flow} {s':Shared} (h:SP (X.wish E) pins D f s'):SP X pins D f s':=by
  cases f with
  | next=>obtain ⟨σ',H',I,q⟩:=h; exact ⟨σ',H',I.unwish,q⟩
  | brk=>obtain ⟨σ',H',I,q⟩:=h; exact ⟨σ',H',I.unwish,q⟩
  | cont=>obtain ⟨σ',H',I,q⟩:=h; exact ⟨σ',H',I.unwish,q⟩
  | ret u=>obtain ⟨v,σ',H',I,r,q⟩:=h; exact ⟨v,σ',H',I.unwish,r,q⟩
theorem PSs.nox {st:List Stmt} {t:TS} (h:PSs X.nox st t):PSs X st t:=fun pins s σ H D I hw =>
  wpAny_mono (h pins s σ H D (I.wish _) hw) (fun _ _ q=>q.unwish) fun _ _ z=>False.elim z
end
section
variable {X:Cx} {st:Stmt} {rest:List Stmt} {t u:TS} {e:Expr} {te:TE} {pos:Pos}
def tNext:TS:=fun D σ H=>D.nx σ H
def tSeq (t u:TS):TS:=fun D σ H=>t { D with nx:=u D } σ H
theorem pss_nil:PSs X [] tNext:=fun _ _ σ H _ I h=>wpAny_execs_nil ⟨σ,H,I,h⟩
theorem pss_cons (h1:PS X st t) (h2:PSs X rest u):PSs X (st :: rest) (tSeq t u):=by
  intro pins s σ H D I h
  refine wpAny_execs_cons (thn (h1 pins s σ H { D with nx:=u D } I h) fun f s1 q=>?_)
  cases f with
  | next =>
    obtain ⟨σ',H',I',q⟩:=q
    exact h2 pins s1 σ' H' D I' q
  | ret v=>exact q
  | brk=>exact q
  | cont=>exact q
theorem pss_one (h1:PS X st t):PSs X [st] t:=by
  intro pins s σ H D I h
  refine wpAny_execs_cons (thn (h1 pins s σ H D I h) fun f s1 q=>?_)
  cases f with
  | next=>exact wpAny_execs_nil q
  | ret v=>exact q
  | brk=>exact q
  | cont=>exact q
theorem Inv.quiet {pins:List (Addr × Obj)} {σ:St} {H:Hp} {s:Shared} (I:Inv X pins σ H s):interactive X.env = false:=by simp [interactive,I.ok.kind]
def tDrop (te:TE):TS:=fun D σ H=>te σ H fun _ H1=>D.nx σ H1
theorem ps_expr (he:PE X e te) (hs:swapsWith e none pos.line X.env = pure false:=by rfl):PS X (.Expr e pos) (tDrop te):=by
  intro pins s σ H D I h
  exact wpAny_Expr_any (thn (he pins s σ H _ I h) fun v s1 ⟨x,H1,I1,r1,q1⟩=>⟨σ,H1,I1,q1⟩) I.quiet hs
def tRet (te:TE):TS:=fun D σ H=>te σ H D.rt
theorem ps_ret (he:PE X e te):PS X (.Return (some e) pos) (tRet te):=by
  intro pins s σ H D I h
  exact wpAny_Return_some (thn (he pins s σ H _ I h) fun v s1 ⟨x,H1,I1,r1,q1⟩=>⟨x,σ,H1,I1,r1,q1⟩)
def tIfS (c:TT) (t u:TS):TS:=fun D σ H=>c σ H fun b H1=>if b = true then t D σ H1 else u D σ H1
theorem ps_if {c:Expr} {a b:List Stmt} {tc:TT} (hc:PT X c tc) (ha:PSs X a t) (hb:PSs X b u):PS X (.If c a b pos) (tIfS tc t u):=by
  intro pins s σ H D I h
  refine wpAny_If (thn (hc pins s σ H _ I h) fun d s1 ⟨H1,I1,q1⟩=>?_)
  cases d with
  | true=>exact ha pins s1 σ H1 D I1 q1
  | false=>exact hb pins s1 σ H1 D I1 q1
def tNever:TS:=fun _ _ _=>False
theorem ps_never:PS X st tNever:=fun _ _ _ _ _ _ h=>h.elim
end
abbrev TG:=V→St→Hp→(St→Hp→Prop)→Prop
abbrev TGs:=List V→St→Hp→(St→Hp→Prop)→Prop
def PG (X:Cx) (target:Expr) (t:TG):Prop :=
  ∀ (pins:List (Addr × Obj)) (s:Shared) (σ:St) (H:Hp) (v:V) (u:Value) (Q:St→Hp→Prop),Inv X pins σ H s→RelV v u→t v σ H Q →
    wpAny (model X.prog X.w) X.A (assign target X.env u) (fun _ s'=>∃ σ' H',Inv X pins σ' H' s'∧Q σ' H') X.xe s
def PGs (X:Cx) (ts:List Expr) (t:TGs):Prop :=
  ∀ (pins:List (Addr × Obj)) (s:Shared) (σ:St) (H:Hp) (vs:List V) (us:List Value) (Q:St→Hp→Prop),Inv X pins σ H s→Vals vs us→t vs σ H Q →
    wpAny (model X.prog X.w) X.A (assignInOrder ((assignEach ts X.env).map (·.2)) us) (fun _ s'=>∃ σ' H',Inv X pins σ' H' s'∧Q σ' H') X.xe s
abbrev TIp:=V→V→Hp→VK→Prop
def PIp (X:Cx) (op:Operator) (t:TIp):Prop :=
  ∀ (pins:List (Addr × Obj)) (s:Shared) (σ:St) (H:Hp) (x y:V) (v u:Value) (Q:VK),Inv X pins σ H s→RelV x v→RelV y u→t x y H Q →
    wpAny (model X.prog X.w) X.A (inplaceOp op v u) (EP X pins σ Q) X.xe s
section
variable {X:Cx} {pos:Pos}
def gName (i:Nat):TG:=fun v σ H Q=>Q (σ.set i (some v)) H
theorem pg_name {i:Nat} {x:Str} (hN:X.N.Nodup) (hi:X.N[i]? = some x) (hx:Loc X.env.scope x) (hf:X.fn x = true∨X.env.scope.names.lookup x = some .local:=by first | exact .inl rfl | exact .inr rfl | assumption):PG X (.Name x pos) (gName i):=by
  intro pins s σ H v u Q I r h
  exact wpAny_assign_Name (store_ok I hN hi hx r (fun s' I'=>⟨_,H,I',h⟩) hf)
def gNil:TGs:=fun vs σ H Q=>vs = []∧Q σ H
def gCons (t:TG) (u:TGs):TGs:=fun vs σ H Q=>∃ v r,vs = v :: r∧t v σ H fun σ' H'=>u r σ' H' Q
theorem pgs_nil:PGs X [] gNil:=by
  intro pins s σ H vs us Q I r h
  obtain ⟨e,h⟩:=h
  subst e
  cases r
  exact assignInOrder_nil ⟨σ,H,I,h⟩
theorem pgs_cons {e:Expr} {es:List Expr} {t:TG} {u:TGs} (h1:PG X e t) (h2:PGs X es u)
    (hs:(assignEach (e :: es) X.env).map (·.2) = assign e X.env :: (assignEach es X.env).map (·.2):=by rfl):PGs X (e :: es) (gCons t u):=by
  intro pins s σ H vs us Q I r h
  obtain ⟨v,vr,e1,h⟩:=h
  subst e1
  cases r with
  | cons r rr =>
    rw [hs]
    refine assignInOrder_cons (thn (h1 pins s σ H _ _ _ I r h) fun _ s1 ⟨σ1,H1,I1,q1⟩=>?_)
    exact h2 pins s1 σ1 H1 _ _ Q I1 rr q1
def gTup (K:PySem.W.Frag) (n:Nat) (t:TGs):TG:=fun v σ H Q=>∃ a xs,v = .ref a∧SqT K H a xs∧xs.length = n∧t xs σ H Q
theorem pg_tup {es:List Expr} {k:Nat} {t:TGs} {n:Nat} (hc:X.calm = true) (h:PGs X es t)
    (hn:(assignEach es X.env).length = n:=by rfl) (hst:(assignEach es X.env).findIdx? (·.1) = none:=by rfl):PG X (.Tuple es k pos) (gTup X.K n t):=by
  intro pins s σ H v u Q I r hw
  obtain ⟨a,xs,e1,hq,hl,hw⟩:=hw
  subst e1
  cases r
  obtain ⟨its,rv,ht,hz⟩:=I.tuple hq
  refine assign_Tuple_tuple (I.ok.hd hc) ht (by simp [hn,← hl,rv.length]) hst fun h' hx=>?_
  have I1:Inv X pins σ H { s with heap:=h' }:=I.kept (t':=s.toks) fun b o e=>hx b o (Nat.ne_of_lt (Heap.lt_size e)) e
  exact h pins _ σ H xs _ Q I1 (by simpa using rv) hw
def tAsg (te:TE) (g:TG):TS:=fun D σ H=>te σ H fun x H1=>g x σ H1 D.nx
theorem ps_asg {tg e:Expr} {te:TE} {g:TG} (he:PE X e te) (hg:PG X tg g) (hs:swapsWithSole [tg] e pos.line X.env = pure false:=by rfl) (hw:swappedStores [tg] e X.env = pure none:=by rfl)
    (h1:(assignEach [tg] X.env).map (·.2) = [assign tg X.env]:=by rfl):PS X (.Assign [tg] e pos) (tAsg te g):=by
  intro pins s σ H D I h
  refine wpAny_Assign_stores (thn (he pins s σ H _ I h) fun v s1 ⟨x,H1,I1,r1,q1⟩=>?_) hs hw
  rw [h1]
  exact thn (hg pins s1 σ H1 x v _ I1 r1 q1) fun _ s2 q=>q
theorem ps_set {i:Nat} {x:Str} {e:Expr} {te:TE} {pos':Pos} (hN:X.N.Nodup) (hi:X.N[i]? = some x) (hx:Loc X.env.scope x) (he:PE X e te) (hs:swapsWith e (some (.Name x pos')) pos.line X.env = pure false:=by rfl) (hf:X.fn x = true∨X.env.scope.names.lookup x = some .local:=by first | exact .inl rfl | exact .inr rfl | assumption) :
    PS X (.Assign [.Name x pos'] e pos) (tAsg te (gName i)):=by
  intro pins s σ H D I h
  refine wpAny_Assign_Name (thn (he pins s σ H _ I h) fun v s1 ⟨y,H1,I1,r1,q1⟩=>?_) hs
  exact store_ok I1 hN hi hx r1 (fun s2 I2=>⟨_,H1,I2,q1⟩) hf
def tAug (i:Nat) (te:TE) (ti:TIp):TS:=fun D σ H=>∃ x,σ[i]? = some (some x)∧te σ H fun y H1=>ti x y H1 fun z H2=>D.nx (σ.set i (some z)) H2
theorem ps_aug {i:Nat} {x:Str} {e:Expr} {te:TE} {op:Operator} {ti:TIp} {pos':Pos} (hN:X.N.Nodup) (hi:X.N[i]? = some x) (hx:Loc X.env.scope x) (he:PE X e te) (ho:PIp X op ti) (hf:X.fn x = true∨X.env.scope.names.lookup x = some .local:=by first | exact .inl rfl | exact .inr rfl | assumption) :
    PS X (.AugAssign (.Name x pos') op e pos) (tAug i te ti):=by
  intro pins s σ H D I h
  obtain ⟨v,e1,h⟩:=h
  obtain ⟨m,hn,hl⟩:=I.loc
  have vis:Vis X.env.scope x:=by rcases hx with k | k; exact .inl k; exact .inr (.inl k)
  obtain ⟨u,r,l⟩:=hl i x v hi e1 vis
  refine wpAny_AugAssign_Name ?_
  have go:wpAny (model X.prog X.w) X.A (eval e X.env) (fun w s₂=>wpAny (model X.prog X.w) X.A (inplaceOp op u w) (fun r s₃=>wpAny (model X.prog X.w) X.A (storeName X.env x r) (fun _=>SP X pins D .next) X.xe s₃) X.xe s₂) X.xe s:=by
    refine thn (he pins s σ H _ I h) fun w s1 ⟨y,H1,I1,r1,q1⟩=>?_
    refine thn (ho pins s1 σ H1 v y u w _ I1 r r1 q1) fun z s2 ⟨zv,H2,I2,r2,q2⟩=>?_
    exact store_ok I2 hN hi hx r2 (fun s3 I3=>⟨_,H2,I3,q2⟩) hf
  rcases l with ⟨hk,hm⟩ | ⟨hk,c,hc,hcell⟩
  · exact wpAny_loadName_local I.ok.kind hk hn hm go
  · rcases hk with hk | hk
    · exact wpAny_loadName_cell I.ok.kind hk hc hcell go
    · rcases hx with k | k
      · have:X.env.scope.names.lookup x = some .free:=hk
        rw [k] at this; cases this
      · have:X.env.scope.names.lookup x = some .free:=hk
        rw [k] at this; cases this
end
section
variable {X:Cx} {pos:Pos}
def tWhile (c:TT) (tb:TS):TS:=fun D σ H=>∃ W:Nat→St→Hp→Prop,(∃ m,W m σ H)∧∀ m σ H,W m σ H →
  c σ H fun b H1=>if b = true then ∃ N:St→Hp→Prop,(∀ σ' H',N σ' H'→∃ m',m' < m∧W m' σ' H')∧tb { D with nx:=N,ct:=N,bk:=D.nx } σ H1 else D.nx σ H1
theorem ps_while {c:Expr} {body:List Stmt} {tc:TT} {tb:TS} (hp:PassesOwn (model X.prog X.w) X.A X.env X.xe) (hc:PT X c tc) (hb:PSs X body tb):PS X (.While c body [] pos) (tWhile tc tb):=by
  intro pins s σ H D I h
  obtain ⟨W,⟨m0,w0⟩,turn⟩:=h
  refine wpAny_While (codeAny_whileLoop (fun n s'=>∃ σ' H',Inv X pins σ' H' s'∧W n σ' H') ?_ m0 ⟨σ,H,I,w0⟩)
  rintro n s1 ⟨σ1,H1,I1,w1⟩
  refine wpAny_passesOwn hp (thn (hc pins s1 σ1 H1 _ I1 (turn n σ1 H1 w1)) fun b s2 ⟨H2,I2,q2⟩=>?_)
  cases b with
  | true =>
    obtain ⟨N,hN,q2⟩:=q2
    rw [if_pos rfl]
    refine wpAny_passesOwn hp (thn (hb pins s2 σ1 H2 _ I2 q2) fun f s3 q3=>?_)
    cases f with
    | next =>
      obtain ⟨σ3,H3,I3,n3⟩:=q3
      obtain ⟨m',hm,w3⟩:=hN σ3 H3 n3
      exact ⟨m',hm,σ3,H3,I3,w3⟩
    | cont =>
      obtain ⟨σ3,H3,I3,n3⟩:=q3
      obtain ⟨m',hm,w3⟩:=hN σ3 H3 n3
      exact ⟨m',hm,σ3,H3,I3,w3⟩
    | brk=>exact q3
    | ret v=>exact q3
  | false =>
    rw [if_neg Bool.false_ne_true]
    exact wpAny_execs_nil ⟨σ1,H2,I2,q2⟩
end
structure It where
  go:Nat→Hp→Prop
  yld:Nat→Hp→V→Hp→Prop
  stop:Nat→Hp→Prop
def FpOk (X:Cx) (pins:List (Addr × Obj)) (H:Hp) (b:Addr):Prop :=
  H b = none∧b≠X.env.locals∧b ∉ X.fs∧(b∈X.ex∨X.s₀.heap.objs.size≤b)∧(∀ x c,X.env.cells.lookup x = some c→c≠b)∧∀ p∈X.pn ++ pins,p.1≠b
theorem Inv.fpOk {X:Cx} {pins:List (Addr × Obj)} {σ:St} {H H':Hp} {s:Shared} {b:Addr} (I:Inv X pins σ H s) (hb:s.heap.objs.size≤b) (hn:H' b = none):FpOk X pins H' b:=by
  refine ⟨hn,Nat.ne_of_gt (Nat.lt_of_lt_of_le I.lt hb),I.nofs hb,.inr (Nat.le_trans I.sz hb),fun x c e z=>?_,fun p hp z=>?_⟩
  · obtain ⟨v,q⟩:=I.cell x c e
    exact absurd (Nat.lt_of_lt_of_le q.lt (by rw [z]; exact hb)) (Nat.lt_irrefl _)
  · exact absurd (Nat.lt_of_lt_of_le (Heap.lt_size (I.pin p hp).1) (by rw [z]; exact hb)) (Nat.lt_irrefl _)
structure Turn (P:Program) (w:World) (K:PySem.W.Frag) (tg:Expr) (J:It) (fp:List Addr) (it:Addr) (tn:Nat→Heap→Prop):Prop where
  mem:it∈fp
  obj:∀ i h,tn i h→∀ b∈fp,∃ o,h.get? b = some o∧∀ v,o.data≠.cell v
  keep:∀ i h h',tn i h→(∀ b∈fp,∀ o,h.get? b = some o→h'.get? b = some o)→tn i h'
  item:∀ (X:Cx),X.prog = P→X.w = w→X.K = K→X.calm = true→∀ (i:Nat) (pins:List (Addr × Obj)) (s:Shared) (σ:St) (H:Hp) (E:Value→Shared→Prop),Inv X pins σ H s→(∀ b∈fp,FpOk X pins H b)→tn i s.heap→J.go i H →
    wpAny (model P w) X.A (pyNext (.ref it)) (fun r s1=>∃ u,r = some u ∧
      wpAny (model P w) X.A (letOwnedTupleGo tg (.ref it) u) (fun _ s2=>∃ x H',Inv X pins σ H' s2∧RelV x u∧J.yld i H x H'∧tn (i + 1) s2.heap∧∀ b∈fp,H' b = none) E s1) E s
  done:∀ (X:Cx),X.prog = P→X.w = w→X.K = K→X.calm = true→∀ (i:Nat) (pins:List (Addr × Obj)) (s:Shared) (σ:St) (H:Hp) (E:Value→Shared→Prop),Inv X pins σ H s→(∀ b∈fp,FpOk X pins H b)→tn i s.heap→J.stop i H →
    wpAny (model P w) X.A (pyNext (.ref it)) (fun r s1=>r = none∧Inv X pins σ H s1) E s
  self:∀ (A:Around) (i:Nat) (s:Shared) (Q:Value→Shared→Prop) (E:Value→Shared→Prop),tn i s.heap→Q (.ref it) s→wpAny (model P w) A (pyIter (.ref it)) Q E s
abbrev TI:=St→Hp→(It→Hp→Prop)→Prop
def PIE (X:Cx) (pins:List (Addr × Obj)) (σ:St) (tg:Expr) (R:It→Hp→Prop) (itv:Value) (s2:Shared):Prop :=
  ∃ (it:Addr) (fp:List Addr) (tn:Nat→Heap→Prop) (J:It) (H':Hp),itv = .ref it∧Inv X pins σ H' s2∧Turn X.prog X.w X.K tg J fp it tn∧tn 0 s2.heap∧(∀ b∈fp,FpOk X pins H' b)∧R J H'
def PI (X:Cx) (tg iter:Expr) (wi:TI):Prop :=
  ∀ (pins:List (Addr × Obj)) (s:Shared) (σ:St) (H:Hp) (R:It→Hp→Prop),Inv X pins σ H s→wi σ H R →
    wpAny (model X.prog X.w) X.A (eval iter X.env) (fun v s1=>wpAny (model X.prog X.w) X.A (pyIter v) (PIE X pins σ tg R) X.xe s1) X.xe s
theorem go_of {M:Model} {A:Around} {E:Value→Shared→Prop} {s:Shared} {tg:Expr} {it:Addr} {u:Value} {o:Obj} {n:String} {vs:Array Value} {Q:Unit→Shared→Prop} (ho:s.heap.get? it = some o) (hc:o.cls = .type n) (hd:o.data = .fields vs)
    (hn:["enumerate", "zip", "dict_itemiterator", "dict_reverseitemiterator", "odict_iterator", "itertools.zip_longest", "itertools.pairwise"].contains n = false) (hQ:Q () s):wpAny M A (letOwnedTupleGo tg (.ref it) u) Q E s:=by
  unfold letOwnedTupleGo
  cases tg <;> first
    | exact wpAny_pure hQ
    | (cases u <;> first
        | exact wpAny_pure hQ
        | (refine wpAny_bind (wpAny_load ho ?_)
           rw [hc,hd]
           show wpAny M A (if (["enumerate", "zip", "dict_itemiterator", "dict_reverseitemiterator", "odict_iterator", "itertools.zip_longest", "itertools.pairwise"].contains n && vs[0]? == some (rawInt _)) = true then _ else _) Q E s
           rw [if_neg (by intro h; rw [hn,Bool.false_and] at h; cases h)]
           exact wpAny_pure hQ))
def Itl (K:PySem.W.Frag) (a:Addr):It :=
  ⟨fun i H=>∃ xs x,SqL K H a xs∧xs[i]? = some x,fun i H x H'=>H' = H∧∀ xs,SqL K H a xs→xs[i]? = some x,fun i H=>∃ xs,SqL K H a xs∧xs.length≤i⟩
def Itt (K:PySem.W.Frag) (a:Addr):It :=
  ⟨fun i H=>∃ xs x,SqT K H a xs∧xs[i]? = some x,fun i H x H'=>H' = H∧∀ xs,SqT K H a xs→xs[i]? = some x,fun i H=>∃ xs,SqT K H a xs∧xs.length≤i⟩
def Itr (lo:Int) (n:Nat):It:=⟨fun i _=>i < n,fun i H x H'=>H' = H∧x = .int (lo + i),fun i _=>n≤i⟩
theorem turn_list {P:Program} {w:World} {K:PySem.W.Frag} {tg:Expr} (a it:Addr):Turn P w K tg (Itl K a) [it] it (fun i h=>h.IsListIter it a i) where
  mem:=by simp
  obj:=fun i h st b hb=>by
    have e:b = it:=by simpa using hb
    subst e
    obtain ⟨o,e,c,d⟩:=st
    exact ⟨o,e,fun v z=>by rw [d] at z; cases z⟩
  keep:=fun i h h' st k=>st.at fun o e=>k it (by simp) o e
  item:=by
    intro X hP hw hK hc i pins s σ H E I hf st hg
    subst hP hw hK
    obtain ⟨xs,x,hq,hx⟩:=hg
    obtain ⟨its,rv,p,hz⟩:=I.list hq
    obtain ⟨u,hu,ru⟩:=rv.get hx
    obtain ⟨f0,f1,f2,f3,f4,f5⟩:=hf it (by simp)
    refine wpAny_pyNext_list_item st p.isList (x:=u) (by simpa using hu) fun h' st' sb=>?_
    have I1:Inv X pins σ H { s with heap:=h' }:=I.turned (t':=s.toks) (fun b o hb e=>(sb.2 b hb).trans e) f0 f1 f3 f4 f5
    obtain ⟨o,e,c,d⟩:=id st'
    exact ⟨u,rfl,go_of (s:={ s with heap:=h' }) e c d (by decide) ⟨x,H,I1,ru,⟨rfl,fun ys hy=>by rw [I.list_inj hy hq]; exact hx⟩,st',fun b hb=>(hf b hb).1⟩⟩
  done:=by
    intro X hP hw hK hc i pins s σ H E I hf st hg
    subst hP hw hK
    obtain ⟨xs,hq,hx⟩:=hg
    obtain ⟨its,rv,p,hz⟩:=I.list hq
    obtain ⟨f0,f1,f2,f3,f4,f5⟩:=hf it (by simp)
    have hl:=rv.length
    exact wpAny_pyNext_list_end (I.ok.hd hc) st p.isList (by simp; omega) fun h' eb=>⟨rfl,I.turned (t':=s.toks) (fun b o hb e=>eb b o hb e) f0 f1 f3 f4 f5⟩
  self:=fun _ _ _ _ _ st h=>wpAny_pyIter_listiter st h
theorem turn_tuple {P:Program} {w:World} {K:PySem.W.Frag} {tg:Expr} (a it:Addr):Turn P w K tg (Itt K a) [it] it (fun i h=>h.IsTupleIter it a i) where
  mem:=by simp
  obj:=fun i h st b hb=>by
    have e:b = it:=by simpa using hb
    subst e
    obtain ⟨o,e,c,d⟩:=st
    exact ⟨o,e,fun v z=>by rw [d] at z; cases z⟩
  keep:=fun i h h' st k=>st.at fun o e=>k it (by simp) o e
  item:=by
    intro X hP hw hK hc i pins s σ H E I hf st hg
    subst hP hw hK
    obtain ⟨xs,x,hq,hx⟩:=hg
    obtain ⟨its,rv,p,hz⟩:=I.tuple hq
    obtain ⟨u,hu,ru⟩:=rv.get hx
    obtain ⟨f0,f1,f2,f3,f4,f5⟩:=hf it (by simp)
    refine wpAny_pyNext_tuple_item st (show s.heap.IsTuple a its.toArray from p) (x:=u) (by simpa using hu) fun h' st' sb=>?_
    have I1:Inv X pins σ H { s with heap:=h' }:=I.turned (t':=s.toks) (fun b o hb e=>(sb.2 b hb).trans e) f0 f1 f3 f4 f5
    obtain ⟨o,e,c,d⟩:=id st'
    exact ⟨u,rfl,go_of (s:={ s with heap:=h' }) e c d (by decide) ⟨x,H,I1,ru,⟨rfl,fun ys hy=>by rw [I.tuple_inj hy hq]; exact hx⟩,st',fun b hb=>(hf b hb).1⟩⟩
  done:=by
    intro X hP hw hK hc i pins s σ H E I hf st hg
    subst hP hw hK
    obtain ⟨xs,hq,hx⟩:=hg
    obtain ⟨its,rv,p,hz⟩:=I.tuple hq
    obtain ⟨f0,f1,f2,f3,f4,f5⟩:=hf it (by simp)
    have hl:=rv.length
    exact wpAny_pyNext_tuple_end (I.ok.hd hc) st (show s.heap.IsTuple a its.toArray from p) (by simp; omega) fun h' eb=>⟨rfl,I.turned (t':=s.toks) (fun b o hb e=>eb b o hb e) f0 f1 f3 f4 f5⟩
  self:=fun _ _ _ _ _ st h=>wpAny_pyIter_tupleiter st h
theorem turn_range {P:Program} {w:World} {K:PySem.W.Frag} {tg:Expr} (it:Addr) (lo:Int) (n:Nat):Turn P w K tg (Itr lo n) [it] it (fun i h=>IsRangeIter h it (lo + (i:Nat) * 1) ((n:Int) - (i:Nat)) 1) where
  mem:=by simp
  obj:=fun i h st b hb=>by
    have e:b = it:=by simpa using hb
    subst e
    exact ⟨_,st,fun v z=>by
      have z':Data.fields _ = Data.cell v:=z
      cases z'⟩
  keep:=fun i h h' st k=>k it (by simp) _ st
  item:=by
    intro X hP hw hK hc i pins s σ H E I hf st hg
    subst hP hw hK
    obtain ⟨f0,f1,f2,f3,f4,f5⟩:=hf it (by simp)
    have W:=Walks.range (prog:=X.prog) (w:=X.w) (I.ok.hd hc) it lo 1 n
    refine W.item i s _ _ hg st fun v h' tk hv st' kk=>?_
    obtain ⟨t,rfl⟩:=hv
    have I1:Inv X pins σ H { s with heap:=h',toks:=tk }:=I.turned (fun b o hb e=>kk b o (by simpa using hb) e) f0 f1 f3 f4 f5
    refine ⟨_,rfl,go_of (s:={ s with heap:=h',toks:=tk }) (n := "range_iterator") st' rfl rfl (by decide) ⟨.int (lo + i),H,I1,⟨t,?_⟩,⟨rfl,rfl⟩,st',fun b hb=>(hf b hb).1⟩⟩
    rw [Int.mul_one]
  done:=by
    intro X hP hw hK hc i pins s σ H E I hf st hg
    subst hP hw hK
    obtain ⟨f0,f1,f2,f3,f4,f5⟩:=hf it (by simp)
    exact wpAny_pyNext_range_end (I.ok.hd hc) st (by have:n≤i:=hg; omega) fun h' eb=>⟨rfl,I.turned (t':=s.toks) (fun b o hb e=>eb b o hb e) f0 f1 f3 f4 f5⟩
  self:=fun _ _ _ _ _ st h=>wpAny_pyIter_rangeiter st h
end L2
namespace L2
open PySem PySem.Spec PyProof.Rows
section
variable {X:Cx} {tg:Expr}
def iList (K:PySem.W.Frag) (tl:TE):TI:=fun σ H R=>tl σ H fun x H1=>∃ a,x = .ref a∧(∃ xs,SqL K H1 a xs)∧R (Itl K a) H1
def iTup (K:PySem.W.Frag) (tl:TE):TI:=fun σ H R=>tl σ H fun x H1=>∃ a,x = .ref a∧(∃ xs,SqT K H1 a xs)∧R (Itt K a) H1
theorem pi_list {l:Expr} {tl:TE} (hl:PE X l tl):PI X tg l (iList X.K tl):=by
  intro pins s σ H R I h
  refine thn (hl pins s σ H _ I h) fun v s1 ⟨x,H1,I1,r1,q1⟩=>?_
  obtain ⟨a,e,⟨xs,hq⟩,q⟩:=q1
  subst e
  cases r1
  obtain ⟨its,rv,p,hz⟩:=I1.list hq
  refine wpAny_pyIter_list p.isList ?_
  refine ⟨s1.heap.objs.size,[s1.heap.objs.size],_,_,H1,rfl,I1.kept (t':=s1.toks) fun b o e=>Heap.get?_push_of_some _ e,turn_list a _,⟨_,Heap.get?_push_size _ rfl,rfl,rfl⟩,fun b hb=>?_,q⟩
  have e:b = s1.heap.objs.size:=by simpa using hb
  subst e
  exact I1.fpOk (Nat.le_refl _) (I1.hok.fresh (Nat.le_refl _))
theorem pi_tup {l:Expr} {tl:TE} (hl:PE X l tl):PI X tg l (iTup X.K tl):=by
  intro pins s σ H R I h
  refine thn (hl pins s σ H _ I h) fun v s1 ⟨x,H1,I1,r1,q1⟩=>?_
  obtain ⟨a,e,⟨xs,hq⟩,q⟩:=q1
  subst e
  cases r1
  obtain ⟨its,rv,p,hz⟩:=I1.tuple hq
  refine wpAny_pyIter_tuple (show s1.heap.IsTuple a its.toArray from p) ?_
  refine ⟨s1.heap.objs.size,[s1.heap.objs.size],_,_,H1,rfl,I1.kept (t':=s1.toks) fun b o e=>Heap.get?_push_of_some _ e,turn_tuple a _,⟨_,Heap.get?_push_size _ rfl,rfl,rfl⟩,fun b hb=>?_,q⟩
  have e:b = s1.heap.objs.size:=by simpa using hb
  subst e
  exact I1.fpOk (Nat.le_refl _) (I1.hok.fresh (Nat.le_refl _))
theorem range_it {pins:List (Addr × Obj)} {σ:St} {H:Hp} {s:Shared} {R:It→Hp→Prop} {E:Value→Shared→Prop} {lo hi:Int} {t u v:Tok} {tk:Nat} (I:Inv X pins σ H s) (h1:-(2 ^ 62)≤lo) (h2:lo < 2 ^ 62) (h3:-(2 ^ 62)≤hi) (h4:hi < 2 ^ 62)
    (q:R (Itr lo (hi - lo).toNat) H):wpAny (model X.prog X.w) X.A (pyIter (.ref s.heap.objs.size)) (PIE X pins σ tg R) E { s with heap:=s.heap.push { cls:=.type "range", data:=.fields #[.int lo t,.int hi u,.int 1 v] },toks:=tk }:=by
  refine wpAny_pyIter_range (IsRange.new ..) (small_one h1 h2 h3 h4) ?_
  have I1:Inv X pins σ H { s with heap:=s.heap.push { cls:=.type "range", data:=.fields #[.int lo t,.int hi u,.int 1 v] },toks:=tk }:=I.kept fun b o e=>Heap.get?_push_of_some _ e
  refine ⟨(s.heap.push { cls:=.type "range", data:=.fields #[.int lo t,.int hi u,.int 1 v] }).objs.size,[(s.heap.push { cls:=.type "range", data:=.fields #[.int lo t,.int hi u,.int 1 v] }).objs.size],_,_,H,rfl,
    I1.kept (t':=tk) fun b o e=>Heap.get?_push_of_some _ e,turn_range _ lo (hi - lo).toNat,?_,fun b hb=>?_,q⟩
  · have e1:lo + ((0:Nat):Int) * 1 = lo:=by simp
    have e2:(((hi - lo).toNat:Nat):Int) - ((0:Nat):Int) = Builtin.Range.rangeSize lo hi 1:=by rw [rangeSize_one]; split <;> omega
    show IsRangeIter _ _ (lo + ((0:Nat):Int) * 1) ((((hi - lo).toNat:Nat):Int) - ((0:Nat):Int)) 1
    rw [e1,e2]
    exact Heap.get?_push_size _ rfl
  · have e:b = (s.heap.push { cls:=.type "range", data:=.fields #[.int lo t,.int hi u,.int 1 v] }).objs.size:=by simpa using hb
    subst e
    exact I1.fpOk (Nat.le_refl _) (I1.hok.fresh (Nat.le_refl _))
def iRng1 (ta:TA):TI:=fun σ H R=>ta σ H fun vs H1=>∃ j:Int,vs = [.int j]∧-(2 ^ 62)≤j∧j < 2 ^ 62∧R (Itr 0 j.toNat) H1
def iRng2 (ta:TA):TI:=fun σ H R=>ta σ H fun vs H1=>∃ i j:Int,vs = [.int i,.int j]∧(-(2 ^ 62)≤i∧i < 2 ^ 62∧-(2 ^ 62)≤j∧j < 2 ^ 62)∧R (Itr i (j - i).toNat) H1
theorem pi_range1 {a:Expr} {ta:TA} {p pos:Pos} (hg:Gl X "range") (hm:X.mg "range" = none) (ha:PA X [a] ta) (hs:starEach [a] X.env = [(false,eval a X.env)]:=by rfl):PI X tg (.Call (.Name "range" p) [a] [] pos) (iRng1 ta):=by
  intro pins s σ H R I h
  refine Call_ (ld_blt I hg hm boot_range (PyProof.Rows.callWith_type1 (thn (ha pos pins s σ H _ I h) fun us s1 ⟨vs,H1,I1,r1,q1⟩=>?_) hs rfl))
  obtain ⟨j,e,q1,q2,q⟩:=q1
  subst e
  cases r1 with
  | cons r rr =>
    cases rr
    obtain ⟨t,rfl⟩:=r
    exact call_range_1 (range_it I1 (by omega) (by omega) q1 q2 (by simpa using q))
theorem pi_range2 {a b:Expr} {ta:TA} {p pos:Pos} (hg:Gl X "range") (hm:X.mg "range" = none) (ha:PA X [a,b] ta) (hs:starEach [a,b] X.env = [(false,eval a X.env),(false,eval b X.env)]:=by rfl) (hs2:starEach [b] X.env = [(false,eval b X.env)]:=by rfl) :
    PI X tg (.Call (.Name "range" p) [a,b] [] pos) (iRng2 ta):=by
  intro pins s σ H R I h
  refine Call_ (ld_blt I hg hm boot_range (PyProof.Rows.callWith_type1 (thn (ha pos pins s σ H _ I h) fun us s1 ⟨vs,H1,I1,r1,q1⟩=>?_) (by rw [hs,hs2]) (by rw [hs2]; rfl)))
  obtain ⟨i,j,e,⟨q1,q2,q3,q4⟩,q⟩:=q1
  subst e
  cases r1 with
  | cons r rr =>
    cases rr with
    | cons r' rr =>
      cases rr
      obtain ⟨t,rfl⟩:=r
      obtain ⟨t',rfl⟩:=r'
      exact call_range_2 (range_it I1 q1 q2 q3 q4 q)
def tFor (wi:TI) (g:TG) (tb:TS):TS:=fun D σ H=>wi σ H fun J H1=>∃ W:Nat→Nat→St→Hp→Prop,(∃ m,W 0 m σ H1)∧∀ i m σ H,W i m σ H →
  (J.stop i H∧D.nx σ H)∨(J.go i H∧∃ N:St→Hp→Prop,(∀ σ' H',N σ' H'→∃ m',m' < m∧W (i + 1) m' σ' H')∧∀ x H',J.yld i H x H'→g x σ H' fun σ2 H2=>tb { D with nx:=N,ct:=N,bk:=D.nx } σ2 H2)
def pinsAt (fp:List Addr) (h:Heap):List (Addr × Obj):=fp.filterMap fun b=>(h.get? b).map fun o=>(b,o)
theorem mem_pinsAt {fp:List Addr} {h:Heap} {b:Addr} {o:Obj} (hb:b∈fp) (e:h.get? b = some o):(b,o)∈pinsAt fp h:=List.mem_filterMap.mpr ⟨b,hb,by rw [e]; rfl⟩
theorem of_pinsAt {fp:List Addr} {h:Heap} {p:Addr × Obj} (hp:p∈pinsAt fp h):p.1∈fp∧h.get? p.1 = some p.2:=by
  obtain ⟨b,hb,e⟩:=List.mem_filterMap.mp hp
  cases q:h.get? b with
  | none=>rw [q] at e; cases e
  | some o =>
    rw [q] at e
    have e':(b,o) = p:=Option.some.inj e
    subst e'
    exact ⟨hb,q⟩
theorem Inv.pinned {pins:List (Addr × Obj)} {σ:St} {H:Hp} {s:Shared} {fp:List Addr} (I:Inv X pins σ H s) (hf:∀ b∈fp,FpOk X pins H b) (ho:∀ b∈fp,∃ o,s.heap.get? b = some o∧∀ v,o.data≠.cell v):Inv X (pins ++ pinsAt fp s.heap) σ H s :=
  I.pins_of fun p hp=>(List.mem_append.mp hp).elim (fun z=>I.pin p (List.mem_append_right _ z)) fun z=>by
    obtain ⟨hb,e⟩:=of_pinsAt z
    obtain ⟨f0,f1,f2,_⟩:=hf p.1 hb
    obtain ⟨o,e',d⟩:=ho p.1 hb
    rw [e] at e'; cases e'
    exact ⟨e,f0,f1,f2,d⟩
theorem Inv.unpinned {pins pl:List (Addr × Obj)} {σ:St} {H:Hp} {s:Shared} (I:Inv X (pins ++ pl) σ H s):Inv X pins σ H s:=I.pins_of fun p hp=>I.pin p (List.mem_append_right _ (List.mem_append_left _ hp))
theorem ps_for {iter:Expr} {body:List Stmt} {wi:TI} {g:TG} {tb:TS} {pos:Pos} (hp:PassesOwn (model X.prog X.w) X.A X.env X.xe) (hc:X.calm = true) (hi:PI X tg iter wi) (hg:PG X tg g) (hb:PSs X body tb)
    (hs:∀ x,foldedSetIterable iter X.env x = pure x:=by intro _; rfl):PS X (.For tg iter body [] pos) (tFor wi g tb):=by
  intro pins s σ H D I h
  refine wpAny_For (thn (hi pins s σ H _ I h) fun v s1 h1=>thn h1 fun itv s2 h2=>?_) hs
  obtain ⟨it,fp,tn,J,H2,e,I2,T,st2,f2,W,⟨m0,w0⟩,turn⟩:=h2
  subst e
  have stat:∀ {H':Hp},(∀ b∈fp,H' b = none)→∀ b∈fp,FpOk X pins H' b:=fun hn b hb=>⟨hn b hb,(f2 b hb).2⟩
  refine codeAny_forLoop_any (fun n s'=>∃ i σ' H',Inv X pins σ' H' s'∧tn i s'.heap∧(∀ b∈fp,H' b = none)∧W i n σ' H') ?_ m0 ⟨0,σ,H2,I2,st2,fun b hb=>(f2 b hb).1,w0⟩
  rintro n s3 ⟨i,σ3,H3,I3,st3,fr3,w3⟩
  rcases turn i n σ3 H3 w3 with ⟨stop,qn⟩ | ⟨go,N,hN,step⟩
  · refine wpAny_passesOwn hp (thn (T.done X rfl rfl rfl hc i pins s3 σ3 H3 X.xe I3 (stat fr3) st3 stop) fun r s4 ⟨hr,I4⟩=>?_)
    subst hr
    exact wpAny_execs_nil ⟨σ3,H3,I4,qn⟩
  · refine wpAny_passesOwn hp (thn (T.item X rfl rfl rfl hc i pins s3 σ3 H3 X.xe I3 (stat fr3) st3 go) fun r s4 ⟨u,hr,h4⟩=>?_)
    subst hr
    refine wpAny_passesOwn hp (thn h4 fun _ s5 ⟨x,H5,I5,r5,y5,st5,fr5⟩=>?_)
    have I5':=I5.pinned (stat fr5) (T.obj _ _ st5)
    refine wpAny_passesOwn hp (thn (hg _ s5 σ3 H5 x u _ I5' r5 (step x H5 y5)) fun _ s6 ⟨σ6,H6,I6,q6⟩=>?_)
    refine wpAny_passesOwn hp (thn (hb _ s6 σ6 H6 _ I6 q6) fun f s7 q7=>?_)
    have again:∀ {σ7:St} {H7:Hp},Inv X (pins ++ pinsAt fp s5.heap) σ7 H7 s7→N σ7 H7→∃ m,m < n∧∃ i σ' H',Inv X pins σ' H' s7∧tn i s7.heap∧(∀ b∈fp,H' b = none)∧W i m σ' H':=fun {σ7 H7} I7 n7=>by
      obtain ⟨m',hm,w7⟩:=hN σ7 H7 n7
      refine ⟨m',hm,i + 1,σ7,H7,I7.unpinned,T.keep _ _ _ st5 fun b hb o e=>(I7.pin (b,o) (List.mem_append_right _ (List.mem_append_right _ (mem_pinsAt hb e)))).1,fun b hb=>?_,w7⟩
      obtain ⟨o,e,d⟩:=T.obj _ _ st5 b hb
      exact (I7.pin (b,o) (List.mem_append_right _ (List.mem_append_right _ (mem_pinsAt hb e)))).2.1
    cases f with
    | next=>obtain ⟨σ7,H7,I7,n7⟩:=q7; exact again I7 n7
    | cont=>obtain ⟨σ7,H7,I7,n7⟩:=q7; exact again I7 n7
    | brk=>obtain ⟨σ7,H7,I7,q7⟩:=q7; exact ⟨σ7,H7,I7.unpinned,q7⟩
    | ret v=>obtain ⟨x7,σ7,H7,I7,r7,q7⟩:=q7; exact ⟨x7,σ7,H7,I7.unpinned,r7,q7⟩
end
theorem for_list {K:PySem.W.Frag} {a:Addr} {xs:List V} {g:TG} {tb:TS} {D:Ends} {σ:St} {H:Hp} (Pv:Nat→St→Hp→Prop) (h0:Pv 0 σ H) (hl:∀ i σ H,i≤xs.length→Pv i σ H→SqL K H a xs)
    (hs:∀ i x σ H,xs[i]? = some x→Pv i σ H→g x σ H fun σ2 H2=>tb { D with nx:=Pv (i + 1),ct:=Pv (i + 1),bk:=D.nx } σ2 H2) (hd:∀ σ H,Pv xs.length σ H→D.nx σ H) :
    ∃ W:Nat→Nat→St→Hp→Prop,(∃ m,W 0 m σ H)∧∀ i m σ H,W i m σ H →
      ((Itl K a).stop i H∧D.nx σ H)∨((Itl K a).go i H∧∃ N:St→Hp→Prop,(∀ σ' H',N σ' H'→∃ m',m' < m∧W (i + 1) m' σ' H')∧∀ x H',(Itl K a).yld i H x H'→g x σ H' fun σ2 H2=>tb { D with nx:=N,ct:=N,bk:=D.nx } σ2 H2):=by
  refine ⟨fun i m σ H=>m = xs.length - i∧i≤xs.length∧Pv i σ H,⟨xs.length,by simp,Nat.zero_le _,h0⟩,?_⟩
  rintro i m σ H ⟨rfl,hi,p⟩
  have q:=hl i σ H hi p
  by_cases hlt:i < xs.length
  · refine .inr ⟨⟨xs,xs[i],q,by simp [hlt]⟩,Pv (i + 1),fun σ' H' p'=>⟨xs.length - (i + 1),by omega,rfl,hlt,p'⟩,fun x H' y=>?_⟩
    obtain ⟨e,y⟩:=y
    subst e
    exact hs i x σ _ (y xs q) p
  · have e:i = xs.length:=by omega
    subst e
    exact .inl ⟨⟨xs,q,Nat.le_refl _⟩,hd σ H p⟩
theorem for_tup {K:PySem.W.Frag} {a:Addr} {xs:List V} {g:TG} {tb:TS} {D:Ends} {σ:St} {H:Hp} (Pv:Nat→St→Hp→Prop) (h0:Pv 0 σ H) (hl:∀ i σ H,i≤xs.length→Pv i σ H→SqT K H a xs)
    (hs:∀ i x σ H,xs[i]? = some x→Pv i σ H→g x σ H fun σ2 H2=>tb { D with nx:=Pv (i + 1),ct:=Pv (i + 1),bk:=D.nx } σ2 H2) (hd:∀ σ H,Pv xs.length σ H→D.nx σ H) :
    ∃ W:Nat→Nat→St→Hp→Prop,(∃ m,W 0 m σ H)∧∀ i m σ H,W i m σ H →
      ((Itt K a).stop i H∧D.nx σ H)∨((Itt K a).go i H∧∃ N:St→Hp→Prop,(∀ σ' H',N σ' H'→∃ m',m' < m∧W (i + 1) m' σ' H')∧∀ x H',(Itt K a).yld i H x H'→g x σ H' fun σ2 H2=>tb { D with nx:=N,ct:=N,bk:=D.nx } σ2 H2):=by
  refine ⟨fun i m σ H=>m = xs.length - i∧i≤xs.length∧Pv i σ H,⟨xs.length,by simp,Nat.zero_le _,h0⟩,?_⟩
  rintro i m σ H ⟨rfl,hi,p⟩
  have q:=hl i σ H hi p
  by_cases hlt:i < xs.length
  · refine .inr ⟨⟨xs,xs[i],q,by simp [hlt]⟩,Pv (i + 1),fun σ' H' p'=>⟨xs.length - (i + 1),by omega,rfl,hlt,p'⟩,fun x H' y=>?_⟩
    obtain ⟨e,y⟩:=y
    subst e
    exact hs i x σ _ (y xs q) p
  · have e:i = xs.length:=by omega
    subst e
    exact .inl ⟨⟨xs,q,Nat.le_refl _⟩,hd σ H p⟩
theorem for_range {lo:Int} {n:Nat} {g:TG} {tb:TS} {D:Ends} {σ:St} {H:Hp} (Pv:Nat→St→Hp→Prop) (h0:Pv 0 σ H)
    (hs:∀ i σ H,i < n→Pv i σ H→g (.int (lo + i)) σ H fun σ2 H2=>tb { D with nx:=Pv (i + 1),ct:=Pv (i + 1),bk:=D.nx } σ2 H2) (hd:∀ σ H,Pv n σ H→D.nx σ H) :
    ∃ W:Nat→Nat→St→Hp→Prop,(∃ m,W 0 m σ H)∧∀ i m σ H,W i m σ H →
      ((Itr lo n).stop i H∧D.nx σ H)∨((Itr lo n).go i H∧∃ N:St→Hp→Prop,(∀ σ' H',N σ' H'→∃ m',m' < m∧W (i + 1) m' σ' H')∧∀ x H',(Itr lo n).yld i H x H'→g x σ H' fun σ2 H2=>tb { D with nx:=N,ct:=N,bk:=D.nx } σ2 H2):=by
  refine ⟨fun i m σ H=>m = n - i∧i≤n∧Pv i σ H,⟨n,by simp,Nat.zero_le _,h0⟩,?_⟩
  rintro i m σ H ⟨rfl,hi,p⟩
  by_cases hlt:i < n
  · refine .inr ⟨hlt,Pv (i + 1),fun σ' H' p'=>⟨n - (i + 1),by omega,rfl,hlt,p'⟩,fun x H' y=>?_⟩
    obtain ⟨e,y⟩:=y
    subst e y
    exact hs i σ _ hlt p
  · have e:i = n:=by omega
    subst e
    exact .inl ⟨Nat.le_refl _,hd σ H p⟩
end L2
namespace L2
open PySem PySem.Spec PyProof.Rows
abbrev R2:=V→V→Hp→VK→Prop
def OpR (X:Cx) (f:Value→Value→Sem Value) (r:R2):Prop :=
  ∀ (pins:List (Addr × Obj)) (s:Shared) (σ:St) (H:Hp) (x y:V) (v u:Value) (Q:VK),Inv X pins σ H s→RelV x v→RelV y u→r x y H Q →
    wpAny (model X.prog X.w) X.A (f v u) (EP X pins σ Q) X.xe s
def UnR (X:Cx) (f:Value→Sem Value) (r:V→Hp→VK→Prop):Prop :=
  ∀ (pins:List (Addr × Obj)) (s:Shared) (σ:St) (H:Hp) (x:V) (v:Value) (Q:VK),Inv X pins σ H s→RelV x v→r x H Q →
    wpAny (model X.prog X.w) X.A (f v) (EP X pins σ Q) X.xe s
def CallR (X:Cx) (f:Value) (r:List V→Hp→VK→Prop):Prop :=
  ∀ (pins:List (Addr × Obj)) (s:Shared) (σ:St) (H:Hp) (xs:List V) (us:List Value) (Q:VK),Inv X pins σ H s→Vals xs us→r xs H Q →
    wpAny (model X.prog X.w) X.A (call f us) (EP X pins σ Q) X.xe s
def TruR (X:Cx) (r:V→Hp→(Bool→Hp→Prop)→Prop):Prop :=
  ∀ (pins:List (Addr × Obj)) (s:Shared) (σ:St) (H:Hp) (x:V) (v:Value) (Q:Bool→Hp→Prop),Inv X pins σ H s→RelV x v→r x H Q →
    wpAny (model X.prog X.w) X.A (truthy v) (TP X pins σ Q) X.xe s
def tOp (r:R2) (ta tb:TE):TE:=fun σ H Q=>ta σ H fun x H1=>tb σ H1 fun y H2=>r x y H2 Q
def tUn (r:V→Hp→VK→Prop) (ta:TE):TE:=fun σ H Q=>ta σ H fun x H1=>r x H1 Q
def rI (C:Int→Int→Prop) (g:Int→Int→V):R2:=fun x y H Q=>∃ i j,x = .int i∧y = .int j∧C i j∧Q (g i j) H
def rI0 (g:Int→Int→V):R2:=fun x y H Q=>∃ i j,x = .int i∧y = .int j∧Q (g i j) H
def rU (g:Int→V):V→Hp→VK→Prop:=fun x H Q=>∃ i,x = .int i∧Q (g i) H
section
variable {X:Cx} {a b c:Expr} {ta tb tc:TE} {pos:Pos}
theorem binT (ha:PE X a ta) (hb:PE X b tb) {pins:List (Addr × Obj)} {s:Shared} {σ:St} {H:Hp} {R:V→V→Hp→Prop} (I:Inv X pins σ H s)
    (h:ta σ H fun x H1=>tb σ H1 fun y H2=>R x y H2) {Q:Value→Shared→Prop} {f:Value→Value→Sem Value}
    (hf:∀ v u s2 x y H2,Inv X pins σ H2 s2→RelV x v→RelV y u→R x y H2→wpAny (model X.prog X.w) X.A (f v u) Q X.xe s2) :
    wpAny (model X.prog X.w) X.A (eval a X.env) (fun v s₁=>wpAny (model X.prog X.w) X.A (eval b X.env) (fun u s₂=>wpAny (model X.prog X.w) X.A (f v u) Q X.xe s₂) X.xe s₁) X.xe s:=by
  refine thn (ha pins s σ H _ I h) fun v s1 ⟨x,H1,I1,r1,q1⟩=>?_
  refine thn (hb pins s1 σ H1 _ I1 q1) fun u s2 ⟨y,H2,I2,r2,q2⟩=>?_
  exact hf v u s2 x y H2 I2 r1 r2 q2
theorem pe_op {op:Operator} {r:R2} (ho:OpR X (binaryOp op) r) (ha:PE X a ta) (hb:PE X b tb):PE X (.BinOp a op b pos) (tOp r ta tb):=by
  intro pins s σ H Q I h
  exact wpAny_BinOp (binT ha hb I h fun v u s2 x y H2 I2 rx ry q=>ho pins s2 σ H2 x y v u Q I2 rx ry q)
theorem pe_un {op:UnaryOp} {r:V→Hp→VK→Prop} (ho:UnR X (unaryOp op) r) (ha:PE X a ta):PE X (.UnaryOp op a pos) (tUn r ta):=by
  intro pins s σ H Q I h
  exact UnaryOp_ (thn (ha pins s σ H _ I h) fun v s1 ⟨x,H1,I1,r1,q1⟩=>ho pins s1 σ H1 x v Q I1 r1 q1)
theorem opI {f:Value→Value→Sem Value} {C:Int→Int→Prop} {g:Int→Int→Int}
    (rule:∀ (i j:Int) (t u:Tok) (s:Shared) (Q:Value→Shared→Prop) (E:Value→Shared→Prop),C i j→Q (.int (g i j) s.toks) { s with toks:=s.toks + 1 }→wpAny (model X.prog X.w) X.A (f (.int i t) (.int j u)) Q E s) :
    OpR X f (rI C fun i j=>.int (g i j)):=by
  intro pins s σ H x y v u Q I rx ry h
  obtain ⟨i,j,rfl,rfl,hc,q⟩:=h
  obtain ⟨t,rfl⟩:=rx
  obtain ⟨t',rfl⟩:=ry
  exact rule i j t t' s _ _ hc ⟨.int (g i j),H,I.tok _,⟨_,rfl⟩,q⟩
theorem opI0 {f:Value→Value→Sem Value} {g:Int→Int→Int}
    (rule:∀ (i j:Int) (t u:Tok) (s:Shared) (Q:Value→Shared→Prop) (E:Value→Shared→Prop),Q (.int (g i j) s.toks) { s with toks:=s.toks + 1 }→wpAny (model X.prog X.w) X.A (f (.int i t) (.int j u)) Q E s) :
    OpR X f (rI0 fun i j=>.int (g i j)):=by
  intro pins s σ H x y v u Q I rx ry h
  obtain ⟨i,j,rfl,rfl,q⟩:=h
  obtain ⟨t,rfl⟩:=rx
  obtain ⟨t',rfl⟩:=ry
  exact rule i j t t' s _ _ ⟨.int (g i j),H,I.tok _,⟨_,rfl⟩,q⟩
theorem opB0 {f:Value→Value→Sem Value} {g:Int→Int→Bool}
    (rule:∀ (i j:Int) (t u:Tok) (s:Shared) (Q:Value→Shared→Prop) (E:Value→Shared→Prop),Q (.bool (g i j)) s→wpAny (model X.prog X.w) X.A (f (.int i t) (.int j u)) Q E s) :
    OpR X f (rI0 fun i j=>.bl (g i j)):=by
  intro pins s σ H x y v u Q I rx ry h
  obtain ⟨i,j,rfl,rfl,q⟩:=h
  obtain ⟨t,rfl⟩:=rx
  obtain ⟨t',rfl⟩:=ry
  exact rule i j t t' s _ _ ⟨.bl (g i j),H,I,rfl,q⟩
def CDiv (i j:Int):Prop:=0 < j∧j < 1073741824
def CPow (i j:Int):Prop:=0≤j∧j≤1000000∧i.natAbs < 2 ^ 64
def CMul (i j:Int):Prop:=(-(2 ^ 64) < i∧i < 2 ^ 64)∨(-(2 ^ 64) < j∧j < 2 ^ 64)
theorem CMul.ok {i j:Int} (h:CMul i j):IntMulOk i j:=by
  rcases h with ⟨h1,h2⟩ | ⟨h1,h2⟩
  · exact .of_left (intBits_le_64 h1 h2)
  · exact .of_right (intBits_le_64 h1 h2)
theorem two_pow_nn (k:Nat):(0:Int)≤2 ^ k:=by
  rw [two_pow_cast]
  exact Int.natCast_nonneg _
theorem op_add:OpR X (binaryOp .Add) (rI0 fun i j=>.int (i + j)):=opI0 fun _ _ _ _ _ _ _ q=>add_int q
theorem op_sub:OpR X (binaryOp .Sub) (rI0 fun i j=>.int (i - j)):=opI0 fun _ _ _ _ _ _ _ q=>sub_int q
theorem op_mul:OpR X (binaryOp .Mult) (rI CMul fun i j=>.int (i * j)):=opI fun _ _ _ _ _ _ _ hc q=>mul_int q hc.ok
theorem op_fdiv:OpR X (binaryOp .FloorDiv) (rI CDiv fun i j=>.int (i / j)):=opI fun i j _ _ _ _ _ hc q=>by
  have h1:(0:Int) < j:=hc.1
  have h2:j < 1073741824:=hc.2
  exact floordiv_int (by omega) (by rw [Int.fdiv_eq_ediv_of_nonneg i (by omega)]; exact q) (.inl (PyProof.noPylong_small (by omega)))
theorem op_mod:OpR X (binaryOp .Mod) (rI (fun _ j=>0 < j) fun i j=>.int (i % j)):=opI fun i j _ _ _ _ _ hc q=>by
  have h1:(0:Int) < j:=hc
  exact mod_int' (by omega) (by rw [Int.fmod_eq_emod_of_nonneg i (by omega)]; exact q)
theorem op_pow:OpR X (binaryOp .Pow) (rI CPow fun i j=>.int (i ^ j.toNat)):=opI fun _ _ _ _ _ _ _ hc q=>pow_int_small hc.1 hc.2.1 hc.2.2 q
theorem op_shr:OpR X (binaryOp .RShift) (rI (fun _ j=>0≤j) fun i j=>.int (i / 2 ^ j.toNat)):=opI fun i j _ _ _ _ _ hc q =>
  rshift_int hc (by rw [Int.fdiv_eq_ediv_of_nonneg i (two_pow_nn _)]; exact q)
theorem op_and:OpR X (binaryOp .BitAnd) (rI0 fun i j=>.int (Builtin.bitAnd i j)):=opI0 fun _ _ _ _ _ _ _ q=>and_int q
theorem op_or:OpR X (binaryOp .BitOr) (rI0 fun i j=>.int (Builtin.bitOr i j)):=opI0 fun _ _ _ _ _ _ _ q=>or_int q
theorem op_xor:OpR X (binaryOp .BitXor) (rI0 fun i j=>.int (Builtin.bitXor i j)):=opI0 fun _ _ _ _ _ _ _ q=>xor_int q
theorem iop_add:OpR X (inplaceOp .Add) (rI0 fun i j=>.int (i + j)):=opI0 fun _ _ _ _ _ _ _ q=>iadd_int q
theorem unI {f:Value→Sem Value} {g:Int→Int}
    (rule:∀ (i:Int) (t:Tok) (s:Shared) (Q:Value→Shared→Prop) (E:Value→Shared→Prop),Q (.int (g i) s.toks) { s with toks:=s.toks + 1 }→wpAny (model X.prog X.w) X.A (f (.int i t)) Q E s) :
    UnR X f (rU fun i=>.int (g i)):=by
  intro pins s σ H x v Q I rx h
  obtain ⟨i,rfl,q⟩:=h
  obtain ⟨t,rfl⟩:=rx
  exact rule i t s _ _ ⟨.int (g i),H,I.tok _,⟨_,rfl⟩,q⟩
theorem un_neg:UnR X (unaryOp .USub) (rU fun i=>.int (-i)):=unI fun _ _ _ _ _ q=>neg_int q
end
def scal:V→V→Bool
  | .non,.non=>true | .non,.int _=>true | .int _,.non=>true | .non,.bl _=>true | .bl _,.non=>true | .non,.str _=>true | .str _,.non=>true
  | .int _,.int _=>true | .bl _,.bl _=>true | .str _,.str _=>true | .byt _,.byt _=>true
  | .int _,.str _=>true | .str _,.int _=>true | .bl _,.str _=>true | .str _,.bl _=>true
  | _,_=>false
def rEq:R2:=fun x y H Q=>scal x y = true∧Q (.bl (decide (x = y))) H
def rNe:R2:=fun x y H Q=>scal x y = true∧Q (.bl (!decide (x = y))) H
theorem dec_int {i j:Int}:decide (V.int i = V.int j) = (i == j):=by
  rw [Bool.eq_iff_iff]
  simp
theorem dec_bl {i j:Bool}:decide (V.bl i = V.bl j) = (i == j):=by
  rw [Bool.eq_iff_iff]
  simp
theorem dec_str {i j:Str}:decide (V.str i = V.str j) = (i == j):=by
  rw [Bool.eq_iff_iff]
  simp
theorem dec_byt {i j:Array UInt8}:decide (V.byt i = V.byt j) = (i.toList == j.toList):=by
  rw [Bool.eq_iff_iff]
  cases i
  cases j
  simp
section
variable {X:Cx} {a b c:Expr} {ta tb tc:TE} {pos:Pos}
theorem fin_bl {pins:List (Addr × Obj)} {σ:St} {H:Hp} {s:Shared} {Q:VK} {k k':Bool} (I:Inv X pins σ H s) (q:Q (.bl k) H) (e:k = k'):EP X pins σ Q (.bool k') s:=by
  subst e
  exact ⟨.bl k,H,I,rfl,q⟩
theorem op_eq:OpR X (compareOp .Eq) rEq:=by
  intro pins s σ H x y v u Q I rx ry h
  obtain ⟨hs,q⟩:=h
  cases x with
  | non =>
    cases rx
    cases y with
    | non=>cases ry; exact PySem.EqNone.eq_none_none (fin_bl I q (by simp))
    | bl j=>cases ry; exact PySem.EqNone.eq_none_bool (fin_bl I q (by simp))
    | int j=>obtain ⟨t',rfl⟩:=ry; exact PySem.EqNone.eq_none_int (fin_bl I q (by simp))
    | str j=>obtain ⟨t',rfl⟩:=ry; exact PySem.EqNone.eq_none_str (fin_bl I q (by simp))
    | _=>exact absurd (show false = true from hs) Bool.false_ne_true
  | bl i =>
    cases rx
    cases y with
    | non=>cases ry; exact PySem.EqNone.eq_bool_none (fin_bl I q (by simp))
    | bl j=>cases ry; exact eq_bool (fin_bl I q dec_bl)
    | str j=>obtain ⟨t',rfl⟩:=ry; exact PySem.EqMixed.eq_bool_str (fin_bl I q (by simp))
    | _=>exact absurd (show false = true from hs) Bool.false_ne_true
  | int i =>
    obtain ⟨t,rfl⟩:=rx
    cases y with
    | non=>cases ry; exact PySem.EqNone.eq_int_none (fin_bl I q (by simp))
    | int j=>obtain ⟨t',rfl⟩:=ry; exact eq_int (fin_bl I q dec_int)
    | str j=>obtain ⟨t',rfl⟩:=ry; exact PySem.EqMixed.eq_int_str (fin_bl I q (by simp))
    | _=>exact absurd (show false = true from hs) Bool.false_ne_true
  | str i =>
    obtain ⟨t,rfl⟩:=rx
    cases y with
    | non=>cases ry; exact PySem.EqNone.eq_str_none (fin_bl I q (by simp))
    | bl j=>cases ry; exact PySem.EqMixed.eq_str_bool (fin_bl I q (by simp))
    | int j=>obtain ⟨t',rfl⟩:=ry; exact PySem.EqMixed.eq_str_int (fin_bl I q (by simp))
    | str j=>obtain ⟨t',rfl⟩:=ry; exact eq_str (fin_bl I q dec_str)
    | _=>exact absurd (show false = true from hs) Bool.false_ne_true
  | byt i =>
    obtain ⟨t,rfl⟩:=rx
    cases y with
    | byt j=>obtain ⟨t',rfl⟩:=ry; exact PySem.W.eq_bytes (fin_bl I q dec_byt)
    | _=>exact absurd (show false = true from hs) Bool.false_ne_true
  | _=>cases y <;> exact absurd (show false = true from hs) Bool.false_ne_true
theorem op_ne:OpR X (compareOp .NotEq) rNe:=by
  intro pins s σ H x y v u Q I rx ry h
  obtain ⟨hs,q⟩:=h
  cases x with
  | non =>
    cases rx
    cases y with
    | non=>cases ry; exact PySem.EqNone.ne_none_none (fin_bl I q (by simp))
    | bl j=>cases ry; exact PySem.EqNone.ne_none_bool (fin_bl I q (by simp))
    | int j=>obtain ⟨t',rfl⟩:=ry; exact PySem.EqNone.ne_none_int (fin_bl I q (by simp))
    | str j=>obtain ⟨t',rfl⟩:=ry; exact PySem.EqNone.ne_none_str (fin_bl I q (by simp))
    | _=>exact absurd (show false = true from hs) Bool.false_ne_true
  | bl i =>
    cases rx
    cases y with
    | non=>cases ry; exact PySem.EqNone.ne_bool_none (fin_bl I q (by simp))
    | bl j=>cases ry; exact ne_bool (fin_bl I q (congrArg not dec_bl))
    | str j=>obtain ⟨t',rfl⟩:=ry; exact PySem.EqMixed.ne_bool_str (fin_bl I q (by simp))
    | _=>exact absurd (show false = true from hs) Bool.false_ne_true
  | int i =>
    obtain ⟨t,rfl⟩:=rx
    cases y with
    | non=>cases ry; exact PySem.EqNone.ne_int_none (fin_bl I q (by simp))
    | int j=>obtain ⟨t',rfl⟩:=ry; exact ne_int (fin_bl I q (congrArg not dec_int))
    | str j=>obtain ⟨t',rfl⟩:=ry; exact PySem.EqMixed.ne_int_str (fin_bl I q (by simp))
    | _=>exact absurd (show false = true from hs) Bool.false_ne_true
  | str i =>
    obtain ⟨t,rfl⟩:=rx
    cases y with
    | non=>cases ry; exact PySem.EqNone.ne_str_none (fin_bl I q (by simp))
    | bl j=>cases ry; exact PySem.EqMixed.ne_str_bool (fin_bl I q (by simp))
    | int j=>obtain ⟨t',rfl⟩:=ry; exact PySem.EqMixed.ne_str_int (fin_bl I q (by simp))
    | str j=>obtain ⟨t',rfl⟩:=ry; exact ne_str (fin_bl I q (congrArg not dec_str))
    | _=>exact absurd (show false = true from hs) Bool.false_ne_true
  | byt i =>
    obtain ⟨t,rfl⟩:=rx
    cases y with
    | byt j=>obtain ⟨t',rfl⟩:=ry; exact PySem.W.ne_bytes (fin_bl I q (congrArg not dec_byt))
    | _=>exact absurd (show false = true from hs) Bool.false_ne_true
  | _=>cases y <;> exact absurd (show false = true from hs) Bool.false_ne_true
theorem op_lt:OpR X (compareOp .Lt) (rI0 fun i j=>.bl (decide (i < j))):=opB0 fun _ _ _ _ _ _ _ q=>lt_int q
theorem op_gt:OpR X (compareOp .Gt) (rI0 fun i j=>.bl (decide (j < i))):=opB0 fun _ _ _ _ _ _ _ q=>gt_int q
theorem op_ge:OpR X (compareOp .GtE) (rI0 fun i j=>.bl (decide (j≤i))):=opB0 fun _ _ _ _ _ _ _ q=>ge_int q
theorem op_isN:OpR X (compareOp .Is) (fun x y H Q=>y = .non∧Q (.bl (decide (x = .non))) H):=by
  intro pins s σ H x y v u Q I rx ry h
  obtain ⟨rfl,q⟩:=h
  cases ry
  refine is_none_gen (fin_bl I q ?_)
  cases x <;> first
    | (cases rx; rfl)
    | (obtain ⟨t,rfl⟩:=rx; rfl)
theorem nomark (b:Expr) {op:CmpOp} (h:op≠.In:=by decide) (h2:op≠.NotIn:=by decide):behindInMarks op b = false:=by
  have e1:(op == CmpOp.In) = false:=by cases op <;> first | rfl | exact absurd rfl h
  have e2:(op == CmpOp.NotIn) = false:=by cases op <;> first | rfl | exact absurd rfl h2
  cases b <;> simp [behindInMarks,e1,e2]
theorem pe_cmpR {op:CmpOp} {r:R2} (ho:OpR X (compareOp op) r) (ha:PE X a ta) (hb:PE X b tb) (hm:behindInMarks op b = false):PE X (.Compare a [op] [b] pos) (tOp r ta tb):=by
  intro pins s σ H Q I h
  exact wpAny_Compare1 (binT ha hb I h fun v u s2 x y H2 I2 rx ry q=>ho pins s2 σ H2 x y v u Q I2 rx ry q) hm
def tTest (t:TE):TT:=fun σ H Q=>t σ H fun x H'=>∃ k,x = .bl k∧Q k H'
theorem pt_cmpR {op:CmpOp} {r:R2} (ho:OpR X (compareOp op) r) (ha:PE X a ta) (hb:PE X b tb) (hm:behindInMarks op b = false):PT X (.Compare a [op] [b] pos) (tTest (tOp r ta tb)):=by
  intro pins s σ H Q I h
  refine wpAny_isTrue_Compare1 (thn (ha pins s σ H _ I h) fun v s1 ⟨x,H1,I1,r1,q1⟩=>thn (hb pins s1 σ H1 _ I1 q1) fun u s2 ⟨y,H2,I2,r2,q2⟩ =>
    thn (ho pins s2 σ H2 x y v u _ I2 r1 r2 q2) fun c s3 ⟨z,H3,I3,r3,k,e,q3⟩=>?_) hm
  subst e
  cases r3
  exact wpAny_truthy_bool ⟨H3,I3,q3⟩
def TruV (K:PySem.W.Frag) (x:V) (H:Hp) (k:Bool):Prop :=
  match x with
  | .non=>k = false
  | .bl b=>k = b
  | .int i=>k = (i != 0)
  | .str y=>y.length≤sizeLine∧k = ((y.length:Int) != 0)
  | .byt y=>y.size≤sizeLine∧k = ((y.size:Int) != 0)
  | .ref p=>(∃ xs,SqL K H p xs∧k = !xs.isEmpty)∨(∃ xs,SqT K H p xs∧k = !xs.isEmpty)∨∃ kvs,H p = some (.dK kvs)∧k = !kvs.isEmpty
  | _=>False
theorem isEmpty_kv {κ:Type} {kvs:List (κ × V)} {vs:List (κ × Value)} (r:KV kvs vs):(!vs.isEmpty) = !kvs.isEmpty:=by
  cases r <;> rfl
theorem isEmpty_of {xs:List V} {its:List Value} (r:Vals xs its):(!its.toArray.isEmpty) = !xs.isEmpty:=by
  cases r <;> simp
theorem line63:(sizeLine:Nat) < 2 ^ 63:=by rw [sizeLine_eq]; decide
theorem tru_ok:TruR X (fun x H Q=>∃ k,TruV X.K x H k∧Q k H):=by
  intro pins s σ H x v Q I rx h
  obtain ⟨k,e,q⟩:=h
  have hl:=line63
  have hs:sizeLine = 16777216:=sizeLine_eq
  cases x with
  | non =>
    cases rx
    have e':k = false:=e
    subst e'
    exact truthy_none ⟨H,I,q⟩
  | bl b =>
    cases rx
    have e':k = b:=e
    subst e'
    exact wpAny_truthy_bool ⟨H,I,q⟩
  | int i =>
    obtain ⟨t,rfl⟩:=rx
    have e':k = (i != 0):=e
    subst e'
    exact PySem.P.truthy_int ⟨H,I,q⟩
  | str y =>
    obtain ⟨t,rfl⟩:=rx
    obtain ⟨hy,e'⟩:y.length≤sizeLine∧k = ((y.length:Int) != 0):=e
    subst e'
    exact PySem.P.truthy_str (by omega) ⟨H,I.tok _,q⟩
  | byt y =>
    obtain ⟨t,rfl⟩:=rx
    obtain ⟨hy,e'⟩:y.size≤sizeLine∧k = ((y.size:Int) != 0):=e
    subst e'
    exact PySem.W.truthy_bytes (by omega) ⟨H,I.tok _,q⟩
  | ref p =>
    cases rx
    have e':(∃ xs,SqL X.K H p xs∧k = !xs.isEmpty)∨(∃ xs,SqT X.K H p xs∧k = !xs.isEmpty)∨∃ kvs,H p = some (.dK kvs)∧k = !kvs.isEmpty:=e
    rcases e' with ⟨xs,hx,e'⟩ | ⟨xs,hx,e'⟩ | ⟨kvs,hx,e'⟩
    · subst e'
      obtain ⟨its,r,pl,hz⟩:=I.list hx
      have hlen:=r.length
      exact wpAny_truthy_list pl.isList (by simp only [List.size_toArray]; omega) ⟨H,I.tok _,by rw [isEmpty_of r]; exact q⟩
    · subst e'
      obtain ⟨its,r,pl,hz⟩:=I.tuple hx
      have hlen:=r.length
      exact truthy_tuple pl (by simp only [List.size_toArray]; omega) ⟨H,I.tok _,by rw [isEmpty_of r]; exact q⟩
    · subst e'
      obtain ⟨hz,hS,vs,r,m⟩:kvs.length≤sizeLine∧(p == sysModules) = false∧∃ vs,KV kvs vs∧s.heap.DictOf (mixKind X.prog X.w) p vs:=I.hok p _ hx
      have hlen:kvs.length = vs.length:=Paired.length r
      exact wpAny_truthy_dict hS m (by omega) ⟨H,I.tok _,by rw [isEmpty_kv r]; exact q⟩
  | _=>exact (show False from e).elim
theorem pt_truth (ha:PE X a ta) (he:∀ whole,isTrue a X.env whole = (do let v ← whole; standAt a.pos; holding [v] (truthy v))) :
    PT X a (fun σ H Q=>ta σ H fun x H'=>∃ k,TruV X.K x H' k∧Q k H'):=by
  intro pins s σ H Q I h
  exact isTrue_plain (thn (ha pins s σ H _ I h) fun v s1 ⟨x,H1,I1,r1,q1⟩=>tru_ok pins s1 σ H1 x v Q I1 r1 q1) (he _)
theorem op_add_str:OpR X (binaryOp .Add) (fun x y H Q=>∃ i j,x = .str i∧y = .str j∧i.length + j.length≤sizeLine∧Q (.str (i ++ j)) H):=by
  intro pins s σ H x y v u Q I rx ry h
  obtain ⟨i,j,rfl,rfl,hz,q⟩:=h
  obtain ⟨t,rfl⟩:=rx
  obtain ⟨t',rfl⟩:=ry
  exact add_str (fun t' tk=>⟨.str (i ++ j),H,I.tok _,⟨_,rfl⟩,q⟩) hz
theorem vals1 {x:V} {us:List Value} (r:Vals [x] us):∃ u,us = [u]∧RelV x u:=by
  cases r with
  | cons r1 r2=>cases r2; exact ⟨_,rfl,r1⟩
theorem vals2 {x y:V} {us:List Value} (r:Vals [x,y] us):∃ u w',us = [u,w']∧RelV x u∧RelV y w':=by
  cases r with
  | cons r1 r2 =>
    cases r2 with
    | cons r3 r4=>cases r4; exact ⟨_,_,rfl,r1,r3⟩
end
end L2
namespace L2
open PySem PySem.Spec PyProof.Rows
structure ObjM (h:Heap) (x dx C:Addr) (mA:Str→Option Value):Prop where
  obj:h.get? x = some (PySem.W.instObj C dx)
  ns:h.Ns1 dx mA
  ne:dx≠x
theorem lookIn_ns {h:Heap} {dx:Addr} {mA:Str→Option Value} (n:h.Ns1 dx mA):∃ od,h.get? dx = some od∧∀ name,PySem.W.lookIn name od = some (mA name):=by
  obtain ⟨o,es,ep,ho,hd,hk,_,hm⟩:=n
  refine ⟨o,ho,fun name=>?_⟩
  have e:=hm name
  unfold nsFind findBy at e
  rw [← Array.find?_toList] at e
  unfold PySem.W.lookIn
  rw [hd]
  dsimp only
  split
  · rename_i y q
    rw [q] at e
    exact congrArg some e
  · rename_i q
    rw [q] at e
    have a:es.toList.any (·.refKey) = false:=by
      rw [List.any_eq_false]
      intro y hy
      obtain ⟨z,t,hkey⟩:=hk y (Array.mem_toList_iff.mp hy)
      simp [DictEntry.refKey,hkey]
    have a':¬ es.toList.any (·.refKey) = true:=by rw [a]; exact Bool.false_ne_true
    rw [if_neg a']
    exact congrArg some e
theorem ObjM.look {h:Heap} {x dx C:Addr} {mA:Str→Option Value} (I:ObjM h x dx C mA):∃ od,PySem.W.InstAt h x (PySem.W.instObj C dx) C (some od)∧∀ name,PySem.W.lookIn name od = some (mA name) :=
  let ⟨od,ho,hl⟩:=lookIn_ns I.ns
  ⟨od,⟨I.obj,rfl,rfl,ho⟩,hl⟩
section
variable {prog:Program} {w:World} {A:Around} {E:Value→Shared→Prop} {s:Shared} {K:PySem.W.Frag} {x dx C f:Addr} {mA:Str→Option Value} {name:Str} {v:Value}
theorem get_map {expr:Bool} {Q:Value→Shared→Prop} (X:K.In s.heap) (I:ObjM s.heap x dx C mA) (hg:PySem.W.plainGet K C name = true) (hh:PySem.W.hasDictIn K C = true)
    (ha:PySem.W.findIn K (.ref C) name = some none) (hv:mA name = some v) (hv':PySem.W.handedIn v = true) (h:Q v { s with toks:=s.toks + 1 }) :
    wpAny (model prog w) A (getAttr (.ref x) name expr) Q E s:=by
  obtain ⟨od,J,hl⟩:=I.look
  exact PySem.W.get_value X J (PySem.W.plainGet_of hg).1 (PySem.W.findObj_own hh ha rfl (by rw [hl,hv])) hv' h
theorem get_meth {pl:Sem Bool} {Q:Value × List Value→Shared→Prop} (X:K.In s.heap) (I:ObjM s.heap x dx C mA) (hg:PySem.W.plainGet K C name = true)
    (hf:PySem.W.findIn K (.ref C) name = some (some (.ref f))) (ht:PySem.W.isFn K (.ref f) = true) (hv:mA name = none) (h:Q (.ref f,[.ref x]) s) :
    wpAny (model prog w) A (getMethod (.ref x) name pl) Q E s:=by
  obtain ⟨od,J,hl⟩:=I.look
  exact PySem.W.method_fn X J (PySem.W.plainGet_of hg).1 (PySem.W.plainGet_of hg).2 hf (beq_iff_eq.mp ht) (by show (PySem.W.lookIn name od).map (·.isSome) = some false; rw [hl,hv]; rfl) h
theorem set_map {ns:List Str} {Q:Unit→Shared→Prop} (X:K.In s.heap) (I:ObjM s.heap x dx C mA)
    (hs:PySem.W.findIn K (.ref C) "__setattr__" = some (some (.builtin "object.__setattr__"))) (hp:PySem.W.plainOver K C = true) (ht:PySem.W.takerIn K C name = some none) (hh:PySem.W.hasDictIn K C = true)
    (hw:PySem.Within mA ns) (hsz:ns.length≤sizeLine)
    (h:∀ h',ObjM h' x dx C (fun y=>if y = name then some v else mA y)→Heap.SameBut dx s.heap h'→Q () { s with heap:=h',toks:=s.toks + 2 }) :
    wpAny (model prog w) A (setAttr (.ref x) name v) Q E s:=by
  obtain ⟨od,J,hl⟩:=I.look
  refine PySem.W.set_plain X J hs (PySem.W.osa_open (s:={ s with toks:=s.toks + 1 }) (r:=none) X J hp ht fun b=>?_)
  obtain ⟨cd,hc,hd'⟩:=PySem.W.any_some hh
  have hx:s.heap.get? x = some ⟨.ref C,some dx,.plain,#[]⟩:=I.obj
  refine wpAny_bind (wpAny_pure (wpAny_bind (wpAny_bind (wpAny_loadPart hx (wpAny_bind (PySem.W.Looks.here (s:={ s with toks:=s.toks + 1 }) (PySem.W.looks_clsIn X hc) ?_))))))
  rw [hd']
  refine wpAny_pure (a:=some dx) (wpAny_bind (wpAny_pure (wpAny_bind ?_)))
  refine wpAny_nsSet1 (s:={ s with toks:=s.toks + 1 }) I.ns fun h' hn2 hs2=>?_
  obtain ⟨oD,esD,epD,hoD,hdD,hcD⟩:=hn2.count (PySem.Within.cons name v hw)
  refine wpAny_bind (wpAny_lookBehind hoD (by rw [hdD]; exact pastItsLine_dict (Nat.le_trans hcD (by rw [List.length_cons]; omega))) ?_)
  exact wpAny_pure (h _ ⟨(hs2.2 _ (Ne.symm I.ne)).trans I.obj,hn2,I.ne⟩ hs2)
theorem make_map {R:Result→Shared→Prop} {vs:List Value} {kw:List (Str × Value)} (X:K.In s.heap) (hm:PySem.W.makesIn K C = true)
    (hi:PySem.W.findIn K (.ref C) "__init__" = some (some (.ref f))) (hf:PySem.W.typeIn K (.ref f) = some (.type "function"))
    (h:codeAny (model prog w) (A.under (.builtin "type.__call__" ⟨.ref C :: vs,kw⟩)) (.call (.ref f) ⟨.ref (s.heap.objs.size + 1) :: vs,kw⟩) (PySem.W.InitBack (s.heap.objs.size + 1) R)
      { s with heap:=(s.heap.push PySem.W.emptyDict).push (PySem.W.instObj C s.heap.objs.size) }) :
    codeAny (model prog w) A (.call (.ref C) ⟨vs,kw⟩) R s:=by
  obtain ⟨hh,g,d,t,os⟩:=s
  exact PySem.W.make_core (PySem.W.makes_of X hm) (PySem.W.looks_findIn X hi) (fun self=>PySem.W.bind_fn X self hf) (.inl rfl) h
end
def putF (f:Str) (v:V):List (Str × V)→List (Str × V)
  | []=>[(f,v)]
  | (g,x) :: r=>if g = f then (g,v) :: r else (g,x) :: putF f v r
theorem lookup_putF (f g:Str) (v:V):∀ fs:List (Str × V),(putF f v fs).lookup g = if g = f then some v else fs.lookup g
  | []=>by
    show List.lookup g [(f,v)] = _
    by_cases h:g = f
    · have hb:(g == f) = true:=beq_iff_eq.mpr h
      simp only [List.lookup,hb,if_pos h]
    · have hb:(g == f) = false:=beq_eq_false_iff_ne.mpr h
      simp only [List.lookup,hb,if_neg h]
  | (k,x) :: r=>by
    have ih:=lookup_putF f g v r
    rw [show putF f v ((k,x) :: r) = (if k = f then (k,v) :: r else (k,x) :: putF f v r) from rfl]
    by_cases hk:k = f
    · rw [if_pos hk]
      by_cases h:g = k
      · have hb:(g == k) = true:=beq_iff_eq.mpr h
        simp only [List.lookup,hb,if_pos (h.trans hk)]
      · have hb:(g == k) = false:=beq_eq_false_iff_ne.mpr h
        simp only [List.lookup,hb,if_neg (fun e:g = f=>h (e.trans hk.symm))]
    · rw [if_neg hk]
      by_cases h:g = k
      · have hb:(g == k) = true:=beq_iff_eq.mpr h
        simp only [List.lookup,hb,if_neg (fun e:g = f=>hk (h.symm.trans e))]
      · have hb:(g == k) = false:=beq_eq_false_iff_ne.mpr h
        simp only [List.lookup,hb]
        exact ih
theorem keys_putF (f:Str) (v:V):∀ fs:List (Str × V),f∈(putF f v fs).map (·.1)∧∀ g,g∈fs.map (·.1)→g∈(putF f v fs).map (·.1)
  | []=>⟨by simp [putF],fun g h=>by simp at h⟩
  | (k,x) :: r=>by
    obtain ⟨i1,i2⟩:=keys_putF f v r
    rw [show putF f v ((k,x) :: r) = (if k = f then (k,v) :: r else (k,x) :: putF f v r) from rfl]
    by_cases hk:k = f
    · rw [if_pos hk]
      subst hk
      exact ⟨by simp,fun g h=>by simpa using h⟩
    · rw [if_neg hk]
      refine ⟨?_,fun g h=>?_⟩
      · rw [List.map_cons]
        exact List.mem_cons_of_mem _ i1
      · rw [List.map_cons] at h ⊢
        rcases List.mem_cons.mp h with e | e
        · exact List.mem_cons.mpr (.inl e)
        · exact List.mem_cons_of_mem _ (i2 g e)
theorem length_putF (f:Str) (v:V):∀ fs:List (Str × V),(putF f v fs).length≤fs.length + 1
  | []=>by simp [putF]
  | (k,x) :: r=>by
    have ih:=length_putF f v r
    rw [show putF f v ((k,x) :: r) = (if k = f then (k,v) :: r else (k,x) :: putF f v r) from rfl]
    by_cases hk:k = f
    · rw [if_pos hk,List.length_cons,List.length_cons]; omega
    · rw [if_neg hk,List.length_cons,List.length_cons]; omega
theorem RelO.some_of {v:V} {o:Option Value} (r:RelO (some v) o):∃ u,o = some u∧RelV v u:=by
  cases o with
  | none=>exact (show False from r).elim
  | some u=>exact ⟨u,rfl,r⟩
theorem RelO.none_of {o:Option Value} (r:RelO none o):o = none:=by
  cases o with
  | none=>rfl
  | some u=>exact (show False from r).elim
theorem handed_of {v:V} {u:Value} (r:RelV v u):PySem.W.handedIn u = true:=by
  cases v with
  | non=>cases (show u = Value.none from r); rfl
  | bl b=>cases (show u = Value.bool b from r); rfl
  | int i=>obtain ⟨t,e⟩:=(show ∃ t,u = Value.int i t from r); cases e; rfl
  | str x=>obtain ⟨t,e⟩:=(show ∃ t,u = Value.str x t from r); cases e; rfl
  | byt b=>obtain ⟨t,e⟩:=(show ∃ t,u = Value.bytes b t from r); cases e; rfl
  | flt b=>obtain ⟨t,e⟩:=(show ∃ t,u = Value.float b t from r); cases e; rfl
  | ref a=>cases (show u = Value.ref a from r); rfl
  | ty n=>cases (show u = Value.type n from r); rfl
section
variable {P:Program} {w:World} {H H':Hp} {h h':Heap} {a C dx:Addr} {fs fs':List (Str × V)}
theorem ins_get (hok:HOk P w H h) (e:H a = some (.ins C dx fs)):∃ mA,ObjM h a dx C mA∧(∀ f,RelO (fs.lookup f) (mA f))∧PySem.Within mA (fs.map (·.1))∧fs.length≤1000∧H dx = some (.own a):=by
  obtain ⟨d,z,ne,ob,mA,n,r,q⟩:=(show ObjOk P w H h a (.ins C dx fs) from hok a _ e)
  exact ⟨mA,⟨ob,n,ne⟩,r,q,z,d⟩
end
structure Cls (K:PySem.W.Frag) (C:Addr):Prop where
  pg:PySem.W.plainGet K C Str.empty = true
  hd:PySem.W.hasDictIn K C = true
  po:PySem.W.plainOver K C = true
  sa:PySem.W.findIn K (.ref C) "__setattr__" = some (some (.builtin "object.__setattr__"))
theorem Cls.get {K:PySem.W.Frag} {C:Addr} (c:Cls K C) (f:Str):PySem.W.plainGet K C f = true:=c.pg
def NoAttr (K:PySem.W.Frag) (C:Addr) (f:Str):Prop:=PySem.W.findIn K (.ref C) f = some none
theorem NoAttr.taker {K:PySem.W.Frag} {C:Addr} {f:Str} (n:NoAttr K C f):PySem.W.takerIn K C f = some none:=by
  unfold PySem.W.takerIn
  rw [show PySem.W.findIn K (.ref C) f = some none from n]
  rfl
structure Meth (K:PySem.W.Frag) (C:Addr) (m:Str) (f:Addr):Prop where
  at_:PySem.W.findIn K (.ref C) m = some (some (.ref f))
  fn:PySem.W.isFn K (.ref f) = true
  kp:PySem.W.keepIn K (.ref f) = true
section
variable {X:Cx} {pins:List (Addr × Obj)} {σ:St} {H:Hp} {s:Shared} {a C dx:Addr} {fs:List (Str × V)} {f:Str} {v:V} {A:Around} {E:Value→Shared→Prop}
theorem getattr_ok {b:Bool} {Q:Value→Shared→Prop} (I:Inv X pins σ H s) (e:H a = some (.ins C dx fs)) (c:Cls X.K C) (n:NoAttr X.K C f) (l:fs.lookup f = some v)
    (h:∀ u s',Inv X pins σ H s'→RelV v u→Q u s'):wpAny (model X.prog X.w) A (getAttr (.ref a) f b) Q E s:=by
  obtain ⟨mA,O,r,_,_,_⟩:=ins_get I.hok e
  obtain ⟨u,hu,ru⟩:=RelO.some_of (v:=v) (o:=mA f) (by rw [← l]; exact r f)
  exact get_map I.kIn O (c.get f) c.hd n hu (handed_of ru) (h u _ (I.tok _) ru)
theorem getmeth_ok {m:Str} {g:Addr} {pl:Sem Bool} {Q:Value × List Value→Shared→Prop} (I:Inv X pins σ H s) (e:H a = some (.ins C dx fs)) (c:Cls X.K C) (k:Meth X.K C m g) (l:fs.lookup m = none)
    (h:Q (.ref g,[.ref a]) s):wpAny (model X.prog X.w) A (getMethod (.ref a) m pl) Q E s:=by
  obtain ⟨mA,O,r,_,_,_⟩:=ins_get I.hok e
  have hn:mA m = none:=RelO.none_of (by rw [← l]; exact r m)
  exact get_meth I.kIn O (c.get m) k.at_ k.fn hn h
theorem setattr_ok {y:V} {u:Value} {Q:Unit→Shared→Prop} (I:Inv X pins σ H s) (e:H a = some (.ins C dx fs)) (c:Cls X.K C) (n:NoAttr X.K C f) (hl:fs.length < 1000) (ry:RelV y u)
    (h:∀ s',Inv X pins σ (upd H a (.ins C dx (putF f y fs))) s'→Q () s'):wpAny (model X.prog X.w) A (setAttr (.ref a) f u) Q E s:=by
  obtain ⟨mA,O,r,wi,_,ho⟩:=ins_get I.hok e
  have hz:(fs.map (·.1)).length≤sizeLine:=by rw [List.length_map,sizeLine_eq]; omega
  refine set_map I.kIn O c.sa c.po n.taker c.hd wi hz fun h' O' sb=>h _ ?_
  have hd:∃ o,h'.get? dx = some o:=let ⟨o,_,_,e',_⟩:=O'.ns; ⟨o,e'⟩
  refine I.write (x:=a) (e:=dx) (by rw [e]; exact True.intro) (.inr ho) (fun b q hb z=>(sb.2 b hb).trans z) hd ?_
  refine ⟨by rw [upd_ne O.ne]; exact ho,?_,O.ne,O'.obj,_,O'.ns,fun g=>?_,fun g hg=>?_⟩
  · have:=length_putF f y fs; omega
  · show RelO ((putF f y fs).lookup g) (if g = f then some u else mA g)
    rw [lookup_putF]
    by_cases q:g = f
    · rw [if_pos q,if_pos q]; exact ry
    · rw [if_neg q,if_neg q]; exact r g
  · by_cases q:g = f
    · rw [q]; exact (keys_putF f y fs).1
    · refine (keys_putF f y fs).2 g (wi g fun z=>hg ?_)
      show (if g = f then some u else mA g) = none
      rw [if_neg q]; exact z
theorem Inv.made (I:Inv X pins σ H s):Inv X pins σ (upd (upd H s.heap.objs.size (.own (s.heap.objs.size + 1))) (s.heap.objs.size + 1) (.ins C s.heap.objs.size []))
    { s with heap:=(s.heap.push PySem.W.emptyDict).push (PySem.W.instObj C s.heap.objs.size) }:=by
  have e1:(s.heap.push PySem.W.emptyDict).get? s.heap.objs.size = some PySem.W.emptyDict:=Heap.get?_push_size s.heap rfl
  have e2:((s.heap.push PySem.W.emptyDict).push (PySem.W.instObj C s.heap.objs.size)).get? (s.heap.objs.size + 1) = some (PySem.W.instObj C s.heap.objs.size):=by
    have:=Heap.get?_push_size (s.heap.push PySem.W.emptyDict) (o:=PySem.W.instObj C s.heap.objs.size) rfl
    rwa [Heap.size_push] at this
  have e3:(s.heap.push PySem.W.emptyDict).Ns s.heap.objs.size (fun _=>none):=⟨PySem.W.emptyDict,#[],_,e1,rfl,(fun e he=>absurd he (by simp)),fun _=>rfl⟩
  have I1:=I.laid (a:=s.heap.objs.size) (o:=.own (s.heap.objs.size + 1)) (h':=s.heap.push PySem.W.emptyDict) (t':=s.toks) (fun b u q=>Heap.get?_push_of_some _ q) (Nat.le_refl _) ⟨_,e1⟩
  refine I1.laid (a:=s.heap.objs.size + 1) (o:=.ins C s.heap.objs.size []) (t':=s.toks) (fun b u q=>Heap.get?_push_of_some _ q) (Nat.le_of_eq (Heap.size_push _ _)) ?_
  have ne:s.heap.objs.size≠s.heap.objs.size + 1:=Nat.ne_of_lt (Nat.lt_succ_self _)
  refine ⟨by rw [upd_ne ne,upd_same],Nat.zero_le _,ne,e2,fun _=>none,(Heap.Ns1.of_empty e3).at fun o q=>Heap.get?_push_of_some _ q,fun _=>True.intro,fun y hy=>absurd rfl hy⟩
theorem attr_of {prog:Program} {w:World} {env:Env} {e:Expr} {f:Str} {pos:Pos} {s:Shared} {Q:Value→Shared→Prop} (hb:attributeBase e f env (eval e env) = eval e env)
    (h:wpAny (model prog w) A (eval e env) (fun o s₁=>wpAny (model prog w) A (getAttr o f true) Q E s₁) E s):wpAny (model prog w) A (eval (.Attribute e f pos) env) Q E s :=
  Attribute_any_ h (by rw [arm_eval_Attribute,hb])
end
def tFld (K:PySem.W.Frag) (ta:TE) (f:Str):TE:=fun σ H Q=>ta σ H fun x H1=>∃ a C dx fs v,x = .ref a∧H1 a = some (.ins C dx fs)∧Cls K C∧NoAttr K C f∧fs.lookup f = some v∧Q v H1
def sFld (K:PySem.W.Frag) (ta tv:TE) (f:Str):TS:=fun D σ H=>tv σ H fun y H1=>ta σ H1 fun x H2=>∃ a C dx fs,x = .ref a∧H2 a = some (.ins C dx fs)∧Cls K C∧NoAttr K C f∧fs.length < 1000 ∧
  D.nx σ (upd H2 a (.ins C dx (putF f y fs)))
section
variable {X:Cx} {o e value:Expr} {f:Str} {pos pos' tpos:Pos} {ta tv:TE}
theorem pe_fld (he:PE X e ta) (hb:attributeBase e f X.env (eval e X.env) = eval e X.env):PE X (.Attribute e f pos) (tFld X.K ta f):=by
  intro pins s σ H Q I h
  refine attr_of hb (thn (he pins s σ H _ I h) fun u s1 ⟨x,H1,I1,rx,a,C,dx,fs,v,ex,ea,c,n,l,q⟩=>?_)
  subst ex
  obtain rfl:u = Value.ref a:=rx
  exact getattr_ok I1 ea c n l fun u' s2 I2 ru=>⟨v,H1,I2,ru,q⟩
theorem ps_fld (ha:PE X o ta) (hv:PE X value tv) (hs:swapsWith value (some (.Attribute o f pos')) pos.line X.env = pure false):PS X (.Assign [.Attribute o f pos'] value pos) (sFld X.K ta tv f):=by
  intro pins s σ H D I h
  refine plainObj_wpAny_Assign_Attribute (thn (hv pins s σ H _ I h) fun u s1 ⟨y,H1,I1,ry,q⟩=>thn (ha pins s1 σ H1 _ I1 q) fun ov s2 ⟨x,H2,I2,rx,a,C,dx,fs,ex,ea,c,n,l,q2⟩=>?_) hs
  subst ex
  obtain rfl:ov = Value.ref a:=rx
  exact setattr_ok I2 ea c n l ry fun s3 I3=>⟨σ,_,I3,q2⟩
theorem methcall_of {pl:Sem Bool} {m:Str} {apos:Pos} {args:List Expr} {pins:List (Addr × Obj)} {s:Shared} {σ:St} {H:Hp} {Q:Value→Shared→Prop} {te:TE} (he:PE X e te) (I:Inv X pins σ H s)
    (h:te σ H fun x H1=>∃ a C dx fs g,x = .ref a∧H1 a = some (.ins C dx fs)∧Cls X.K C∧Meth X.K C m g∧fs.lookup m = none ∧
      ∀ s1,Inv X pins σ H1 s1→wpAny (model X.prog X.w) X.A (callWith pos (.ref g) [.ref a] (backTo pos (starEach args X.env)) (backToKw pos (keywordEach [] X.env))) Q X.xe s1)
    (ht:eval (.Call (.Attribute e m apos) args [] pos) X.env = (do
      let ov ← eval e X.env
      standAt apos.atName
      let (f,first) ← holding [ov] (getMethod ov m pl)
      callWith pos f first (backTo pos (starEach args X.env)) (backToKw pos (keywordEach [] X.env)))) :
    wpAny (model X.prog X.w) X.A (eval (.Call (.Attribute e m apos) args [] pos) X.env) Q X.xe s:=by
  refine PySem.W.methodCall_KW (pl:=pl) (thn (he pins s σ H _ I h) fun u s1 ⟨x,H1,I1,rx,a,C,dx,fs,g,ex,ea,c,k,l,q⟩=>?_) ht
  subst ex
  obtain rfl:u = Value.ref a:=rx
  exact getmeth_ok I1 ea c k l (q s1 I1)
end
section
variable {X:Cx} {pins:List (Addr × Obj)} {σ:St} {H:Hp} {s:Shared} {A:Around} {E:Value→Shared→Prop} {Q:Value→Shared→Prop} {c:Value} {b:Bool}
inductive TyOf (K:PySem.W.Frag) (H:Hp):V→Value→Prop where
  | non:TyOf K H .non (.type "NoneType")
  | bl (x:Bool):TyOf K H (.bl x) (.type "bool")
  | int (i:Int):TyOf K H (.int i) (.type "int")
  | str (x:Str):TyOf K H (.str x) (.type "str")
  | flt (x:UInt64):TyOf K H (.flt x) (.type "float")
  | lst {a:Addr} {xs:List V} (e:H a = some (.lst xs)):TyOf K H (.ref a) (.type "list")
  | frz {a:Addr} {o:Obj} {xs:List V} (e:H a = some (.frz o (.lst xs))):TyOf K H (.ref a) (.type "list")
  | tup {a:Addr} {xs:List V} (e:H a = some (.tup xs)):TyOf K H (.ref a) (.type "tuple")
  | dK {a:Addr} {kvs:List (Key × V)} (e:H a = some (.dK kvs)):TyOf K H (.ref a) (.type "dict")
  | dT {a:Addr} {kvs:List (List Key × V)} (e:H a = some (.dT kvs)):TyOf K H (.ref a) (.type "dict")
  | ins {a C dx:Addr} {fs:List (Str × V)} (e:H a = some (.ins C dx fs)) (cl:Cls K C) (ha:PySem.W.findIn K (.ref C) "__class__" = some (some (.builtin "object.__class__")))
      (hn:PySem.W.specialIn K (.builtin "object.__class__") "__get__" = some (some (.builtin "getset_descriptor.__get__"))) (htk:PySem.W.takesIn K (.builtin "object.__class__") = some true)
      (hm:PySem.W.mroIn K C (.type "object") = some true):TyOf K H (.ref a) (.ref C)
theorem isinst_ok {x:V} {u t:Value} (I:Inv X pins σ H s) (rx:RelV x u) (ty:TyOf X.K H x t) (e:PySem.W.kitOne X.K t c = some b) (h:∀ tk,Q (.bool b) { s with toks:=tk }) :
    wpAny (model X.prog X.w) A (call (.builtin "isinstance") [u,c]) Q E s:=by
  cases ty with
  | non=>cases (show u = Value.none from rx); exact PySem.W.kia_one PySem.W.kitx_none I.kIn True.intro e (fun z=>nomatch z) h
  | bl y=>cases (show u = Value.bool y from rx); exact PySem.W.kia_one PySem.W.kitx_bool I.kIn True.intro e (fun z=>nomatch z) h
  | int i=>obtain ⟨t,q⟩:=(show ∃ t,u = Value.int i t from rx); cases q; exact PySem.W.kia_one PySem.W.kitx_int I.kIn True.intro e (fun z=>nomatch z) h
  | str y=>obtain ⟨t,q⟩:=(show ∃ t,u = Value.str y t from rx); cases q; exact PySem.W.kia_one PySem.W.kitx_str I.kIn True.intro e (fun z=>nomatch z) h
  | flt y=>obtain ⟨t,q⟩:=(show ∃ t,u = Value.float y t from rx); cases q; exact PySem.W.kia_one PySem.W.kitx_float I.kIn True.intro e (fun z=>nomatch z) h
  | @lst a xs ea =>
    cases (show u = Value.ref a from rx)
    obtain ⟨_,_,n,_,h1⟩:=(show ObjOk X.prog X.w H s.heap a (.lst xs) from I.hok a _ ea)
    exact PySem.W.kia_one PySem.W.kitx_list I.kIn ⟨_,h1,rfl⟩ e (fun z=>nomatch z) h
  | @frz a ob xs ea =>
    cases (show u = Value.ref a from rx)
    obtain ⟨_,_,_,n,_,h1⟩:=(show ObjOk X.prog X.w H s.heap a (.frz ob (.lst xs)) from I.hok a _ ea)
    exact PySem.W.kia_one PySem.W.kitx_list I.kIn ⟨_,h1,rfl⟩ e (fun z=>nomatch z) h
  | @tup a xs ea =>
    cases (show u = Value.ref a from rx)
    obtain ⟨_,_,_,p⟩:=(show ObjOk X.prog X.w H s.heap a (.tup xs) from I.hok a _ ea)
    obtain ⟨o,h1,h2,_⟩:=p
    exact PySem.W.kia_one PySem.W.kitx_tuple I.kIn ⟨o,h1,h2⟩ e (fun z=>nomatch z) h
  | @dK a kvs ea =>
    cases (show u = Value.ref a from rx)
    obtain ⟨_,_,vs,_,p⟩:=(show ObjOk X.prog X.w H s.heap a (.dK kvs) from I.hok a _ ea)
    obtain ⟨o,es,ep,h1,h2,_⟩:=p
    exact PySem.W.kia_one PySem.W.kitx_dict I.kIn ⟨o,h1,h2.1⟩ e (fun z=>nomatch z) h
  | @dT a kvs ea =>
    cases (show u = Value.ref a from rx)
    obtain ⟨_,_,xs,_,o,es,ep,h1,h2,_⟩:=(show ObjOk X.prog X.w H s.heap a (.dT kvs) from I.hok a _ ea)
    exact PySem.W.kia_one PySem.W.kitx_dict I.kIn ⟨o,h1,h2.1⟩ e (fun z=>nomatch z) h
  | @ins a C dx fs ea cl ha hn htk hm =>
    cases (show u = Value.ref a from rx)
    obtain ⟨mA,O,_⟩:=ins_get I.hok ea
    obtain ⟨od,J,_⟩:=O.look
    exact PySem.W.kia_one (PySem.W.kitx_own (cl.get _) cl.hd ha hn htk hm) I.kIn J e (fun z=>nomatch z) h
end
end L2
namespace L2
open PySem PySem.Spec PyProof.Rows
structure Room (k:Nat) (A:Around):Prop where
  hd:A.handled = none
  dp:A.depth + 3 * k + 5 < recursionLimit
  un:A.units + 16 * k + 200 < cLine
theorem Room.mono {j k:Nat} {A:Around} (r:Room k A) (h:j≤k):Room j A:=⟨r.hd,by have:=r.dp; omega,by have:=r.un; omega⟩
theorem Room.deeper {k:Nat} {A:Around} (r:Room (k + 1) A) (env:Env):Room k (A.deeper env) :=
  ⟨r.hd,by have:=r.dp; show A.depth + 1 + 3 * k + 5 < _; omega,by have:=r.un; show A.units + 3 + 16 * k + 200 < _; omega⟩
theorem make_depth {A:Around} {C:Addr} {us:List Value} {kw:List (Str × Value)}:(A.under (.builtin "type.__call__" ⟨.ref C :: us,kw⟩)).depth = A.depth + 1:=by
  first | rfl | simp [Around.under,Code.weight,Code.isCreation,Code.isGuard,Code.isCaller,Code.frames,Code.isFrame,guardIds]
theorem make_units {A:Around} {C:Addr} {us:List Value} {kw:List (Str × Value)}:(A.under (.builtin "type.__call__" ⟨.ref C :: us,kw⟩)).units = A.units + 1:=by
  first | rfl | simp [Around.under,Code.cUnits,Code.frames,Code.isFrame]
theorem Room.make {k:Nat} {A:Around} (r:Room (k + 1) A) (C:Addr) (us:List Value) (kw:List (Str × Value)):Room k (A.under (.builtin "type.__call__" ⟨.ref C :: us,kw⟩)) :=
  ⟨r.hd,by have:=r.dp; rw [make_depth]; omega,by have:=r.un; rw [make_units]; omega⟩
theorem Room.depth {k:Nat} {A:Around} (r:Room k A):A.depth < recursionLimit:=by have:=r.dp; omega
theorem Room.units {k:Nat} {A:Around} (r:Room k A):A.units + 64 < cLine:=by have:=r.un; omega
def tNil:TA:=fun _ H Q=>Q [] H
def tCons (ta:TE) (tr:TA):TA:=fun σ H Q=>ta σ H fun x H1=>tr σ H1 fun xs H2=>Q (x :: xs) H2
section
variable {X:Cx} {e:Expr} {es:List Expr} {te:TE} {t:TA} {pos:Pos}
theorem pa_nil:PA X [] tNil:=fun _ _ _ _ H Q I h=>Calls.spliced_nil ⟨[],H,I,.nil,h⟩
theorem pa_cons (ha:PE X e te) (hr:PA X es t) (hs:starEach (e :: es) X.env = (false,eval e X.env) :: starEach es X.env:=by rfl):PA X (e :: es) (tCons te t):=by
  intro pos pins s σ H Q I h
  rw [hs]
  show wpAny _ _ (spliced ((false,eval e X.env) :: backTo pos (starEach es X.env))) _ _ s
  refine Calls.spliced_cons (thn (ha pins s σ H _ I h) fun u s1 ⟨x,H1,I1,r1,q1⟩=>?_)
  exact thn (hr pos pins s1 σ H1 _ I1 q1) fun us s2 ⟨xs,H2,I2,r2,q2⟩=>⟨x :: xs,H2,I2,.cons r1 r2,q2⟩
def tTup (t:TA):TE:=fun σ H Q=>t σ H fun xs H1=>xs.length≤sizeLine∧∀ p,H1 p = none→Q (.ref p) (upd H1 p (.tup xs))
def tLst (t:TA):TE:=fun σ H Q=>t σ H fun xs H1=>xs.length≤sizeLine∧∀ p,H1 p = none→Q (.ref p) (upd H1 p (.lst xs))
theorem pe_tup {x1} (h:PA X es t):PE X (.Tuple es x1 pos) (tTup t):=by
  intro pins s σ H Q I hq
  refine wpAny_Tuple_spliced (thn (h pos pins s σ H _ I hq) fun us s1 ⟨xs,H1,I1,r,z,q⟩=>⟨by rw [← r.length]; exact z,?_⟩)
  have hf:H1 s1.heap.objs.size = none:=I1.hok.fresh (Nat.le_refl _)
  refine ⟨.ref s1.heap.objs.size,upd H1 s1.heap.objs.size (.tup xs),I1.laid (t':=s1.toks) (fun b u e=>Heap.get?_push_of_some _ e) (Nat.le_refl _) ?_,rfl,q _ hf⟩
  exact ⟨z,us,r,⟨_,Heap.get?_push_size _ rfl,rfl,_,rfl⟩⟩
theorem pe_lst (h:PA X es t):PE X (.List es pos) (tLst t):=by
  intro pins s σ H Q I hq
  refine wpAny_List_spliced (thn (h pos pins s σ H _ I hq) fun us s1 ⟨xs,H1,I1,r,z,q⟩=>⟨by rw [← r.length]; exact z,?_⟩)
  have hf:H1 s1.heap.objs.size = none:=I1.hok.fresh (Nat.le_refl _)
  refine ⟨.ref s1.heap.objs.size,upd H1 s1.heap.objs.size (.lst xs),I1.laid (t':=s1.toks) (fun b u e=>Heap.get?_push_of_some _ e) (Nat.le_refl _) ?_,rfl,q _ hf⟩
  exact ⟨z,us,0,r,Heap.get?_push_size _ rfl⟩
end
abbrev Sp:=List V→Hp→VK→XK→Prop
abbrev CXT:=List Env→Hp→Shared→XK→Value→Shared→Prop
structure Env0 (P:Program) (w:World) (K:PySem.W.Frag) (mg:Str→Option Value) (base:Heap) (A:Around) (outer:List Env) (s:Shared) (H:Hp):Prop where
  frames:A.frames = some outer
  mod:Mod K mg base
  bs:∀ b o,base.get? b = some o→s.heap.get? b = some o∧H b = none
  bsz:base.objs.size≤s.heap.objs.size
  funs:s.heap.FunFrames base outer
  frf:∀ b∈frs outer,H b = none
  hok:HOk P w H s.heap
  bare:AllBare s.gens
def CE (outer:List Env) (P:Program) (w:World) (H:Hp) (s:Shared) (Q:VK) (u:Value) (s':Shared):Prop :=
  ∃ v H',s'.os = s.os∧AllBare s'.gens∧Un (frs outer) [] H H' s.heap s'.heap∧HOk P w H' s'.heap∧RelV v u∧Q v H'
def CR (CX:CXT) (outer:List Env) (P:Program) (w:World) (H:Hp) (s:Shared) (Q:VK) (E:XK) (r:Result) (s':Shared):Prop :=
  match r with
  | .ok (.ret u)=>CE outer P w H s Q u s'
  | .ok _=>False
  | .error e=>CX outer H s E e s'
structure FnOk (P:Program) (w:World) (K:PySem.W.Frag) (mg:Str→Option Value) (base:Heap) (CX:CXT) (k:Nat) (f:Addr) (fd:FuncData) (ps:List Str) (sp:Sp):Prop where
  len:∀ vs H Q E,sp vs H Q E→vs.length = ps.length
  run:∀ (A:Around) (outer:List Env) (s:Shared) (H:Hp) (args:Args) (us:List Value) (vs:List V) (Q:VK) (E:XK),Room k A→Env0 P w K mg base A outer s H→BindsTo s fd args (ps.zip us)→Vals vs us→sp vs H Q E →
    codeAny (model P w) A (.call (.ref f) args) (CR CX outer P w H s Q E) s
theorem FnOk.mono {P:Program} {w:World} {K:PySem.W.Frag} {mg:Str→Option Value} {base:Heap} {CX:CXT} {j k:Nat} {f:Addr} {fd:FuncData} {ps:List Str} {sp:Sp} (F:FnOk P w K mg base CX j f fd ps sp) (h:j≤k) :
    FnOk P w K mg base CX k f fd ps sp:=⟨F.len,fun A outer s H args us vs Q E hr=>F.run A outer s H args us vs Q E (hr.mono h)⟩
theorem Env0.make {P:Program} {w:World} {K:PySem.W.Frag} {mg:Str→Option Value} {base:Heap} {A:Around} {outer:List Env} {s:Shared} {H:Hp} (e:Env0 P w K mg base A outer s H) (C:Addr) (us:List Value) (kw:List (Str × Value)) :
    Env0 P w K mg base (A.under (.builtin "type.__call__" ⟨.ref C :: us,kw⟩)) outer s H:=⟨by first | exact e.frames | (simpa [Around.under,Code.envs,Code.isFrame,pushEnvs] using e.frames),e.mod,e.bs,e.bsz,e.funs,e.frf,e.hok,e.bare⟩
section
variable {X:Cx} {pins:List (Addr × Obj)} {σ:St} {H:Hp} {s s':Shared}
theorem Inv.env0 (I:Inv X pins σ H s):Env0 X.prog X.w X.K X.mg X.base X.A X.stack s H :=
  ⟨I.ok.frames,I.ok.mod,I.bs,Nat.le_trans I.ok.bsz I.sz,I.stack,I.stkFree,I.hok,I.bare⟩
theorem Inv.after {Q:VK} {u:Value} (I:Inv X pins σ H s) (h:CE X.stack X.prog X.w H s Q u s'):EP X pins σ Q u s':=by
  obtain ⟨v,H',os,bare,un,hok,r,q⟩:=h
  obtain ⟨hh,g,d,t,os'⟩:=s'
  obtain rfl:os' = s.os:=os
  exact ⟨v,H',I.call (h':=hh) (g':=g) (d':=d) (t':=t) (ch:=[]) un hok bare (fun b z=>absurd z (by simp)),r,q⟩
end
def tCall (sp:Sp) (dvs:List V) (E:XK) (t:TA):TE:=fun σ H Q=>t σ H fun vs H1=>sp (vs ++ dvs) H1 Q E
def tMeth (C:Addr) (m:Str) (sp:Sp) (dvs:List V) (E:XK) (ta:TE) (t:TA):TE:=fun σ H Q=>ta σ H fun x H1=>∃ a dx fs,x = .ref a∧H1 a = some (.ins C dx fs)∧fs.lookup m = none ∧
  t σ H1 fun vs H2=>sp (x :: (vs ++ dvs)) H2 Q E
def tMake (C:Addr) (sp:Sp) (dvs:List V) (E:XK) (t:TA):TE:=fun σ H Q=>t σ H fun vs H1=>∀ x dx,H1 x = none→H1 dx = none→dx≠x →
  sp (.ref x :: (vs ++ dvs)) (upd (upd H1 dx (.own x)) x (.ins C dx [])) (fun v H2=>v = .non∧Q (.ref x) H2) E
def Binds (K:PySem.W.Frag) (fd:FuncData) (ps:List Str) (ds:List Value):Prop :=
  ∀ (s:Shared) (us:List Value),K.In s.heap→(us ++ ds).length = ps.length→BindsTo s fd ⟨us,[]⟩ (ps.zip (us ++ ds))
theorem Binds.all {K:PySem.W.Frag} {fd:FuncData} {ps:List Str} (h:∀ us:List Value,us.length = ps.length→bindArgs fd ⟨us,[]⟩ = pure (ps.zip us)):Binds K fd ps []:=fun s us _ hl=>by
  rw [List.append_nil] at hl ⊢
  exact .of_eq (h us hl)
def Passes (CX:CXT) (X:Cx) (E:XK):Prop:=∀ (pins:List (Addr × Obj)) (σ:St) (H:Hp) (s:Shared) (e:Value) (s':Shared),Inv X pins σ H s→CX X.stack H s E e s'→X.xe e s'
section
variable {X:Cx} {CX:CXT} {k:Nat} {f C:Addr} {fd:FuncData} {ps:List Str} {sp:Sp} {dvs:List V} {ds:List Value} {E:XK} {x m:Str} {p pos apos:Pos} {e o:Expr} {es:List Expr} {ta:TE} {t:TA}
theorem run_fn {pins:List (Addr × Obj)} {σ:St} {H:Hp} {s:Shared} {Q:VK} {us:List Value} {vs:List V} (F:FnOk X.prog X.w X.K X.mg X.base CX k f fd ps sp) (hr:Room k X.A) (hb:Binds X.K fd ps ds) (hd:Vals dvs ds) (hx:Passes CX X E)
    (I:Inv X pins σ H s) (r:Vals vs us) (h:sp (vs ++ dvs) H Q E):wpAny (model X.prog X.w) X.A (call (.ref f) us) (EP X pins σ Q) X.xe s:=by
  have r2:Vals (vs ++ dvs) (us ++ ds):=r.append hd
  have hl:(us ++ ds).length = ps.length:=by rw [← r2.length]; exact F.len _ _ _ _ h
  refine wpAny_call (codeAny_mono (F.run X.A X.stack s H ⟨us,[]⟩ (us ++ ds) (vs ++ dvs) Q E hr I.env0 (hb s us I.kIn hl) r2 h) fun r s' hq=>?_)
  cases r with
  | error e=>exact hx pins σ H s e s' I hq
  | ok fl =>
    cases fl with
    | ret u=>exact I.after hq
    | next=>exact False.elim hq
    | brk=>exact False.elim hq
    | cont=>exact False.elim hq
theorem pe_call (F:FnOk X.prog X.w X.K X.mg X.base CX k f fd ps sp) (hr:Room k X.A) (hg:Gl X x) (hm:X.mg x = some (.ref f)) (hk:PySem.W.keepIn X.K (.ref f) = true) (hb:Binds X.K fd ps ds) (hd:Vals dvs ds) (hx:Passes CX X E)
    (ha:PA X (e :: es) t) (hdb:(x == ("__debug__" : Str)) = false:=by decide) (he:starEach (e :: es) X.env = (false,eval e X.env) :: starEach es X.env:=by rfl) (hpl:(backTo pos (starEach es X.env)).any (·.1) = false:=by rfl) :
    PE X (.Call (.Name x p) (e :: es) [] pos) (tCall sp dvs E t):=by
  intro pins s σ H Q I h
  refine wpAny_Call_Name_kw (ld_glob I hg hm ?_ hdb)
  refine PySem.W.callWith_K (h₀:=X.base) I.ok.mod.kin hk (thn (ha pos pins s σ H _ I h) fun us s1 ⟨vs,H1,I1,r,q⟩=>⟨I1.kIn,?_⟩) he hpl
  exact run_fn F hr hb hd hx I1 r q
theorem pe_meth {pl:Sem Bool} (he:PE X o ta) (c:Cls X.K C) (hm:Meth X.K C m f) (F:FnOk X.prog X.w X.K X.mg X.base CX k f fd ps sp) (hr:Room k X.A) (hb:Binds X.K fd ps ds) (hd:Vals dvs ds) (hx:Passes CX X E) (ha:PA X (e :: es) t)
    (hst:starEach (e :: es) X.env = (false,eval e X.env) :: starEach es X.env:=by rfl) (hpl:(backTo pos (starEach es X.env)).any (·.1) = false:=by rfl)
    (ht:eval (.Call (.Attribute o m apos) (e :: es) [] pos) X.env = (do
      let ov ← eval o X.env
      standAt apos.atName
      let (f,first) ← holding [ov] (getMethod ov m pl)
      callWith pos f first (backTo pos (starEach (e :: es) X.env)) (backToKw pos (keywordEach [] X.env))):=by rfl) :
    PE X (.Call (.Attribute o m apos) (e :: es) [] pos) (tMeth C m sp dvs E ta t):=by
  intro pins s σ H Q I h
  refine PySem.W.methodCall_KW (pl:=pl) (thn (he pins s σ H _ I h) fun u s1 ⟨x,H1,I1,rx,a,dx,fs,ex,ea,l,q⟩=>?_) ht
  subst ex
  obtain rfl:u = Value.ref a:=rx
  refine getmeth_ok I1 ea c hm l ?_
  refine PySem.W.callWith_K (first:=[.ref a]) (h₀:=X.base) I.ok.mod.kin hm.kp (thn (ha pos pins s1 σ H1 _ I1 q) fun us s2 ⟨vs,H2,I2,r,q2⟩=>⟨I2.kIn,?_⟩) hst hpl
  exact run_fn (us:=.ref a :: us) (vs:=.ref a :: vs) F hr hb hd hx I2 (.cons rfl r) q2
theorem pe_meth0 {pl:Sem Bool} (he:PE X o ta) (c:Cls X.K C) (hm:Meth X.K C m f) (F:FnOk X.prog X.w X.K X.mg X.base CX k f fd ps sp) (hr:Room k X.A) (hb:Binds X.K fd ps ds) (hd:Vals dvs ds) (hx:Passes CX X E)
    (ht:eval (.Call (.Attribute o m apos) [] [] pos) X.env = (do
      let ov ← eval o X.env
      standAt apos.atName
      let (f,first) ← holding [ov] (getMethod ov m pl)
      callWith pos f first (backTo pos (starEach [] X.env)) (backToKw pos (keywordEach [] X.env))):=by rfl) :
    PE X (.Call (.Attribute o m apos) [] [] pos) (tMeth C m sp dvs E ta tNil):=by
  intro pins s σ H Q I h
  refine PySem.W.methodCall_KW (pl:=pl) (thn (he pins s σ H _ I h) fun u s1 ⟨x,H1,I1,rx,a,dx,fs,ex,ea,l,q⟩=>?_) ht
  subst ex
  obtain rfl:u = Value.ref a:=rx
  refine getmeth_ok I1 ea c hm l ?_
  exact PySem.W.callWith_K0 (first:=[.ref a]) I1.kIn hm.kp (run_fn (us:=[.ref a]) (vs:=[.ref a]) F hr hb hd hx I1 (.cons rfl .nil) q)
structure Mk (K:PySem.W.Frag) (C f:Addr):Prop where
  makes:PySem.W.makesIn K C = true
  init:PySem.W.findIn K (.ref C) "__init__" = some (some (.ref f))
  fn:PySem.W.isFn K (.ref f) = true
  kp:PySem.W.keepIn K (.ref C) = true
theorem run_make {pins:List (Addr × Obj)} {σ:St} {H:Hp} {s:Shared} {Q:VK} {us:List Value} {vs:List V} (M:Mk X.K C f) (F:FnOk X.prog X.w X.K X.mg X.base CX k f fd ps sp) (hr:Room (k + 1) X.A) (hb:Binds X.K fd ps ds) (hd:Vals dvs ds)
    (hx:Passes CX X E) (I:Inv X pins σ H s) (r:Vals vs us)
    (h:∀ x dx,H x = none→H dx = none→dx≠x→sp (.ref x :: (vs ++ dvs)) (upd (upd H dx (.own x)) x (.ins C dx [])) (fun v H2=>v = .non∧Q (.ref x) H2) E) :
    wpAny (model X.prog X.w) X.A (call (.ref C) us) (EP X pins σ Q) X.xe s:=by
  have hq:=h (s.heap.objs.size + 1) s.heap.objs.size (I.hok.fresh (Nat.le_succ _)) (I.hok.fresh (Nat.le_refl _)) (Nat.ne_of_lt (Nat.lt_succ_self _))
  have I2:=Inv.made (C:=C) I
  have r2:Vals (V.ref (s.heap.objs.size + 1) :: (vs ++ dvs)) (Value.ref (s.heap.objs.size + 1) :: (us ++ ds)):=.cons rfl (r.append hd)
  have hl:(Value.ref (s.heap.objs.size + 1) :: us ++ ds).length = ps.length:=by
    have e:=r2.length
    rw [F.len _ _ _ _ hq] at e
    exact e.symm
  refine wpAny_call (make_map (f:=f) I.kIn M.makes M.init (beq_iff_eq.mp M.fn) (codeAny_mono (F.run _ X.stack _ _ ⟨Value.ref (s.heap.objs.size + 1) :: us,[]⟩ (Value.ref (s.heap.objs.size + 1) :: (us ++ ds)) _ _ E (hr.make C us [])
    (I2.env0.make C us []) (hb _ (Value.ref (s.heap.objs.size + 1) :: us) I2.kIn hl) r2 hq) fun r s' hq'=>?_))
  cases r with
  | error e=>exact hx pins σ _ _ e s' I2 hq'
  | ok fl =>
    cases fl with
    | ret u =>
      obtain ⟨v,H',I3,rv,ev,q3⟩:=I2.after hq'
      subst ev
      exact ⟨rv,⟨V.ref (s.heap.objs.size + 1),H',I3,rfl,q3⟩⟩
    | next=>exact False.elim hq'
    | brk=>exact False.elim hq'
    | cont=>exact False.elim hq'
theorem pe_make (M:Mk X.K C f) (F:FnOk X.prog X.w X.K X.mg X.base CX k f fd ps sp) (hr:Room (k + 1) X.A) (hg:Gl X x) (hm:X.mg x = some (.ref C)) (hb:Binds X.K fd ps ds) (hd:Vals dvs ds) (hx:Passes CX X E)
    (ha:PA X (e :: es) t) (hdb:(x == ("__debug__" : Str)) = false:=by decide) (he:starEach (e :: es) X.env = (false,eval e X.env) :: starEach es X.env:=by rfl) (hpl:(backTo pos (starEach es X.env)).any (·.1) = false:=by rfl) :
    PE X (.Call (.Name x p) (e :: es) [] pos) (tMake C sp dvs E t):=by
  intro pins s σ H Q I h
  refine wpAny_Call_Name_kw (ld_glob I hg hm ?_ hdb)
  refine PySem.W.callWith_K (h₀:=X.base) I.ok.mod.kin M.kp (thn (ha pos pins s σ H _ I h) fun us s1 ⟨vs,H1,I1,r,q⟩=>⟨I1.kIn,?_⟩) he hpl
  exact run_make M F hr hb hd hx I1 r q
end
section
variable {X:Cx} {CX:CXT} {k:Nat} {f C:Addr} {fd:FuncData} {ps ks:List Str} {sp:Sp} {E:XK} {x m:Str} {p pos apos kpos:Pos} {e o:Expr} {es:List Expr} {kws:List Keyword} {te ta:TE} {t tk:TA} {nm:Option Str}
variable {g:List Value→List Value→List Value} {gV:List V→List V→List V}
end
structure FnScope (N P:List Str) (sc:Scope):Prop where
  kind:sc.kind = .function
  co:sc.isCoroutine = false
  gen:sc.isGenerator = false
  nd:N.Nodup
  pre:N.take P.length = P
  par:∀ x∈P,sc.names.lookup x = some .local∨sc.names.lookup x = some .cell
  nofree:∀ y∈sc.names,y.2≠.free
theorem bindL_out {kindOf:Str→Option NameKind} {x:Str}:∀ {binds:List (Str × Value)} {m:Str→Option Value},(∀ v,(x,v) ∉ binds)→bindL kindOf binds m x = m x
  | [],_,_=>rfl
  | (n,v) :: r,m,h=>by
    unfold bindL
    rw [bindL_out fun w hw=>h w (List.mem_cons_of_mem _ hw)]
    split
    · have:x≠n:=by rintro rfl; exact h v List.mem_cons_self
      simp [this]
    · rfl
theorem bindC_out {kindOf:Str→Option NameKind} {x:Str}:∀ {binds:List (Str × Value)} {m:Str→Option Value},(∀ v,(x,v) ∉ binds)→bindC kindOf binds m x = m x
  | [],_,_=>rfl
  | (n,v) :: r,m,h=>by
    unfold bindC
    rw [bindC_out fun w hw=>h w (List.mem_cons_of_mem _ hw)]
    split
    · rfl
    · have:x≠n:=by rintro rfl; exact h v List.mem_cons_self
      simp [this]
theorem bindL_get {kindOf:Str→Option NameKind} {x:Str} {v:Value}:∀ {P:List Str} {vs:List Value} {i:Nat} {m:Str→Option Value},P.Nodup→P[i]? = some x→vs[i]? = some v→kindOf x = some .local →
    bindL kindOf (P.zip vs) m x = some v
  | [],_,_,_,_,h,_,_=>by simp at h
  | _ :: _,[],_,_,_,_,h,_=>by simp at h
  | p :: P,w :: vs,0,m,nd,h1,h2,hk=>by
    simp at h1 h2; subst h1; subst h2
    show bindL kindOf ((p,w) :: P.zip vs) m p = _
    unfold bindL
    rw [bindL_out fun v hv=>(List.nodup_cons.mp nd).1 (List.of_mem_zip hv).1,if_pos hk]
    simp
  | p :: P,w :: vs,i + 1,m,nd,h1,h2,hk=>by
    show bindL kindOf ((p,w) :: P.zip vs) m x = _
    unfold bindL
    exact bindL_get (i:=i) (List.nodup_cons.mp nd).2 (by simpa using h1) (by simpa using h2) hk
theorem bindC_get {kindOf:Str→Option NameKind} {x:Str} {v:Value}:∀ {P:List Str} {vs:List Value} {i:Nat} {m:Str→Option Value},P.Nodup→P[i]? = some x→vs[i]? = some v→kindOf x≠some .local →
    bindC kindOf (P.zip vs) m x = some v
  | [],_,_,_,_,h,_,_=>by simp at h
  | _ :: _,[],_,_,_,_,h,_=>by simp at h
  | p :: P,w :: vs,0,m,nd,h1,h2,hk=>by
    simp at h1 h2; subst h1; subst h2
    show bindC kindOf ((p,w) :: P.zip vs) m p = _
    unfold bindC
    rw [bindC_out fun v hv=>(List.nodup_cons.mp nd).1 (List.of_mem_zip hv).1,if_neg hk]
    simp
  | p :: P,w :: vs,i + 1,m,nd,h1,h2,hk=>by
    show bindC kindOf ((p,w) :: P.zip vs) m x = _
    unfold bindC
    exact bindC_get (i:=i) (List.nodup_cons.mp nd).2 (by simpa using h1) (by simpa using h2) hk
def start (N:List Str) (vs:List V):St:=vs.map some ++ List.replicate (N.length - vs.length) none
def cxOf (CX:CXT) (P:Program) (w:World) (K:PySem.W.Frag) (mg:Str→Option Value) (base:Heap) (N:List Str) (qual:Str) (scope:Scope) (f:Addr) (cd:Value) (A:Around) (outer:List Env) (s:Shared) (H:Hp) (E:XK):Cx where
  prog:=P
  w:=w
  K:=K
  mg:=mg
  base:=base
  A:=A.deeper (envOfC qual scope s.heap.objs.size f cd)
  N:=N
  s₀:=s
  H₀:=H
  env:=envOfC qual scope s.heap.objs.size f cd
  outer:=outer
  stack:=envOfC qual scope s.heap.objs.size f cd :: outer
  ex:=[]
  calm:=true
  fn:=fun _=>true
  pn:=[]
  xe:=fun e s'=>wpAny (model P w) (A.deeper (envOfC qual scope s.heap.objs.size f cd)) (leaving (envOfC qual scope s.heap.objs.size f cd) e) (fun _ s''=>CX outer H s E e s'') (fun e' s''=>CX outer H s E e' s'') s'
theorem cell_has {sc:Scope} {n:Nat} {x:Str} (h:sc.names.lookup x = some .cell):∃ c,(cellsFrom n sc.names []).lookup x = some c:=by
  have q:=PySem.W.cellsFrom_some sc.names n [] (.inl h)
  exact Option.isSome_iff_exists.mp q
theorem inv_start {CX:CXT} {P:Program} {w:World} {K:PySem.W.Frag} {mg:Str→Option Value} {base:Heap} {N ps:List Str} {qual:Str} {scope:Scope} {f:Addr} {cd:Value} {A:Around} {outer:List Env} {s s1:Shared} {H:Hp} {E:XK} {us:List Value} {vs:List V}
    (S:FnScope N ps scope) (hd:A.handled = none) (e0:Env0 P w K mg base A outer s H) (hl:vs.length = ps.length) (r:Vals vs us)
    (x:InCallC s s.heap.objs.size (bindL (envOfC qual scope s.heap.objs.size f cd).kindOf (ps.zip us) fun _=>none) (cellsFrom (s.heap.objs.size + 1) scope.names []) (bindC (envOfC qual scope s.heap.objs.size f cd).kindOf (ps.zip us) fun _=>none) s1) :
    Inv (cxOf CX P w K mg base N qual scope f cd A outer s H E) [] (start N vs) H s1:=by
  have hpl:ps.length≤N.length:=by have:=congrArg List.length S.pre; rw [List.length_take] at this; omega
  obtain ⟨h1,tk,rfl,hk⟩:=x.done
  have noA:∀ b:Addr,b ∉ (cxOf CX P w K mg base N qual scope f cd A outer s H E).ex:=fun b z=>absurd (show b∈([]:List Addr) from z) (by simp)
  refine ⟨⟨e0.mod,S.kind,rfl,rfl,Nat.le_refl _,fun y z c h1 h2=>?_,fun y hy=>?_,fun y c _ h=>?_,fun _=>hd,Around.frames_deeper e0.frames,.inr ⟨rfl,rfl⟩,fun b z=>absurd z (noA b),e0.bs,e0.bsz,fun b _ _=>noA b,fun b z=>absurd z (noA b),e0.funs,e0.frf⟩,
    rfl,e0.bare,Un.kept hk,⟨_,x.toInCall.ns,fun i y v h1 h2 h3=>?_⟩,fun y c h=>⟨_,x.cell y c h⟩,e0.hok.fresh (Nat.le_refl _),fun y c h=>?_,fun p hp=>absurd (show p∈([]:List (Addr × Obj)) from hp) (by simp),e0.hok.kept hk,?_⟩
  · exact name_of_addr x.apart (PySem.mem_of_lookup h1) (PySem.mem_of_lookup h2)
  · have hy:scope.names.lookup y = some .cell∨scope.names.lookup y = some .free:=hy
    rcases hy with hy | hy
    · exact cell_has hy
    · exact absurd rfl (S.nofree _ (PySem.mem_of_lookup hy))
  · exact Nat.le_of_lt (x.above y c (PySem.mem_of_lookup h))
  · have hi:i < vs.length:=by
      unfold start at h2
      by_cases hi:i < vs.length
      · exact hi
      · rw [List.getElem?_append_right (by simpa using hi)] at h2
        rw [List.getElem?_replicate] at h2
        split at h2 <;> cases h2
    have ha:vs[i]? = some v:=by
      unfold start at h2
      rw [List.getElem?_append_left (by simpa using hi),List.getElem?_map] at h2
      cases e:vs[i]? with
      | none=>rw [e] at h2; cases h2
      | some a=>rw [e] at h2; cases h2; rfl
    obtain ⟨u,hu,rv⟩:=r.get ha
    have hp:ps[i]? = some y:=by
      rw [← S.pre,List.getElem?_take_of_lt (by omega)]; exact h1
    have ndP:ps.Nodup:=by rw [← S.pre]; exact S.nd.sublist (List.take_sublist _ _)
    refine ⟨u,rv,?_⟩
    rcases S.par y (List.mem_of_getElem? hp) with k | k
    · exact .inl ⟨k,bindL_get ndP hp hu k⟩
    · obtain ⟨c,e⟩:=cell_has (n:=s.heap.objs.size + 1) k
      refine .inr ⟨.inl k,c,e,?_⟩
      have q:=x.cell y c e
      rw [bindC_get ndP hp hu (by show scope.names.lookup y≠_; rw [k]; decide)] at q
      exact q
  · exact e0.hok.fresh (Nat.le_of_lt (x.above y c (PySem.mem_of_lookup h)))
  · unfold start
    show _ = N.length
    rw [List.length_append,List.length_map,List.length_replicate]
    omega
theorem fn_of {CX:CXT} {P:Program} {w:World} {K:PySem.W.Frag} {mg:Str→Option Value} {base:Heap} {k:Nat} {f:Addr} {name qual:Str} {params:Arguments} {body:List Stmt} {scope:Scope} {dV kV doc pm cdv ct oc:Value} {an od:Option Addr}
    {osl:Array (Option Value)} {N ps:List Str} {sp:Sp} (lk:K.lookup f = some ⟨oc,od,.func (PySem.W.fnOf name qual params body scope dV kV doc pm an cdv ct),osl⟩) (hcd:PySem.W.codeIn K cdv qual = true) (S:FnScope N ps scope)
    (len:∀ vs H Q E,sp vs H Q E→vs.length = ps.length)
    (hbody:∀ (A:Around) (outer:List Env) (s:Shared) (H:Hp) (vs:List V) (Q:VK) (E:XK),Room k (A.deeper (envOfC qual scope s.heap.objs.size f cdv))→sp vs H Q E →
      ∃ t,PSs (cxOf CX P w K mg base N qual scope f cdv A outer s H E) body t∧t { nx:=fun _ H'=>Q .non H',rt:=Q } (start N vs) H) :
    FnOk P w K mg base CX (k + 1) f (PySem.W.fnOf name qual params body scope dV kV doc pm an cdv ct) ps sp:=by
  refine ⟨len,fun A outer s H args us vs Q E hr e0 hb r hsp=>?_⟩
  have hl:=len _ _ _ _ hsp
  have KX:K.In s.heap:=e0.mod.kin.keeps fun b o e=>(e0.bs b o e).1
  have lim:s.heap.NoLimit:=e0.mod.nolimit.keeps fun b o e=>(e0.bs b o e).1
  have hkind:∀ y∈ps.zip us,scope.names.lookup y.1 = some .local∨(scope.names.lookup y.1 = some .cell∧((cellsFrom (s.heap.objs.size + 1) scope.names []).lookup y.1).isSome = true):=fun ⟨n,v⟩ hy=>by
    rcases S.par n (List.of_mem_zip hy).1 with q | q
    · exact .inl q
    · exact .inr ⟨q,PySem.W.cellsFrom_some _ _ _ (.inl q)⟩
  refine codeAny_call_function hr.depth (KX _ _ lk) rfl S.co S.gen rfl (PySem.W.codeRec_of KX hcd) (hb _ _ _ _ ?_)
  refine wpAny_newFunctionEnv_cells S.kind hkind fun env he s1 x=>?_
  subst he
  refine ⟨lim.keeps x.toInCall.keep,codeAny_func ?_⟩
  obtain ⟨t,ht,hq⟩:=hbody A outer s H vs Q E (hr.deeper _) hsp
  have I:Inv (cxOf CX P w K mg base N qual scope f cdv A outer s H E) [] (start N vs) H s1:=inv_start S hr.hd e0 hl r x
  refine wpAny_mono (ht [] s1 (start N vs) H _ I hq) (fun fl s' hs=>?_) fun e s' hs=>hs
  have fin:∀ {σ':St} {H':Hp} {v:V} {u:Value},Inv (cxOf CX P w K mg base N qual scope f cdv A outer s H E) [] σ' H' s'→RelV v u→Q v H'→CE outer P w H s Q u s' :=
    fun {σ' H' v u} J rv q=>⟨v,H',J.os,J.bare,J.base,J.hok,rv,q⟩
  cases fl with
  | ret u =>
    obtain ⟨v,σ',H',J,rv,q⟩:=hs
    exact fin J rv q
  | next =>
    obtain ⟨σ',H',J,q⟩:=hs
    exact fin (v:=V.non) (u:=Value.none) J rfl q
  | brk =>
    obtain ⟨_,_,_,q⟩:=hs
    exact False.elim q
  | cont =>
    obtain ⟨_,_,_,q⟩:=hs
    exact False.elim q
end L2
namespace L2
open PySem PySem.Spec PyProof.Rows
section
variable {X:Cx} {x:Str} {p pos:Pos} {e:Expr} {es:List Expr} {t:TA} {id T:String} {r:List V→Hp→VK→Prop}
def tCB (r:List V→Hp→VK→Prop) (t:TA):TE:=fun σ H Q=>t σ H fun vs H1=>r vs H1 Q
theorem pe_callB (hc:CallR X (.builtin id) r) (hg:Gl X x) (hm:X.mg x = none) (hv:bootBuiltins x = some (.builtin id)) (ha:PA X (e :: es) t) (hn:x ≠ "__name__" := by decide) (hdb:(x == ("__debug__" : Str)) = false:=by decide)
    (he:starEach (e :: es) X.env = (false,eval e X.env) :: starEach es X.env:=by rfl) (hpl:(backTo pos (starEach es X.env)).any (·.1) = false:=by rfl):PE X (.Call (.Name x p) (e :: es) [] pos) (tCB r t):=by
  intro pins s σ H Q I h
  refine wpAny_Call_Name_kw (ld_blt I hg hm hv ?_ hn hdb)
  exact PyProof.Rows.callWith_builtin1 (thn (ha pos pins s σ H _ I h) fun us s1 ⟨vs,H1,I1,r1,q1⟩=>hc pins s1 σ H1 vs us Q I1 r1 q1) he hpl
theorem pe_callTy (hc:CallR X (.type T) r) (hg:Gl X x) (hm:X.mg x = none) (hv:bootBuiltins x = some (.type T)) (ha:PA X (e :: es) t) (hn:x ≠ "__name__" := by decide) (hdb:(x == ("__debug__" : Str)) = false:=by decide)
    (he:starEach (e :: es) X.env = (false,eval e X.env) :: starEach es X.env:=by rfl) (hpl:(backTo pos (starEach es X.env)).any (·.1) = false:=by rfl):PE X (.Call (.Name x p) (e :: es) [] pos) (tCB r t):=by
  intro pins s σ H Q I h
  refine wpAny_Call_Name_kw (ld_blt I hg hm hv ?_ hn hdb)
  exact PyProof.Rows.callWith_type1 (thn (ha pos pins s σ H _ I h) fun us s1 ⟨vs,H1,I1,r1,q1⟩=>hc pins s1 σ H1 vs us Q I1 r1 q1) he hpl
end
end L2
namespace HT
open PySem PyProof.Rows
section
open PySem.SeqAt
open PySem.AutoSeq1 (wpAny_loadPart')
open PySem.MeetsSeq PySem.MeetsSeq2 PySem.MeetsSeq3
end
section
variable {prog:Program} {w:World} {A:Around} {E:Value→Shared→Prop} {s:Shared}
def sIx (n d:Nat):Option Int→Nat
  | none=>d
  | some v=>if v < 0 then (v + (n:Int)).toNat else min v.toNat n
theorem sIx_none (n d:Nat):sIx n d none = d:=rfl
theorem sIx_nat (n d k:Nat):sIx n d (some (k:Int)) = min k n:=by
  show (if (k:Int) < 0 then ((k:Int) + (n:Int)).toNat else min (k:Int).toNat n) = min k n
  rw [if_neg (by omega),Int.toNat_natCast]
theorem sIx_le (n d:Nat) (hd:d≤n) (o:Option Int):sIx n d o≤n:=by
  cases o with
  | none=>exact hd
  | some v =>
    show (if v < 0 then (v + (n:Int)).toNat else min v.toNat n)≤n
    by_cases hv:v < 0
    · rw [if_pos hv]; omega
    · rw [if_neg hv]; exact Nat.min_le_right _ _
theorem clip_eq (v:Int) (n d:Nat):(if v < 0 then max (v + (n:Int)) 0 else min v (n:Int)) = ((sIx n d (some v):Nat):Int):=by
  show (if v < 0 then max (v + (n:Int)) 0 else min v (n:Int)) = (((if v < 0 then (v + (n:Int)).toNat else min v.toNat n):Nat):Int)
  by_cases hv:v < 0
  · simp only [if_pos hv]; omega
  · simp only [if_neg hv]; omega
theorem adjust_gen (lo hi:Option Int) (n:Nat):Builtin.Slice.sliceAdjust lo hi 1 (n:Int) = (((sIx n 0 lo:Nat):Int),((sIx n n hi:Nat):Int)):=by
  have h1:¬ ((1:Int) < 0):=by omega
  unfold Builtin.Slice.sliceAdjust
  simp only [h1,if_false]
  refine Prod.ext ?_ ?_
  · cases lo with
    | none=>rfl
    | some v=>exact clip_eq v n 0
  · cases hi with
    | none=>rfl
    | some v=>exact clip_eq v n n
theorem places_gen (i j:Nat):Builtin.Slice.slicePlaces (i:Int) (j:Int) 1 = j - i:=by
  unfold Builtin.Slice.slicePlaces
  have h1:(1:Int) > 0:=by omega
  simp only [h1,if_true,Int.ediv_one]
  split <;> omega
theorem slicePart_ {v:Value} {o:Option Int} {Q:Option Int→Shared→Prop} (p:IsPart v o) (h:Q o s):wpAny (model prog w) A (Builtin.Slice.slicePartIndex v) Q E s:=by
  cases p with
  | none=>exact slicePart_none h
  | int i t=>exact slicePart_int h
theorem sliceApplied_gen {sl:Addr} {vl vu:Value} {lo hi:Option Int} {n:Nat} {Q:Int × Int × Nat→Shared→Prop} (hs:s.heap.IsSliceOf sl vl vu .none) (pl:IsPart vl lo) (pu:IsPart vu hi)
    (h:Q (((sIx n 0 lo:Nat):Int),1,sIx n n hi - sIx n 0 lo) s):wpAny (model prog w) A (Builtin.Slice.sliceApplied (.ref sl) (pure (n:Int))) Q E s:=by
  obtain ⟨os,hos,hcs,hds⟩:=id hs
  unfold Builtin.Slice.sliceApplied Builtin.Slice.sliceFields
  refine wpAny_bind (wpAny_bind (wpAny_field hos hds (x:=vl) rfl (wpAny_bind (wpAny_field hos hds (x:=vu) rfl (wpAny_bind (wpAny_field hos hds (x:=.none) rfl (wpAny_pure ?_)))))))
  refine wpAny_bind (slicePart_none ?_)
  show wpAny _ _ (if ((1:Int) == 0) = true then _ else _) _ _ s
  rw [if_neg (by decide)]
  refine wpAny_bind (slicePart_ pl (wpAny_bind (slicePart_ pu (wpAny_bind (wpAny_pure ?_)))))
  show wpAny _ _ (match Builtin.Slice.sliceAdjust lo hi 1 (n:Int) with | (lo,hi)=>pure (lo,(1:Int),Builtin.Slice.slicePlaces lo hi 1)) _ _ s
  rw [adjust_gen lo hi n]
  show wpAny _ _ (pure (((sIx n 0 lo:Nat):Int),(1:Int),Builtin.Slice.slicePlaces ((sIx n 0 lo:Nat):Int) ((sIx n n hi:Nat):Int) 1)) _ _ s
  rw [places_gen]
  exact wpAny_pure h
theorem pick_gen (xs:Array Value) (i k:Nat):((List.range k).filterMap fun (m:Nat)=>xs[((i:Int) + (m:Int) * 1).toNat]?).toArray = ((xs.toList.drop i).take k).toArray:=by
  have e:(fun (m:Nat)=>xs[((i:Int) + (m:Int) * 1).toNat]?) = fun m=>xs[i + m]?:=by
    funext m
    have:((i:Int) + (m:Int) * 1).toNat = i + m:=by omega
    rw [this]
  rw [e]
  have:=pick_run xs i k
  rw [List.filterMap_map] at this
  have e2:((fun x=>xs[x]?) ∘ fun x=>i + x) = fun m=>xs[i + m]?:=rfl
  rw [e2] at this
  rw [this]
theorem getItem_tuple_cut {t sl:Addr} {items:Array Value} {vl vu:Value} {lo hi:Option Int} {Q:Value→Shared→Prop} (ht:IsTup s.heap t items) (hs:s.heap.IsSliceOf sl vl vu .none) (pl:IsPart vl lo) (pu:IsPart vu hi)
    (hw:¬ (sIx items.size 0 lo = 0∧sIx items.size items.size hi = items.size))
    (h:Q (.ref s.heap.objs.size) { s with heap:=s.heap.push { cls:=.type "tuple", data:=.seq ((items.toList.drop (sIx items.size 0 lo)).take (sIx items.size items.size hi - sIx items.size 0 lo)).toArray } })
    (hsz:items.size≤sizeLine):wpAny (model prog w) A (getItem (.ref t) (.ref sl)) Q E s:=by
  have htake:sizeOk (.seq ((items.toList.drop (sIx items.size 0 lo)).take (sIx items.size items.size hi - sIx items.size 0 lo)).toArray):=by
    show ((items.toList.drop (sIx items.size 0 lo)).take (sIx items.size items.size hi - sIx items.size 0 lo)).toArray.size≤sizeLine
    rw [List.size_toArray,List.length_take,List.length_drop,Array.length_toList]
    omega
  have hj:sIx items.size items.size hi≤items.size:=sIx_le _ _ (Nat.le_refl _) hi
  obtain ⟨os,hos,hcs,hds⟩:=id hs
  have hTs:s.TypeIs (.ref sl) "slice" := ⟨os,hos,hcs⟩
  unfold getItem
  try with_reducible refine wpAny_holding ?_
  first | refine wpAny_bind (wpAny_pure ?_) | skip
  refine wpAny_bind (wpAny_sequenceKey ht.typeIs (by decide) ?_)
  refine wpAny_bind (wpAny_callSpecial?_slot (name:=Str.ofString "__getitem__") ht.typeIs PyProof.Rows.slot_tuple_getitem
    (wpAny_call_entry PyProof.Rows.slot_tuple_getitem ht.typeIs entry_tuple_getitem ?_ (args_tuple_getitem _ _)))
  show wpAny _ _ (Builtin.Tuple.tupleItemsOf (.ref t) >>= _) _ _ s
  refine wpAny_bind (tupleItemsOf_ ht ?_)
  refine wpAny_bind (wpAny_typeOf hTs ?_)
  rw [if_pos (by decide)]
  refine wpAny_bind (sliceApplied_gen hs pl pu ?_)
  have hno:¬ ((((sIx items.size 0 lo:Nat):Int) == 0 && (1:Int) == 1 && (sIx items.size items.size hi - sIx items.size 0 lo) == items.size) = true):=by
    intro q
    rw [Bool.and_eq_true,Bool.and_eq_true] at q
    have q1:((sIx items.size 0 lo:Nat):Int) = 0:=eq_of_beq q.1.1
    have q2:sIx items.size items.size hi - sIx items.size 0 lo = items.size:=eq_of_beq q.2
    exact hw ⟨by omega,by omega⟩
  show wpAny _ _ (if (((sIx items.size 0 lo:Nat):Int) == 0 && (1:Int) == 1 && (sIx items.size items.size hi - sIx items.size 0 lo) == items.size) = true then _ else _) _ _ s
  rw [if_neg hno,pick_gen]
  first
    | exact wpAny_bind (m:=Builtin.Tuple.tupleExact _) (wpAny_newObj_type (wpAny_pure ⟨_,rfl,wpAny_pure h⟩) htake)
    | exact wpAny_bind (m:=Builtin.Tuple.tupleExact _) (wpAny_newObj_type (wpAny_bind (wpAny_pure (wpAny_pure ⟨_,rfl,wpAny_pure h⟩))) htake)
    | exact wpAny_bind (wpAny_bind (m:=Builtin.Tuple.tupleExact _) (wpAny_newObj_type (wpAny_pure (wpAny_pure ⟨_,rfl,wpAny_pure h⟩)) htake))
    | exact wpAny_bind (wpAny_bind (m:=Builtin.Tuple.tupleExact _) (wpAny_newObj_type (wpAny_pure ⟨_,rfl,wpAny_pure h⟩) htake))
end
end HT
namespace L2
open PySem PySem.Spec PyProof.Rows
abbrev TO:=St→Hp→(Option Int→Hp→Prop)→Prop
def PO (X:Cx) (e:Option Expr) (t:TO):Prop :=
  ∀ (pins:List (Addr × Obj)) (s:Shared) (σ:St) (H:Hp) (Q:Option Int→Hp→Prop),Inv X pins σ H s→t σ H Q →
    wpAny (model X.prog X.w) X.A (evalPart e X.env) (fun u s'=>∃ o H',Inv X pins σ H' s'∧IsPart u o∧Q o H') X.xe s
def tNoPart:TO:=fun _ H Q=>Q none H
def tPart (t:TE):TO:=fun σ H Q=>t σ H fun x H1=>∃ i,x = .int i∧Q (some i) H1
theorem intsAre_of {ns:List Int}:∀ {us:List Value},Vals (ns.map V.int) us→IntsAre us ns:=by
  induction ns with
  | nil=>intro us r; rw [List.map_nil] at r; cases r; exact .nil
  | cons n ns ih =>
    intro us r
    rw [List.map_cons] at r
    cases r with
    | cons r1 r2 =>
      obtain ⟨t,e⟩:=r1
      subst e
      exact .cons n t (ih r2)
section
variable {X:Cx} {e:Expr} {te:TE} {lo hi:Option Expr} {tl th:TO} {pos p2:Pos}
theorem po_none:PO X none tNoPart:=by
  intro pins s σ H Q I h
  rw [evalPart_none]
  exact wpAny_pure ⟨none,H,I,.none,h⟩
theorem po_some (h:PE X e te):PO X (some e) (tPart te):=by
  intro pins s σ H Q I hw
  rw [evalPart_some]
  refine thn (h pins s σ H _ I hw) fun u s1 ⟨x,H1,I1,r1,q1⟩=>?_
  obtain ⟨i,rfl,q⟩:=q1
  obtain ⟨t,rfl⟩:=r1
  exact ⟨some i,H1,I1,.int i t,q⟩
def SlR (X:Cx) (r:V→Option Int→Option Int→Hp→VK→Prop):Prop :=
  ∀ (pins:List (Addr × Obj)) (s:Shared) (σ:St) (H:Hp) (x:V) (v vl vu:Value) (lo hi:Option Int) (sl:Addr) (Q:VK),Inv X pins σ H s→RelV x v→s.heap.IsSliceOf sl vl vu .none→IsPart vl lo→IsPart vu hi→r x lo hi H Q →
    ∃ T id,typeLookup (.type T) "__getitem__" = pure (some (.builtin id))∧s.TypeIs v T∧wpAny (model X.prog X.w) X.A (getItem v (.ref sl)) (EP X pins σ Q) X.xe s
def tSl (r:V→Option Int→Option Int→Hp→VK→Prop) (te:TE) (tl th:TO):TE:=fun σ H Q=>te σ H fun x H1=>tl σ H1 fun l H2=>th σ H2 fun u H3=>r x l u H3 Q
theorem pe_slice {r:V→Option Int→Option Int→Hp→VK→Prop} (hr:SlR X r) (he:PE X e te) (hl:PO X lo tl) (hu:PO X hi th):PE X (.Subscript e (.Slice lo hi none p2) pos) (tSl r te tl th):=by
  intro pins s σ H Q I h
  refine Subscript_ (thn (he pins s σ H _ I h) fun v s1 ⟨x,H1,I1,r1,q1⟩=>?_)
  refine wpAny_Slice (thn (hl pins s1 σ H1 _ I1 q1) fun vl s2 ⟨l,H2,I2,pl,q2⟩=>thn (hu pins s2 σ H2 _ I2 q2) fun vu s3 ⟨u,H3,I3,pu,q3⟩=>?_)
  rw [evalPart_none]
  refine wpAny_pure ?_
  have I4:Inv X pins σ H3 { s3 with heap:=s3.heap.push { cls:=.type "slice", data:=.fields #[vl,vu,.none] } }:=I3.kept (t':=s3.toks) fun b ob q=>Heap.get?_push_of_some _ q
  obtain ⟨T,id,hT,ht,hg⟩:=hr pins { s3 with heap:=s3.heap.push { cls:=.type "slice", data:=.fields #[vl,vu,.none] } } σ H3 x v vl vu l u s3.heap.objs.size Q I4 r1 (Heap.IsSliceOf.new ..) pl pu q3
  show wpAny (model X.prog X.w) X.A (subscriptTail e (.Slice lo hi none p2) v (.ref s3.heap.objs.size)) (EP X pins σ Q) X.xe { s3 with heap:=s3.heap.push { cls:=.type "slice", data:=.fields #[vl,vu,.none] } }
  exact tail_any (ops:=[.ref s3.heap.objs.size,v]) ht hT hg (by with_unfolding_all rfl)
def cutV (xs:List V) (lo hi:Option Int):List V:=(xs.drop (HT.sIx xs.length 0 lo)).take (HT.sIx xs.length xs.length hi - HT.sIx xs.length 0 lo)
theorem cutV_length (xs:List V) (lo hi:Option Int):(cutV xs lo hi).length≤xs.length:=by
  unfold cutV
  rw [List.length_take,List.length_drop]
  omega
def rSlT (K:PySem.W.Frag):V→Option Int→Option Int→Hp→VK→Prop:=fun x lo hi H Q=>∃ a xs,x = .ref a∧SqT K H a xs ∧
  ¬ (HT.sIx xs.length 0 lo = 0∧HT.sIx xs.length xs.length hi = xs.length)∧∀ p,H p = none→Q (.ref p) (upd H p (.tup (cutV xs lo hi)))
theorem sl_tup:SlR X (rSlT X.K):=by
  intro pins s σ H x v vl vu lo hi sl Q I rx hs pl pu h
  obtain ⟨a,xs,rfl,hx,hw,q⟩:=h
  cases rx
  obtain ⟨its,r,ht,hz⟩:=I.tuple hx
  have hlen:its.toArray.size = xs.length:=by rw [List.size_toArray]; exact r.length.symm
  refine ⟨"tuple", _,PyProof.Rows.slot_tuple_getitem.lookup,ht.typeIs,?_⟩
  refine HT.getItem_tuple_cut ht hs pl pu (by rw [hlen]; exact hw) ?_ (by rw [hlen]; exact hz)
  rw [hlen]
  refine ⟨.ref s.heap.objs.size,_,I.laid (t':=s.toks) (o:=.tup (cutV xs lo hi)) (fun b ob q=>Heap.get?_push_of_some _ q) (Nat.le_refl _) ?_,rfl,q _ (I.hok.fresh (Nat.le_refl _))⟩
  exact ⟨Nat.le_trans (cutV_length xs lo hi) hz,_,(r.drop (HT.sIx xs.length 0 lo)).take (HT.sIx xs.length xs.length hi - HT.sIx xs.length 0 lo),IsTup.new _ _⟩
end
end L2
namespace L2
open PySem PySem.Spec PyProof.Rows
def ixN (n:Nat) (i:Int):Option Nat:=if 0≤i then (if i < n then some i.toNat else none) else if -(n:Int)≤i then some (i + n).toNat else none
def atI {α:Type} (xs:List α) (i:Int):Option α:=(ixN xs.length i).bind fun j=>xs[j]?
theorem ixN_seq {n:Nat} {i:Int} {j:Nat} (h:ixN n i = some j):seqIndex? i n = some j∧j < n∧-(n:Int)≤i∧i < n:=by
  unfold ixN at h
  by_cases h0:0≤i
  · rw [if_pos h0] at h
    by_cases h1:i < n
    · rw [if_pos h1] at h
      have e:i.toNat = j:=Option.some.inj h
      exact ⟨by rw [seqIndex_of h0 h1,e],by omega,by omega,h1⟩
    · rw [if_neg h1] at h; cases h
  · rw [if_neg h0] at h
    by_cases h1:-(n:Int)≤i
    · rw [if_pos h1] at h
      have e:(i + n).toNat = j:=Option.some.inj h
      exact ⟨by rw [seqIndex_neg (by omega) h1,e],by omega,h1,by omega⟩
    · rw [if_neg h1] at h; cases h
theorem atI_get {α:Type} {xs:List α} {i:Int} {v:α} (h:atI xs i = some v):∃ j,seqIndex? i xs.length = some j∧xs[j]? = some v∧j < xs.length∧-(xs.length:Int)≤i∧i < xs.length:=by
  unfold atI at h
  cases e:ixN xs.length i with
  | none=>rw [e] at h; cases h
  | some j =>
    rw [e] at h
    obtain ⟨h1,h2,h3,h4⟩:=ixN_seq e
    exact ⟨j,h1,h,h2,h3,h4⟩
theorem atI_nat {α:Type} {xs:List α} {j:Nat} {v:α} (h:xs[j]? = some v):atI xs (j:Int) = some v:=by
  have hj:j < xs.length:=(List.getElem?_eq_some_iff.mp h).1
  have e:ixN xs.length (j:Int) = some j:=by
    unfold ixN
    rw [if_pos (by omega),if_pos (by omega)]; simp
  unfold atI; rw [e]; exact h
theorem atI_last {α:Type} (xs:List α) (v:α):atI (xs ++ [v]) (-1) = some v:=by
  have hl:(xs ++ [v]).length = xs.length + 1:=by simp
  have e:ixN (xs ++ [v]).length (-1) = some xs.length:=by
    unfold ixN
    rw [hl,if_neg (by decide),if_pos (by omega)]
    congr 1
    omega
  unfold atI
  rw [e]
  show (xs ++ [v])[xs.length]? = some v
  simp
def PlainIx (b:Expr):Prop:=∀ o i,subscripted b false o i = operate [o,i] (getItem o i)
def IxR (X:Cx) (r:R2):Prop :=
  ∀ (value slice:Expr) (pins:List (Addr × Obj)) (s:Shared) (σ:St) (H:Hp) (x y:V) (v u:Value) (Q:VK),Inv X pins σ H s→RelV x v→RelV y u→r x y H Q →
    subscripted slice false v u = operate [v,u] (getItem v u)→wpAny (model X.prog X.w) X.A (subscriptTail value slice v u) (EP X pins σ Q) X.xe s
def MtR (X:Cx) (id:String) (r:V→List V→Hp→VK→Prop):Prop :=
  ∀ (pins:List (Addr × Obj)) (s:Shared) (σ:St) (H:Hp) (x:V) (xs:List V) (v:Value) (us:List Value) (Q:VK),Inv X pins σ H s→RelV x v→Vals xs us→r x xs H Q →
    wpAny (model X.prog X.w) X.A (call (.builtin id) (v :: us)) (EP X pins σ Q) X.xe s
section
variable {X:Cx} {a b:Expr} {ta tb:TE} {pos:Pos}
theorem pe_ix {r:R2} (hr:IxR X r) (ha:PE X a ta) (hb:PE X b tb) (hs:PlainIx b):PE X (.Subscript a b pos) (tOp r ta tb):=by
  intro pins s σ H Q I h
  exact Subscript_ (binT ha hb I h fun v u s2 x y H2 I2 rx ry q=>hr a b pins s2 σ H2 x y v u Q I2 rx ry q (hs _ _))
def rIxL (K:PySem.W.Frag):R2:=fun x y H Q=>∃ p xs i v,x = .ref p∧y = .int i∧SqL K H p xs∧atI xs i = some v∧Q v H
def rIxT (K:PySem.W.Frag):R2:=fun x y H Q=>∃ p xs i v,x = .ref p∧y = .int i∧SqT K H p xs∧atI xs i = some v∧Q v H
def rIxS:R2:=fun x y H Q=>∃ z i c,x = .str z∧y = .int i∧z.length≤sizeLine∧atI z.cps.toList i = some c∧Q (.str ⟨#[c]⟩) H
theorem ix_list:IxR X (rIxL X.K):=by
  intro value slice pins s σ H x y v u Q I rx ry h hs
  obtain ⟨p,xs,i,z,rfl,rfl,hq,he,q⟩:=h
  cases rx
  obtain ⟨t,rfl⟩:=ry
  obtain ⟨its,r,pl,hz⟩:=I.list hq
  obtain ⟨j,h1,h2,h3,h4,h5⟩:=atI_get he
  obtain ⟨w,ew,rw'⟩:=r.get h2
  have hl:=r.length
  have hn:=line63
  have fin:EP X pins σ Q w s:=⟨z,H,I,rw',q⟩
  by_cases h0:0≤i
  · have hj:i.toNat = j:=by
      rw [seqIndex_of h0 h5] at h1
      exact Option.some.inj h1
    exact item_listR pl.isList h0 (by omega) (by rw [hj]; simpa using ew) fin hs
  · have hj:(i + (its.toArray.size:Int)).toNat = j:=by
      rw [seqIndex_neg (by omega) h4] at h1
      rw [List.size_toArray,← hl]
      exact Option.some.inj h1
    exact subscriptTail_builtinR (x:=w) pl.isList.typeIs slot_list_getitem.lookup
      (wpAny_getItem_list_neg (Q:=fun r s'=>r = w∧EP X pins σ Q r s') pl.isList (by omega) (by rw [List.size_toArray] <;> omega) (by omega) (by rw [hj]; simpa using ew) ⟨rfl,fin⟩) hs
theorem ix_tup:IxR X (rIxT X.K):=by
  intro value slice pins s σ H x y v u Q I rx ry h hs
  obtain ⟨p,xs,i,z,rfl,rfl,hq,he,q⟩:=h
  cases rx
  obtain ⟨t,rfl⟩:=ry
  obtain ⟨its,r,pl,hz⟩:=I.tuple hq
  obtain ⟨j,h1,h2,h3,h4,h5⟩:=atI_get he
  obtain ⟨w,ew,rw'⟩:=r.get h2
  have hl:=r.length
  have hn:=line63
  have fin:EP X pins σ Q w s:=⟨z,H,I,rw',q⟩
  exact subscriptTail_builtinR (x:=w) pl.typeIs slot_tuple_getitem.lookup
    (getItem_tuple (j:=j) (Q:=fun r s'=>r = w∧EP X pins σ Q r s') pl (by omega) (by omega) (by rw [List.size_toArray,← hl]; exact h1) (by simpa using ew) ⟨rfl,fin⟩) hs
theorem ix_str:IxR X rIxS:=by
  intro value slice pins s σ H x y v u Q I rx ry h hs
  obtain ⟨z,i,c,rfl,rfl,hz,he,q⟩:=h
  obtain ⟨t,rfl⟩:=rx
  obtain ⟨t',rfl⟩:=ry
  obtain ⟨j,h1,h2,h3,h4,h5⟩:=atI_get he
  have hl:z.cps.toList.length = z.length:=by simp [Str.length]
  rw [hl] at h1 h4 h5
  have hn:=line63
  exact tail_any (typeIs_str s z t) slot_str_getitem.lookup (getItem_str (c:=c) (by
    have e1:decide (i < -(2 ^ 63:Int)) = false:=decide_eq_false (by omega)
    have e2:decide (i ≥ 2 ^ 63) = false:=decide_eq_false (by omega)
    rw [e1,e2,Bool.or_false]) (by rw [h1]; simpa using h2) ⟨.str ⟨#[c]⟩,H,I.tok _,⟨_,rfl⟩,q⟩) hs
theorem slice_bounds (lo hi:Option Int) (n:Nat):(sliceBounds lo hi none n).1 = ((HT.sIx n 0 lo:Nat):Int)∧(sliceBounds lo hi none n).2.1 = ((HT.sIx n n hi:Nat):Int)∧(sliceBounds lo hi none n).2.2 = 1:=by
  refine ⟨?_,?_,rfl⟩
  · cases lo with
    | none=>simp [sliceBounds,HT.sIx]
    | some i =>
      simp only [sliceBounds,HT.sIx,Option.getD_none,show (1:Int) > 0 by decide,if_true]
      by_cases h:i < 0
      · simp only [h,if_true] <;> omega
      · simp only [h,if_false] <;> omega
  · cases hi with
    | none=>simp [sliceBounds,HT.sIx]
    | some i =>
      simp only [sliceBounds,HT.sIx,Option.getD_none,show (1:Int) > 0 by decide,if_true]
      by_cases h:i < 0
      · simp only [h,if_true] <;> omega
      · simp only [h,if_false] <;> omega
theorem slicePick_cut (its:List Value) (lo hi:Option Int):slicePick its.toArray lo hi none = ((its.drop (HT.sIx its.length 0 lo)).take (HT.sIx its.length its.length hi - HT.sIx its.length 0 lo)).toArray:=by
  obtain ⟨h1,h2,h3⟩:=slice_bounds lo hi its.toArray.size
  unfold slicePick
  rw [h1,h2,h3]
  simp only [sliceRange_one,pick_run,List.size_toArray] <;> rfl
def rSlL (K:PySem.W.Frag):V→Option Int→Option Int→Hp→VK→Prop:=fun x lo hi H Q=>∃ a xs,x = .ref a∧SqL K H a xs∧∀ p,H p = none→Q (.ref p) (upd H p (.lst (cutV xs lo hi)))
theorem sl_list:SlR X (rSlL X.K):=by
  intro pins s σ H x v vl vu lo hi sl Q I rx hs pl pu h
  obtain ⟨a,xs,rfl,hx,q⟩:=h
  cases rx
  obtain ⟨its,r,ht,hz⟩:=I.list hx
  have hlen:=r.length
  refine ⟨"list", _,slot_list_getitem.lookup,ht.isList.typeIs,?_⟩
  refine wpAny_getItem_list_slice ht.isList hs pl pu .none (by simp) ?_ (by rw [List.size_toArray] <;> omega)
  rw [slicePick_cut,← hlen]
  refine ⟨.ref s.heap.objs.size,_,I.laid (t':=s.toks) (o:=.lst (cutV xs lo hi)) (fun b ob q=>Heap.get?_push_of_some _ q) (Nat.le_refl _) ?_,rfl,q _ (I.hok.fresh (Nat.le_refl _))⟩
  exact ⟨Nat.le_trans (cutV_length xs lo hi) hz,_,0,(r.drop (HT.sIx xs.length 0 lo)).take (HT.sIx xs.length xs.length hi - HT.sIx xs.length 0 lo),Heap.get?_push_size _ rfl⟩
def flatV:V→Bool
  | .non=>true
  | .bl _=>true
  | .int _=>true
  | .str _=>true
  | _=>false
def eqV:V→V→Bool
  | .non,.non=>true
  | .bl a,.bl b=>a == b
  | .bl a,.int b=>(if a then 1 else 0) == b
  | .int a,.bl b=>a == (if b then 1 else 0)
  | .int a,.int b=>a == b
  | .str a,.str b=>a == b
  | _,_=>false
theorem eqAt_V {A:Around} {s:Shared} {y x:V} {u v:Value} (ry:RelV y u) (rx:RelV x v) (fy:flatV y = true) (fx:flatV x = true):SeqAt.EqAt A s u v (eqV y x):=by
  cases y with
  | non =>
    cases ry
    cases x with
    | non=>cases rx; exact SeqAt.EqAt.same _
    | bl b=>cases rx; exact SeqAt.EqAt.none_bool b
    | int b=>obtain ⟨t,rfl⟩:=rx; exact SeqAt.EqAt.none_int b t
    | str b=>obtain ⟨t,rfl⟩:=rx; exact SeqAt.EqAt.none_str b t
    | _=>exact absurd (show false = true from fx) Bool.false_ne_true
  | bl a =>
    cases ry
    cases x with
    | non=>cases rx; exact SeqAt.EqAt.bool_none a
    | bl b=>cases rx; exact SeqAt.EqAt.bool_bool a b
    | int b=>obtain ⟨t,rfl⟩:=rx; exact SeqAt.EqAt.bool_int a b t
    | str b=>obtain ⟨t,rfl⟩:=rx; exact SeqAt.EqAt.bool_str a b t
    | _=>exact absurd (show false = true from fx) Bool.false_ne_true
  | int a =>
    obtain ⟨t',rfl⟩:=ry
    cases x with
    | non=>cases rx; exact SeqAt.EqAt.int_none a t'
    | bl b=>cases rx; exact SeqAt.EqAt.int_bool a t' b
    | int b=>obtain ⟨t,rfl⟩:=rx; exact SeqAt.EqAt.int_int a t' b t
    | str b=>obtain ⟨t,rfl⟩:=rx; exact SeqAt.EqAt.int_str a t' b t
    | _=>exact absurd (show false = true from fx) Bool.false_ne_true
  | str a =>
    obtain ⟨t',rfl⟩:=ry
    cases x with
    | non=>cases rx; exact SeqAt.EqAt.str_none a t'
    | bl b=>cases rx; exact SeqAt.EqAt.str_bool a t' b
    | int b=>obtain ⟨t,rfl⟩:=rx; exact SeqAt.EqAt.str_int a t' b t
    | str b=>obtain ⟨t,rfl⟩:=rx; exact SeqAt.EqAt.str_str a t' b t
    | _=>exact absurd (show false = true from fx) Bool.false_ne_true
  | _=>exact absurd (show false = true from fy) Bool.false_ne_true
def eqU (x:V) (u:Value):Bool:=match u with
  | .none=>eqV .non x
  | .bool b=>eqV (.bl b) x
  | .int i _=>eqV (.int i) x
  | .str z _=>eqV (.str z) x
  | _=>false
theorem eqU_of {x y:V} {u:Value} (r:RelV y u) (f:flatV y = true):eqU x u = eqV y x:=by
  cases y with
  | non=>cases r; rfl
  | bl b=>cases r; rfl
  | int i=>obtain ⟨t,rfl⟩:=r; rfl
  | str z=>obtain ⟨t,rfl⟩:=r; rfl
  | _=>exact absurd (show false = true from f) Bool.false_ne_true
theorem any_eqU {x:V}:∀ {xs:List V} {us:List Value},Vals xs us→xs.all flatV = true→us.any (eqU x) = xs.any fun y=>eqV y x
  | _,_,.nil,_=>rfl
  | y :: xs,u :: us,.cons r t,f=>by
    rw [List.all_cons,Bool.and_eq_true] at f
    rw [List.any_cons,List.any_cons,eqU_of r f.1,any_eqU t f.2]
theorem mem_eqAt {A:Around} {s:Shared} {x:V} {v:Value} (rx:RelV x v) (fx:flatV x = true):∀ {xs:List V} {us:List Value},Vals xs us→xs.all flatV = true→∀ u∈us,SeqAt.EqAt A s u v (eqU x u)
  | _,_,.nil,_=>fun u hu=>by cases hu
  | y :: xs,u :: us,.cons r t,f=>fun u' hu=>by
    rw [List.all_cons,Bool.and_eq_true] at f
    rcases List.mem_cons.mp hu with rfl | hu
    · rw [eqU_of r f.1]; exact eqAt_V r rx f.1 fx
    · exact mem_eqAt rx fx t f.2 u' hu
def inV (x:V) (xs:List V):Bool:=xs.any fun y=>eqV y x
def rIn (K:PySem.W.Frag) (neg:Bool):R2:=fun x y H Q=>∃ p xs,y = .ref p∧(SqL K H p xs∨SqT K H p xs)∧flatV x = true∧xs.all flatV = true∧Q (.bl (if neg then !inV x xs else inV x xs)) H
theorem op_in_seq:OpR X (compareOp .In) (rIn X.K false):=by
  intro pins s σ H x y v u Q I rx ry h
  obtain ⟨p,xs,rfl,hq,fx,fs,q⟩:=h
  cases ry
  rcases hq with hq | hq
  · obtain ⟨its,r,pl,hz⟩:=I.list hq
    refine SeqAt.in_listAt (eqU x) pl.isList (fun w hw=>mem_eqAt rx fx r fs w (by simpa using hw)) ⟨.bl _,H,I,rfl,?_⟩
    rw [show its.toArray.any (eqU x) = its.any (eqU x) by simp,any_eqU r fs]
    exact q
  · obtain ⟨its,r,pl,hz⟩:=I.tuple hq
    refine SeqAt.in_tupleAt (eqU x) pl (fun w hw=>mem_eqAt rx fx r fs w (by simpa using hw)) ⟨.bl _,H,I,rfl,?_⟩
    rw [show its.toArray.any (eqU x) = its.any (eqU x) by simp,any_eqU r fs]
    exact q
theorem op_notIn_seq:OpR X (compareOp .NotIn) (rIn X.K true):=by
  intro pins s σ H x y v u Q I rx ry h
  obtain ⟨p,xs,rfl,hq,fx,fs,q⟩:=h
  cases ry
  rcases hq with hq | hq
  · obtain ⟨its,r,pl,hz⟩:=I.list hq
    refine SeqAt.notIn_listAt (eqU x) pl.isList (fun w hw=>mem_eqAt rx fx r fs w (by simpa using hw)) ⟨.bl _,H,I,rfl,?_⟩
    rw [show its.toArray.any (eqU x) = its.any (eqU x) by simp,any_eqU r fs]
    exact q
  · obtain ⟨its,r,pl,hz⟩:=I.tuple hq
    refine SeqAt.notIn_tupleAt (eqU x) pl (fun w hw=>mem_eqAt rx fx r fs w (by simpa using hw)) ⟨.bl _,H,I,rfl,?_⟩
    rw [show its.toArray.any (eqU x) = its.any (eqU x) by simp,any_eqU r fs]
    exact q
theorem call_len_seq:CallR X (.builtin "len") (fun xs H Q=>∃ p ys,xs = [.ref p]∧(SqL X.K H p ys∨SqT X.K H p ys)∧Q (.int ys.length) H):=by
  intro pins s σ H xs us Q I r h
  obtain ⟨p,ys,rfl,hq,q⟩:=h
  obtain ⟨u,rfl,rx⟩:=vals1 r
  cases rx
  have hn:=line63
  rcases hq with hq | hq
  · obtain ⟨its,r',pl,hz⟩:=I.list hq
    have hlen:=r'.length
    exact Calls.call_len_list pl.isList (by simp only [List.size_toArray] <;> omega) ⟨.int ys.length,H,I.tok _,⟨s.toks + 1,by rw [List.size_toArray,hlen]⟩,q⟩
  · obtain ⟨its,r',pl,hz⟩:=I.tuple hq
    have hlen:=r'.length
    exact len_tuple pl (by simp only [List.size_toArray] <;> omega) ⟨.int ys.length,H,I.tok _,⟨s.toks + 1,by rw [List.size_toArray,hlen]⟩,q⟩
theorem call_len_str:CallR X (.builtin "len") (fun xs H Q=>∃ z,xs = [.str z]∧z.length≤sizeLine∧Q (.int z.length) H):=by
  intro pins s σ H xs us Q I r h
  obtain ⟨z,rfl,hz,q⟩:=h
  obtain ⟨u,rfl,t,rfl⟩:=vals1 r
  have hn:=line63
  exact len_str (by omega) ⟨.int z.length,H,I.tok _,⟨_,rfl⟩,q⟩
theorem call_list_of:CallR X (.type "list") (fun xs H Q=>∃ p ys,xs = [.ref p]∧(SqL X.K H p ys∨SqT X.K H p ys)∧∀ l,H l = none→Q (.ref l) (upd H l (.lst ys))):=by
  intro pins s σ H xs us Q I r h
  obtain ⟨p,ys,rfl,hq,q⟩:=h
  obtain ⟨u,rfl,rx⟩:=vals1 r
  cases rx
  have fin:∀ (its:List Value),Vals ys its→ys.length≤sizeLine→∀ (h':Heap) (c':Nat),(∀ b o',s.heap.get? b = some o'→h'.get? b = some o') →
      h'.get? s.heap.objs.size = some { cls:=.type "list", dict:=none,data:=.seq its.toArray c',slots:=#[] }→EP X pins σ Q (.ref s.heap.objs.size) { s with heap:=h' }:=fun its r' hz h' c' kp e =>
    ⟨.ref s.heap.objs.size,_,I.laid (t':=s.toks) kp (Nat.le_refl _) (show ObjOk X.prog X.w _ h' _ (.lst ys) from ⟨hz,its,c',r',e⟩),rfl,q _ (I.hok.fresh (Nat.le_refl _))⟩
  rcases hq with hq | hq
  · obtain ⟨its,r',pl,hz⟩:=I.list hq
    have hlen:=r'.length
    obtain ⟨o,ho,hc,n,hd⟩:=pl.isList
    exact call_list_seq p (.inl rfl) ho hc hd (fun h' c' kp e=>fin its r' hz h' c' kp e) (by simp only [List.size_toArray] <;> omega)
  · obtain ⟨its,r',pl,hz⟩:=I.tuple hq
    have hlen:=r'.length
    obtain ⟨o,ho,hc,n,hd⟩:=pl
    exact call_list_seq p (.inr rfl) ho hc hd (fun h' c' kp e=>fin its r' hz h' c' kp e) (by simp only [List.size_toArray] <;> omega)
def tyV (K:PySem.W.Frag) (T:String) (x:V) (H:Hp):Prop:=match x with
  | .str _=>T = "str"
  | .int _=>T = "int"
  | .ref p=>(T = "list" ∧ ∃ xs,SqL K H p xs)∨(T = "tuple" ∧ ∃ o,K.lookup p = some o∧o.cls = .type "tuple" ∧ o.dict = none) ∨
      (T = "dict" ∧ ((∃ kvs,H p = some (.dK kvs))∨∃ kvs,H p = some (.dT kvs)))∨(T = "set" ∧ ∃ S n,H p = some (.set S n))
  | _=>False
theorem tyV_is {pins:List (Addr × Obj)} {σ:St} {H:Hp} {s:Shared} {T:String} {x:V} {v:Value} (I:Inv X pins σ H s) (r:RelV x v) (ty:tyV X.K T x H) :
    s.TypeIs v T∧∀ a,v = .ref a→∃ ob,s.heap.get? a = some ob∧ob.dict = none:=by
  cases x with
  | str z =>
    obtain ⟨t,rfl⟩:=r
    cases (show T = "str" from ty)
    exact ⟨typeIs_str s z t,fun _ e=>nomatch e⟩
  | int i =>
    obtain ⟨t,rfl⟩:=r
    cases (show T = "int" from ty)
    exact ⟨typeIs_int s i t,fun _ e=>nomatch e⟩
  | ref p =>
    cases r
    rcases ty with ⟨rfl,xs,hq⟩ | ⟨rfl,o,hk,hc,hd⟩ | ⟨rfl,hk⟩ | ⟨rfl,S,n,hk⟩
    · obtain ⟨its,_,pl,_⟩:=I.list hq
      refine ⟨pl.isList.typeIs,fun a e=>?_⟩
      cases e
      obtain ⟨o,n,e,c,hd,_⟩:=pl
      exact ⟨o,e,hd⟩
    · refine ⟨⟨o,I.kIn p o hk,hc⟩,fun a e=>?_⟩
      cases e
      exact ⟨o,I.kIn _ o hk,hd⟩
    · have z:∃ o,s.heap.get? p = some o∧o.ExactDict:=by
        rcases hk with ⟨kvs,hk⟩ | ⟨kvs,hk⟩
        · obtain ⟨_,_,_,_,o,_,_,e,ex,_⟩:=I.hok p _ hk
          exact ⟨o,e,ex⟩
        · obtain ⟨_,_,_,_,o,_,_,e,ex,_⟩:=I.hok p _ hk
          exact ⟨o,e,ex⟩
      obtain ⟨o,e,ex⟩:=z
      refine ⟨⟨o,e,ex.1⟩,fun a e2=>?_⟩
      cases e2
      exact ⟨o,e,ex.2.1⟩
    · obtain ⟨o,_,_,_,e,ex,_⟩:=I.hok p _ hk
      refine ⟨⟨o,e,ex.1⟩,fun a e2=>?_⟩
      cases e2
      exact ⟨o,e,ex.2.1⟩
  | _=>exact False.elim ty
def tBM (K:PySem.W.Frag) (T:String) (r:V→List V→Hp→VK→Prop) (to:TE) (t:TA):TE:=fun σ H Q=>to σ H fun x H1=>tyV K T x H1∧t σ H1 fun xs H2=>r x xs H2 Q
variable {o e:Expr} {es:List Expr} {to:TE} {t:TA} {name:Str} {apos cpos:Pos} {T id:String} {r:V→List V→Hp→VK→Prop}
theorem pe_bm (pa:PlainAttrs T) (slot:Slot T name id) (hty:typeOf (.builtin id) = pure (.type "method_descriptor")) (hm:MtR X id r) (ho:PE X o to) (ha:PA X (e :: es) t)
    (hbase:attributeBase o name X.env (eval o X.env) = eval o X.env:=by rfl)
    (hfew:((backTo cpos (starEach (e :: es) X.env)).all (fun x=>!x.1) && (backToKw cpos (keywordEach [] X.env)).all (fun x=>x.1.isSome)
      && decide ((e :: es).length + ([]:List Keyword).length + (if ([]:List Keyword).isEmpty then 0 else 1) < 30)) = true:=by rfl)
    (hline:(apos.endLine == cpos.line) = true:=by rfl) (hs:starEach (e :: es) X.env = (false,eval e X.env) :: starEach es X.env:=by rfl) (hplain:(backTo cpos (starEach es X.env)).any (·.1) = false:=by rfl) :
    PE X (.Call (.Attribute o name apos) (e :: es) [] cpos) (tBM X.K T r to t):=by
  intro pins s σ H Q I h
  refine wpAny_Call_method_late hbase hfew hline rfl (thn (ho pins s σ H _ I h) fun v s1 ⟨x,H1,I1,r1,ty,q1⟩=>?_)
  obtain ⟨h1,h2⟩:=tyV_is I1 r1 ty
  refine ⟨T,id,pa,slot,hty,h1,h2,?_⟩
  have hA:=ha cpos pins s1 σ H1 _ I1 q1
  rw [hs] at hA ⊢
  refine Calls.callWith_builtin (by show (false || (backTo cpos (starEach es X.env)).any (·.1)) = false; rw [hplain] <;> rfl) (Calls.evalArgs_plain ?_)
  exact thn hA fun us s2 ⟨vs,H2,I2,r2,q2⟩=>hm pins s2 σ H2 x vs v us Q I2 r1 r2 q2
/- xs.append(e),list.index on a module's tuple .. are MtR facts of 06m -/
end
end L2
namespace L2
open PySem PySem.Spec PyProof.Rows
def MtM (X:Cx) (id:String) (r:V→List V→Hp→VK→Prop):Prop :=
  ∀ (pins:List (Addr × Obj)) (s:Shared) (σ:St) (H:Hp) (x:V) (xs:List V) (v:Value) (us:List Value) (Q:VK),Inv X pins σ H s→RelV x v→Vals xs us→r x xs H Q →
    wpAny (model X.prog X.w) X.A (call (.builtin id) (v :: us)) (EP X pins σ Q) X.xe s
theorem Vals.one:∀ {x:V} {us:List Value},Vals [x] us→∃ u,us = [u]∧RelV x u
  | _,_,.cons r .nil=>⟨_,rfl,r⟩
theorem Vals.two:∀ {x y:V} {us:List Value},Vals [x,y] us→∃ u v,us = [u,v]∧RelV x u∧RelV y v
  | _,_,_,.cons r (.cons q .nil)=>⟨_,_,rfl,r,q⟩
section
variable {X:Cx} {pins:List (Addr × Obj)} {σ:St} {H:Hp} {s:Shared} {l b:Addr} {xs ys zs:List V}
theorem Inv.lset {its its':List Value} {n:Nat} {f:Array Value→Array Value} {t':Nat} (I:Inv X pins σ H s) (hH:H l = some (.lst xs))
    (e:s.heap.get? l = some { cls:=.type "list", data:=.seq its.toArray n }) (hf:f its.toArray = its'.toArray) (hv:Vals ys its') (hz:ys.length≤sizeLine) :
    Inv X pins σ (upd H l (.lst ys)) { s with heap:=s.heap.update l (Obj.mapSeq f),toks:=t' }:=by
  have q:=PySem.IsL.update e f
  rw [hf] at q
  refine I.write (x:=l) (e:=l) (by rw [hH]; exact trivial) (.inl rfl) (fun b' u hb hu=>(Heap.get?_update_other s.heap (Obj.mapSeq f) (Ne.symm hb)).trans hu) ⟨_,q⟩ ?_
  exact ⟨hz,its',_,hv,q⟩
theorem Inv.fresh (I:Inv X pins σ H s):H s.heap.objs.size = none:=I.hok.fresh (Nat.le_refl _)
theorem Inv.lstM (I:Inv X pins σ H s) (hH:H l = some (.lst xs)):xs.length≤sizeLine∧∃ (its:List Value) (n:Nat),Vals xs its∧xs.length = its.length∧s.heap.get? l = some { cls:=.type "list", data:=.seq its.toArray n }:=by
  obtain ⟨z,its,n,r,e⟩:=I.hok l _ hH
  exact ⟨z,its,n,r,r.length,e⟩
theorem notLongL {n:Nat} (h:n≤sizeLine):Builtin.List.listTooLong n = false:=by
  unfold Builtin.List.listTooLong
  exact decide_eq_false (by omega)
end
section
variable {X:Cx}
def rAppend:V→List V→Hp→VK→Prop:=fun x vs H Q=>∃ l xs y,x = .ref l∧vs = [y]∧H l = some (.lst xs)∧xs.length < sizeLine∧Q .non (upd H l (.lst (xs ++ [y])))
theorem mt_append:MtM X "list.append" rAppend:=by
  intro pins s σ H x vs v us Q I rx rv h
  obtain ⟨l,xs,y,rfl,rfl,hH,hz,q⟩:=h
  cases rx
  obtain ⟨u,rfl,ru⟩:=rv.one
  obtain ⟨z,its,n,r,hl,e⟩:=I.lstM hH
  refine call_meets F.slot_list_append ⟨_,e,rfl⟩ F.entry_list_append (F.args_list_append_2 _ _) (PySem.list_append l its.toArray n u (by rw [List.size_toArray]; omega)) ⟨e,?_⟩
  refine ⟨.non,_,I.lset (its':=its ++ [u]) hH e (by simp) (r.append (.cons ru .nil)) ?_,rfl,q⟩
  rw [List.length_append,List.length_singleton]
  omega
def rExtend:V→List V→Hp→VK→Prop:=fun x vs H Q=>∃ l b xs zs,x = .ref l∧vs = [.ref b]∧H l = some (.lst xs)∧H b = some (.lst zs)∧xs.length + zs.length≤sizeLine∧Q .non (upd H l (.lst (xs ++ zs)))
theorem mt_extend:MtM X "list.extend" rExtend:=by
  intro pins s σ H x vs v us Q I rx rv h
  obtain ⟨l,b,xs,zs,rfl,rfl,hH,hB,hz,q⟩:=h
  cases rx
  obtain ⟨u,rfl,ru⟩:=rv.one
  cases ru
  obtain ⟨z,its,n,r,hl,e⟩:=I.lstM hH
  obtain ⟨z2,its2,n2,r2,hl2,e2⟩:=I.lstM hB
  have hsz:its.toArray.size + its2.toArray.size≤sizeLine:=by rw [List.size_toArray,List.size_toArray]; omega
  have hlong:¬ (!its.toArray.isEmpty && Builtin.List.listTooLong (its.toArray.size + its2.toArray.size)) = true:=by
    rw [notLongL hsz,Bool.and_false]
    exact Bool.false_ne_true
  refine call_meets F.slot_list_extend ⟨_,e,rfl⟩ F.entry_list_extend (F.args_list_extend_2 _ _)
    (AutoSeq1.list_extend_list_list_0 l its.toArray n b its2.toArray n2 hlong (by rw [List.size_toArray]; omega) (by omega)) ⟨e,e2,?_⟩
  refine ⟨.non,_,I.lset (its':=its ++ its2) hH e (by simp) (r.append r2) ?_,rfl,q⟩
  rw [List.length_append]
  omega
end
section
variable {prog:Program} {w:World} {A:Around} {E:Value→Shared→Prop} {s:Shared}
end
section
variable {X:Cx}
end
end L2
namespace Att
open PySem PySem.W PySem.Calls PyProof.Rows
theorem ints_of_wellAll {P:Params} {h:Heap}:∀ (ns:List Int) (vs:List Value),WellAll P h vs (ns.map WData.int)→IntsAre vs ns:=by
  intro ns
  induction ns with
  | nil =>
    intro vs w
    rw [List.map_nil] at w
    cases w
    exact .nil
  | cons n ns ih =>
    intro vs w
    rw [List.map_cons] at w
    cases w with
    | cons a b =>
      cases a
      exact .cons _ _ (ih _ b)
theorem script_of {l:OpenLaw} {n:Nat} (hn:l.most = some n) {P:Params} {h:Heap} {args:List WData} {vals:List Value}
    (hpre:l.row.toRowW.claim.pre args = true) (hwl:WellAll P h vals args) :
    ∃ a vs ns,vals = [Value.ref a]∧args = [WData.list (ns.map WData.int)]∧h.get? a = some { cls:=.type "list", data:=.seq vs.toArray }∧IntsAre vs ns∧ns.length≤n:=by
  have hsh:WShape.hasAll [] args [.list .int] = true:=(pre_splitW hpre).1
  have hc:l.pre.holds [] { args:=args } = true:=(pre_splitW hpre).2
  obtain ⟨d,r,rfl,h1,h2⟩:=hasAllW_cons hsh
  obtain rfl:=hasAllW_nil h2
  obtain ⟨xs,rfl,h3⟩:=hasW_list h1
  obtain ⟨ns,rfl⟩:=items_int h3
  have hlen:ns.length≤n:=by
    unfold OpenLaw.pre at hc
    have h4:(WTm.not (.lt (.lit (.int (n:Int))) (.len (.arg 0)))).holds [] { args:=[.list (ns.map .int)] } = true:=by
      have h4:=(holds_andW hc).1
      rw [hn] at h4
      exact h4
    have h5:=condW_of h4 (w_not (w_lt w_lit (w_len_list (w_arg rfl))))
    rw [List.length_map] at h5
    refine Nat.le_of_not_lt fun q=>?_
    have q':(n:Int) < ((ns.length:Nat):Int):=by omega
    first
      | (rw [decide_eq_true q'] at h5; exact absurd h5 (by decide))
      | (simp at h5; omega)
  cases hwl with
  | cons w1 w2 =>
    cases w2
    cases w1 with
    | list ho hall=>exact ⟨_,_,ns,rfl,rfl,ho,ints_of_wellAll ns _ hall,hlen⟩
theorem post_true (l:OpenLaw) (args:List WData):l.row.toRowW.claim.post args (.bool true) args = true :=
  postW_of (r:=l.row.toRowW) (X:=(true == true))
    (show WShape.has [] (.bool true) .bool = true by first | rfl | decide | simp [WShape.has,WShape.arms,WShape.armsAll])
    (show (WTm.eq .res (.lit (.bool true))).value [] { args:=args,res:=some (.bool true),after:=args } = some (.bool (true == true)) from w_eq_bool (w_res rfl) w_lit) rfl
theorem attach_call {l:OpenLaw} {n:Nat} {q:Program} {loose:List Str} {XP:(Str→Option Value)→Heap→Prop} {YP:World→Heap→Prop} {d:DefRec}
    (hn:l.most = some n) (hdf:d.params.defaults = [])
    (call:∀ (w:World) (s₀ s₁:Shared) (mg mb:Str→Option Value) (fa:Addr) (o:Obj) (pm cd doc:Value) (a:Addr) (vs:List Value) (ns:List Int),
      Ground q loose [] XP w s₀ mg mb s₁.heap→YP w s₁.heap →
      s₁.heap.get? fa = some o→o.data = .func (docDef d.name d.params d.body d.scope pm cd doc)→s₁.heap.CodeRec cd d.name→mg d.name = some (.ref fa) →
      s₁.heap.get? a = some { cls:=.type "list", data:=.seq vs.toArray }→IntsAre vs ns→ns.length≤n→s₁.gens = #[] →
      codeAny (model l.prog w) callerA (.call (.ref fa) ⟨[.ref a],[]⟩) (fun r s'=>r = .ok (.ret (.bool true))∧OldK s₁.heap s'.heap∧s'.os = s₁.os∧AllBare s'.gens) s₁) :
    WalkO q loose XP YP l.row.toRowW d [] (fun f vs=>PySem.call f vs):=by
  intro w s₀ s₁ mg mb G Y fa o pm cd doc dV kV ho hd hcd hD hmg hg args vals as hpre hlay hrd hwl hlo
  obtain rfl:dV = .none:=Dflts.none hD hdf
  obtain rfl:kV = .none:=Dflts.noKw hD
  obtain ⟨a,vs,ns,rfl,rfl,hobj,hints,hlen⟩:=script_of hn hpre hwl
  refine enter_call (codeAny_mono (call w s₀ s₁ mg mb fa o pm cd doc a vs ns G Y ho (fd_plain hd) hcd hmg hobj hints hlen hg) fun r s' hq=>?_)
  obtain ⟨rfl,h2,h3,h4⟩:=hq
  exact ⟨.inl ⟨.bool true,.bool true,[],rfl,fun _=>rfl,.bool true,post_true l _,fun _=>⟨List.Pairwise.nil,fun _ hm=>(nomatch hm)⟩⟩,h2,h3,h4⟩
section
variable {prog:Program} {w:World} {A:Around} {E:Value→Shared→Prop} {s:Shared} {K:Frag}
end
end Att
namespace L2
open PySem PySem.Spec PyProof.Rows
theorem vals_ints:∀ {vs:List Value} {ns:List Int},IntsAre vs ns→Vals (ns.map V.int) vs
  | _,_,.nil=>.nil
  | _,_,.cons n t h=>.cons ⟨t,rfl⟩ (vals_ints h)
def Only (H:Hp):Prop:=∀ b,H b = none∨∃ o xs,H b = some (.frz o (.lst xs))
theorem law_call {P:Program} {w:World} {K:PySem.W.Frag} {mg mb:Str→Option Value} {CX:CXT} {k:Nat} {fa a:Addr} {fd:FuncData} {x:Str} {sp:Sp} {s₁:Shared} {vs:List Value} {ns:List Int}
    (KX:K.In s₁.heap) (hns:s₁.heap.Ns mainGlobals mg) (hb:s₁.heap.Ns builtinsNs mb) (hbb:∀ x:Str,x ≠ "__name__" → mb x = bootBuiltins x) (hlim:s₁.heap.NoLimit) (hg:s₁.gens = #[])
    (ha:s₁.heap.get? a = some { cls:=.type "list", data:=.seq vs.toArray }) (hi:IntsAre vs ns) (hl:ns.length≤sizeLine) (hr:Room k callerA)
    (F:∀ base:Heap,K.In base→base.Ns mainGlobals mg→FnOk P w K mg base CX k fa fd [x] sp) (hbind:∀ (s:Shared) (u:Value),BindsTo s fd ⟨[u],[]⟩ [(x,u)])
    (hsp:∀ H:Hp,Only H→SqL K H a (ns.map V.int)→sp [.ref a] H (fun v _=>v = .bl true) fun _ _ _=>False)
    (hCX:∀ H e s',CX [] H s₁ (fun _ _ _=>False) e s'→False) :
    codeAny (model P w) callerA (.call (.ref fa) ⟨[.ref a],[]⟩) (fun r s'=>r = .ok (.ret (.bool true))∧OldK s₁.heap s'.heap∧s'.os = s₁.os∧AllBare s'.gens) s₁:=by
  have rv:=vals_ints hi
  have lenV:=hi.length
  have core:∀ H:Hp,Only H→SqL K H a (ns.map V.int)→HOk P w H s₁.heap→(∀ b,H b≠none→b = a)→(H a≠none→K.lookup a = none) →
      codeAny (model P w) callerA (.call (.ref fa) ⟨[.ref a],[]⟩) (fun r s'=>r = .ok (.ret (.bool true))∧OldK s₁.heap s'.heap∧s'.os = s₁.os∧AllBare s'.gens) s₁:=by
    intro H hO hS hok hA hK
    have base_of:∀ {b:Addr} {o:Obj},s₁.heap.get? b = some o→H b = none→(hidT s₁.heap H).get? b = some o:=fun e n=>hidT_get e n
    have noA:∀ {b:Addr} {o:Obj} {es:Array DictEntry} {ep:Nat},s₁.heap.get? b = some o→o.data = .dict es ep→H b = none:=fun {b o es ep} e d=>by
      cases q:H b with
      | none=>rfl
      | some u =>
        have e':b = a:=hA b (by rw [q]; simp)
        subst e'
        rw [ha] at e; cases e
        have d':Data.seq vs.toArray _ = Data.dict es ep:=d
        cases d'
    have nsK:∀ {b:Addr} {m:Str→Option Value},s₁.heap.Ns b m→(hidT s₁.heap H).Ns b m:=fun {b m} ⟨o,es,ep,e,d,r⟩=>⟨o,es,ep,base_of e (noA e d),d,r⟩
    have hKb:K.In (hidT s₁.heap H):=fun b o e=>base_of (KX b o e) (by
      cases q:H b with
      | none=>rfl
      | some u =>
        have e':b = a:=hA b (by rw [q]; simp)
        subst e'
        rw [hK (by rw [q]; simp)] at e; cases e)
    have hM:Mod K mg (hidT s₁.heap H):=⟨hKb,nsK hns,⟨mb,nsK hb,hbb⟩,let ⟨mc,h1,h2⟩:=hlim; ⟨mc,nsK h1,h2⟩⟩
    have e0:Env0 P w K mg (hidT s₁.heap H) callerA [] s₁ H:=⟨rfl,hM,fun b o e=>of_hidT e,Nat.le_of_eq (hidT_size _ _),trivial,fun b hb=>absurd (show b∈([]:List Addr) from hb) (by simp),hok,.of_eq hg⟩
    refine codeAny_mono ((F _ hKb (nsK hns)).run callerA [] s₁ H ⟨[.ref a],[]⟩ [.ref a] [.ref a] _ _ hr e0 (hbind s₁ (.ref a)) (.cons rfl .nil) (hsp H hO hS)) fun r s' h=>?_
    cases r with
    | error e=>exact (hCX H e s' h).elim
    | ok fl =>
      cases fl with
      | next=>exact False.elim h
      | brk=>exact False.elim h
      | cont=>exact False.elim h
      | ret u =>
        obtain ⟨v,H',os,bare,un,hok',r',q⟩:=h
        have q':v = .bl true:=q
        subst q'
        obtain rfl:u = Value.bool true:=r'
        refine ⟨rfl,OldK.of_keep fun b o e=>?_,os,bare⟩
        cases q:H b with
        | none=>exact un.keep b o e q (by intro z; exact absurd (show b∈([]:List Addr) from z) (by simp)) (by simp)
        | some u =>
          rcases hO b with z | ⟨ob,xs,z⟩
          · rw [q] at z; cases z
          · have z2:=un.frzs b ob _ z
            obtain ⟨e1,_⟩:=hok b _ z
            obtain ⟨e2,_⟩:=hok' b _ z2
            rw [e] at e1; cases e1
            exact e2
  cases hk:K.lookup a with
  | some o =>
    have e:=KX a o hk
    rw [ha] at e
    cases e
    refine core (fun _=>none) (fun _=>.inl rfl) (.inr ⟨_,vs.toArray,_,hk,rfl,rfl,rfl,by rw [List.size_toArray,lenV]; exact hl,by simpa using rv⟩) (fun b u z=>by have z':(none:Option HO) = some u:=z; cases z') (fun b z=>absurd rfl z) fun z=>absurd rfl z
  | none =>
    refine core (fun b=>if b = a then some (.frz { cls:=.type "list", data:=.seq vs.toArray } (.lst (ns.map V.int))) else none) (fun b=>?_) (.inl (.inr ⟨{ cls:=.type "list", data:=.seq vs.toArray },if_pos rfl⟩)) (fun b u z=>?_) (fun b z=>?_) fun _=>hk
    · by_cases hb:b = a
      · exact .inr ⟨_,_,if_pos hb⟩
      · exact .inl (if_neg hb)
    · by_cases hb:b = a
      · have z':=(if_pos hb).symm.trans z
        cases z'
        subst hb
        exact ⟨ha,by rw [List.length_map]; exact hl,vs,_,rv,ha⟩
      · have z':=(if_neg hb).symm.trans z
        cases z'
    · by_cases hb:b = a
      · exact hb
      · exact absurd (if_neg hb) z
end L2
namespace L2
open PySem PySem.Spec PyProof.Rows
abbrev KOf {K:PySem.W.Frag} {h:Heap} (_:K.In h):PySem.W.Frag:=K
theorem walk_of {l:PySem.W.OpenLaw} {n k:Nat} {q:Program} {loose:List Str} {XP:(Str→Option Value)→Heap→Prop} {YP:World→Heap→Prop} {d:DefRec} {K:Params→PySem.W.Frag} {CX:World→CXT} {sp:World→Sp} {x:Str}
    (hn:l.most = some n) (hn2:n≤sizeLine) (hdf:d.params.defaults = []) (hr:Room k callerA)
    (hY:∀ (w:World) (h:Heap),YP w h→(K w.params).In h)
    (F:∀ (w:World) (mg:Str→Option Value) (fa:Addr) (h:Heap),(K w.params).In h→h.Ns mainGlobals mg→mg d.name = some (.ref fa) →
      ∃ fd:FuncData,(∀ (s:Shared) (u:Value),BindsTo s fd ⟨[u],[]⟩ [(x,u)]) ∧
        ∀ base:Heap,(K w.params).In base→base.Ns mainGlobals mg→FnOk l.prog w (K w.params) mg base (CX w) k fa fd [x] (sp w))
    (hsp:∀ (w:World) (H:Hp) (a:Addr) (ns:List Int),ns.length≤n→Only H→SqL (K w.params) H a (ns.map V.int)→sp w [.ref a] H (fun v _=>v = .bl true) fun _ _ _=>False)
    (hCX:∀ (w:World) (H:Hp) (s:Shared) (e:Value) (s':Shared),CX w [] H s (fun _ _ _=>False) e s'→False) :
    PySem.W.WalkO q loose XP YP l.row.toRowW d [] (fun f vs=>PySem.call f vs):=by
  refine Att.attach_call hn hdf fun w s₀ s₁ mg mb fa o pm cd doc a vs ns G Y ho hd hcd hmg hobj hints hlen hg=>?_
  have KX:=hY w _ Y
  obtain ⟨fd,hb,hF⟩:=F w mg fa _ KX G.T.g hmg
  exact law_call KX G.T.g G.T.b G.T.builtins G.T.nolimit hg hobj hints (Nat.le_trans hlen hn2) hr hF hb (fun H hO hS=>hsp w H a ns hlen hO hS) fun H e s'=>hCX w H s₁ e s'
theorem walk_ofK {l:PySem.W.OpenLaw} {n k:Nat} {q:Program} {loose:List Str} {XP:(Str→Option Value)→Heap→Prop} {YP:World→Heap→Prop} {d:DefRec} {K:Params→PySem.W.Frag} {CX:CXT} {sp:PySem.W.Frag→Sp} {x:Str}
    (hn:l.most = some n) (hn2:n≤sizeLine) (hdf:d.params.defaults = []) (hr:Room k callerA)
    (hY:∀ (w:World) (h:Heap),YP w h→(K w.params).In h)
    (F:∀ (w:World) (mg:Str→Option Value) (fa:Addr) (h:Heap),(K w.params).In h→h.Ns mainGlobals mg→mg d.name = some (.ref fa) →
      ∃ fd:FuncData,(∀ (s:Shared) (u:Value),BindsTo s fd ⟨[u],[]⟩ [(x,u)]) ∧
        ∀ base:Heap,(K w.params).In base→base.Ns mainGlobals mg→FnOk l.prog w (K w.params) mg base CX k fa fd [x] (sp (K w.params)))
    (hsp:∀ (K:PySem.W.Frag) (H:Hp) (a:Addr) (ns:List Int),ns.length≤n→Only H→SqL K H a (ns.map V.int)→sp K [.ref a] H (fun v _=>v = .bl true) fun _ _ _=>False)
    (hCX:∀ (H:Hp) (s:Shared) (e:Value) (s':Shared),CX [] H s (fun _ _ _=>False) e s'→False) :
    PySem.W.WalkO q loose XP YP l.row.toRowW d [] (fun f vs=>PySem.call f vs) :=
  walk_of (K:=K) (CX:=fun _=>CX) (sp:=fun w=>sp (K w.params)) hn hn2 hdf hr hY F (fun w H a ns h1 h2 h3=>hsp (K w.params) H a ns h1 h2 h3) fun _ H s e s'=>hCX H s e s'
end L2
/- THE LAST THEOREM (shape; LID,My.* are yours):
   My.Adr: a structure of the addresses that your layer names (classes,functions); My.Txt K t: a structure (Prop) of the equations over K;
   My.txt_mk:{K} {implicit addresses ..} (e1:nsIn K mainGlobals "law" = some (some (.ref f))) (e2:K.lookup f = some ⟨oc,od,.func (fnOf "law" "law" params body scope dV kV doc pm an cdv ct),sl⟩) (e3:codeIn K cdv "law" = true) ..:∃ t,My.Txt K t
set_option maxRecDepth 100000 in
set_option maxHeartbeats 0 in
theorem PySem.Challenge.cw_LID_holds:PySem.Challenge.rw_LID.Holds:=by
  w_on; o_law; k_head; (case hw=>w_witness2)
  k_fill
  refine L2.walk_of (l:=PySem.Challenge.rw_LID) (n:=63) (k:=40) (x := "script") (CX:=fun w=>..) (sp:=fun _=>My.sp_law) rfl (by decide) rfl ⟨rfl,by decide,by decide⟩ (fun w h Y=>PySem.W.kIn_of Y) ?F ?S ?C
  case F =>
    intro w mg fa h KX G hmg
    have T:∃ t,My.Txt (L2.KOf KX) t:=by
      dsimp only [L2.KOf]                          -- K must stand as «<heap const> w.params» for k_is
      refine' My.txt_mk ?e1 ?e2 ?e3 ..
      (case e1=>PySem.W.k_is)                    -- in the order: a name -> its address -> its object -> its parts
      (case e2=>PySem.W.k_is)
      ..
    obtain ⟨t,T⟩:=T
    have e0:=hmg.symm.trans (PySem.W.mg_of KX G T.law)
    cases e0                                       -- fa is the law's own address
    exact ⟨_,fun s u=>.of_eq rfl,fun base kb nb=>My.law_fn T kb nb⟩     -- if «.of_eq rfl» comes too early: refine' ⟨_,?b,fun base kb nb=>My.law_fn T kb nb⟩; exact fun s u=>.of_eq rfl
  case S=>exact fun w H a ns hl hO hS=>..
  case C=>exact ..
(the tactic k_is has no namespace: write k_is) -/
namespace L2
open PySem PySem.Spec PyProof.Rows
def inClass (s:Stmt) (j:Nat):Stmt:=match s with
  | .ClassDef _ _ _ body _ _ _ _ _ _ _=>body.getD j (.Pass ⟨0,0,0,0⟩)
  | _=>.Pass ⟨0,0,0,0⟩
def defArgs (s:Stmt):Arguments:=match s with
  | .FunctionDef _ a _ _ _ _ _ _ _ _=>a
  | _=>{ posonlyargs:=[],args:=[],vararg:=none,kwonlyargs:=[],kw_defaults:=[],kwarg:=none,defaults:=[] }
def defBody (s:Stmt):List Stmt:=match s with
  | .FunctionDef _ _ b _ _ _ _ _ _ _=>b
  | _=>[]
def defScope (s:Stmt):Scope:=match s with
  | .FunctionDef _ _ _ _ _ _ sc _ _ _=>sc
  | _=>{ kind:=.function,names:=[],isGenerator:=false,isCoroutine:=false }
abbrev CX0:CXT:=fun _ _ _ _ _ _=>False
abbrev E0:XK:=fun _ _ _=>False
theorem pass0 {X:Cx}:Passes CX0 X E0:=fun _ _ _ _ _ _ _ h=>h.elim
structure Fun (K:PySem.W.Frag) (x qual:Str) (st:Stmt) (f:Addr) (fd:FuncData):Prop where
  ex:∃ (oc:Value) (od:Option Addr) (kV doc pm:Value) (an:Option Addr) (cdv ct:Value) (osl:Array (Option Value)),
    fd = PySem.W.fnOf x qual (defArgs st) (defBody st) (defScope st) .none kV doc pm an cdv ct∧K.lookup f = some ⟨oc,od,.func fd,osl⟩∧PySem.W.codeIn K cdv qual = true
  kp:PySem.W.keepIn K (.ref f) = true
section
variable {P:Program} {w:World} {K:PySem.W.Frag} {mg:Str→Option Value} {base:Heap}
theorem Fun.ok {x qual:Str} {st:Stmt} {f:Addr} {fd:FuncData} {N ps:List Str} {k:Nat} {sp:Sp} (F:Fun K x qual st f fd) (S:FnScope N ps (defScope st)) (len:∀ vs H Q E,sp vs H Q E→vs.length = ps.length)
    (hbody:∀ (cdv:Value) (A:Around) (outer:List Env) (s:Shared) (H:Hp) (vs:List V) (Q:VK) (E:XK),Room k (A.deeper (envOfC qual (defScope st) s.heap.objs.size f cdv))→sp vs H Q E →
      ∃ t,PSs (cxOf CX0 P w K mg base N qual (defScope st) f cdv A outer s H E).nox (defBody st) t∧t { nx:=fun _ H'=>Q .non H',rt:=Q } (start N vs) H):FnOk P w K mg base CX0 (k + 1) f fd ps sp:=by
  obtain ⟨oc,od,kV,doc,pm,an,cdv,ct,osl,rfl,lk,hcd⟩:=F.ex
  refine fn_of lk hcd S len fun A outer s H vs Q E hr hsp=>?_
  obtain ⟨t,h,q⟩:=hbody cdv A outer s H vs Q E hr hsp
  exact ⟨t,h.nox,q⟩
theorem Fun.binds {x qual:Str} {st:Stmt} {f:Addr} {fd:FuncData} {ps:List Str} (F:Fun K x qual st f fd)
    (h:∀ (kV doc pm:Value) (an:Option Addr) (cdv ct:Value) (us:List Value),us.length = ps.length→bindArgs (PySem.W.fnOf x qual (defArgs st) (defBody st) (defScope st) .none kV doc pm an cdv ct) ⟨us,[]⟩ = pure (ps.zip us)):Binds K fd ps []:=by
  obtain ⟨oc,od,kV,doc,pm,an,cdv,ct,osl,rfl,lk,hcd⟩:=F.ex
  exact .all (h kV doc pm an cdv ct)
theorem fun_mk {x qual:Str} {st:Stmt} {f:Addr} {oc:Value} {od an:Option Addr} {osl:Array (Option Value)} {kV doc pm cdv ct:Value} (l:K.lookup f = some ⟨oc,od,.func (PySem.W.fnOf x qual (defArgs st) (defBody st) (defScope st) .none kV doc pm an cdv ct),osl⟩)
    (c:PySem.W.codeIn K cdv qual = true) (k:PySem.W.keepIn K (.ref f) = true):Fun K x qual st f (PySem.W.fnOf x qual (defArgs st) (defBody st) (defScope st) .none kV doc pm an cdv ct):=⟨⟨oc,od,kV,doc,pm,an,cdv,ct,osl,rfl,l,c⟩,k⟩
end
theorem hu_of {A:Around} {k:Nat} (hr:Room k A):A.units + 1 < cLine:=Nat.lt_of_le_of_lt (Nat.add_le_add_left (by decide:1≤64) _) hr.units
theorem small1000 {n:Nat} (h:n≤1000):n < sizeLine:=Nat.lt_of_le_of_lt h (by decide)
section
variable {X:Cx}
theorem pv (i:Nat) {x:Str} {pos:Pos} (hN:X.N[i]? = some x:=by rfl) (hv:Vis X.env.scope x:=by first | exact Or.inl rfl | exact Or.inr (Or.inl rfl) | exact Or.inr (Or.inr rfl)) (hd:(x == ("__debug__" : Str)) = false:=by decide)
    (hcd:(x == ("__classdict__" : Str)) = false:=by decide):PE X (.Name x pos) (tVar i):=pe_var hN hv hd hcd
end
theorem iteF {A B:Prop} (h:B):if false = true then A else B:=by
  rw [if_neg Bool.false_ne_true]
  exact h
theorem iteT {A B:Prop} (h:A):if true = true then A else B:=by
  rw [if_pos rfl]
  exact h
theorem ite2 {c A B:Prop} [Decidable c] (h1:c→A) (h2:¬ c→B):if c then A else B:=by
  by_cases h:c
  · rw [if_pos h]
    exact h1 h
  · rw [if_neg h]
    exact h2 h
def Same (H H':Hp):Prop:=∀ b o,H b = some o→H' b = some o
theorem Same.refl (H:Hp):Same H H:=fun _ _ h=>h
theorem Same.trans {H H1 H2:Hp} (a:Same H H1) (b:Same H1 H2):Same H H2:=fun c o h=>b c o (a c o h)
theorem Same.free {H H':Hp} (e:Same H H') {l:Addr} (h:H' l = Option.none):H l = Option.none:=by
  cases q:H l with
  | none=>rfl
  | some o =>
    rw [e l o q] at h
    cases h
theorem Same.seq {K:PySem.W.Frag} {H H':Hp} {a:Addr} {xs:List V} (e:Same H H') (h:SqL K H a xs):SqL K H' a xs:=by
  rcases h with (h | ⟨o,h⟩) | h
  · exact .inl (.inl (e _ _ h))
  · exact .inl (.inr ⟨o,e _ _ h⟩)
  · exact .inr h
end L2
set_option maxHeartbeats 8000000
namespace L2
open PySem PySem.Spec PyProof.Rows
section
variable {X:Cx} {pins:List (Addr × Obj)} {σ:St} {H:Hp} {s:Shared}
theorem HOk.track {P:Program} {w:World} {H:Hp} {h:Heap} {a:Addr} {o:HO} (x:HOk P w H h) (hn:H a = none) (new:ObjOk P w (upd H a o) h a o):HOk P w (upd H a o) h:=fun b u e=>by
  by_cases hb:b = a
  · subst hb
    rw [upd_same] at e
    cases e
    exact new
  · rw [upd_ne hb] at e
    refine (x b u e).stay (fun _ _ _ q=>q) (fun c q=>?_) fun c xs q=>?_
    · rw [upd_ne (ne_of_none q hn)]; exact q
    · rw [upd_ne (ne_of_none q hn)]; exact q
theorem Inv.track {a:Addr} {o:HO} (I:Inv X pins σ H s) (hn:H a = none) (hL:a≠X.env.locals) (h0:X.s₀.heap.objs.size≤a) (hc:∀ x c,X.env.cells.lookup x = some c→c≠a) (hp:∀ p∈X.pn ++ pins,p.1≠a)
    (new:ObjOk X.prog X.w (upd H a o) s.heap a o):Inv X pins σ (upd H a o) s:=by
  have old:∀ b ob,X.s₀.heap.get? b = some ob→b≠a:=fun b ob e=>Nat.ne_of_lt (Nat.lt_of_lt_of_le (Heap.lt_size e) h0)
  refine ⟨I.ok,I.os,I.bare,⟨fun b ob e n=>I.base.keep b ob e n,fun b ob e n=>I.base.slot b ob e n,fun b ob e n hx=>?_,fun b ob e hx=>I.base.there b ob e hx,fun b xs e=>?_,fun b ob u e=>?_,fun b ps e=>?_⟩,I.loc,I.cell,?_,fun x c e=>?_,fun p hm=>?_,I.hok.track hn new,I.len⟩
  · rw [upd_ne (old b ob e)]; exact I.base.free b ob e n hx
  · have q:=I.base.tups b xs e
    rw [upd_ne (ne_of_none q hn)]; exact q
  · have q:=I.base.frzs b ob u e
    rw [upd_ne (ne_of_none q hn)]; exact q
  · obtain ⟨mo,q⟩:=I.base.tbls b ps e
    exact ⟨mo,by rw [upd_ne (ne_of_none q hn)]; exact q⟩
  · rw [upd_ne (Ne.symm hL)]; exact I.free
  · rw [upd_ne (hc x c e)]; exact I.freeC x c e
  · obtain ⟨z1,z2,z3⟩:=I.pin p hm
    exact ⟨z1,by rw [upd_ne (hp p hm)]; exact z2,z3⟩
end
def clo:List (Str × NameKind)→List (Str × Addr)→List (Str × Addr)→List (Str × Addr)
  | [],_,acc=>acc
  | (n,k) :: r,cells,acc=>clo r cells (if k == .free then (match cells.lookup n with | some c=>(n,c) :: acc | none=>acc) else acc)
theorem clo_sound (cells:List (Str × Addr)):∀ (names:List (Str × NameKind)) (acc:List (Str × Addr)),(∀ y c,acc.lookup y = some c→cells.lookup y = some c)→∀ y c,(clo names cells acc).lookup y = some c→cells.lookup y = some c
  | [],acc,h=>h
  | (n,k) :: r,acc,h=>by
    refine clo_sound cells r _ fun y c e=>?_
    cases hk:k == NameKind.free with
    | false=>rw [hk] at e; exact h y c e
    | true =>
      rw [hk,if_pos rfl] at e
      cases hc:cells.lookup n with
      | none=>rw [hc] at e; exact h y c e
      | some a =>
        rw [hc] at e
        have e':(((n,a) :: acc).lookup y) = some c:=e
        rw [List.lookup_cons] at e'
        cases hy:y == n with
        | true =>
          rw [hy] at e'
          have z:y = n:=by simpa using hy
          subst z
          rw [hc]; exact e'
        | false=>rw [hy] at e'; exact h y c e'
theorem clo_keeps (cells:List (Str × Addr)):∀ (names:List (Str × NameKind)) (acc:List (Str × Addr)) (y:Str),(acc.lookup y).isSome = true→((clo names cells acc).lookup y).isSome = true
  | [],_,_,h=>h
  | (n,k) :: r,acc,y,h=>by
    refine clo_keeps cells r _ y ?_
    cases hk:k == NameKind.free with
    | false=>exact h
    | true =>
      rw [if_pos rfl]
      cases hc:cells.lookup n with
      | none=>exact h
      | some a =>
        show (((n,a) :: acc).lookup y).isSome = true
        rw [List.lookup_cons]
        cases hy:y == n with
        | true=>rfl
        | false=>exact h
theorem clo_has (cells:List (Str × Addr)):∀ (names:List (Str × NameKind)) (acc:List (Str × Addr)) (y:Str),(y,NameKind.free)∈names→(cells.lookup y).isSome = true→((clo names cells acc).lookup y).isSome = true
  | [],_,_,h,_=>by cases h
  | (n,k) :: r,acc,y,h,hs=>by
    rcases List.mem_cons.mp h with e | h
    · cases e
      refine clo_keeps cells r _ n ?_
      show (((match cells.lookup n with | some c=>(n,c) :: acc | none=>acc)).lookup n).isSome = true
      cases hc:cells.lookup n with
      | none=>rw [hc] at hs; cases hs
      | some a =>
        show (((n,a) :: acc).lookup n).isSome = true
        rw [List.lookup_cons]
        simp
    · exact clo_has cells r _ y h hs
theorem clo_run {env:Env}:∀ (names:List (Str × NameKind)) (acc:List (Str × Addr)),(∀ y,(y,NameKind.free)∈names→(env.cells.lookup y).isSome = true) →
    (forIn names acc fun (x:Str × NameKind) (cs:List (Str × Addr))=>if (x.2 == NameKind.free) = true then do let c ← cellOf env x.1; pure (ForInStep.yield ((x.1,c) :: cs)) else pure (ForInStep.yield cs):Sem (List (Str × Addr))) = pure (clo names env.cells acc)
  | [],acc,_=>rfl
  | (n,k) :: r,acc,h=>by
    have ih:=fun acc'=>clo_run (env:=env) r acc' fun y hy=>h y (List.mem_cons_of_mem _ hy)
    rw [List.forIn_cons]
    cases hk:k == NameKind.free with
    | false =>
      show ((pure (ForInStep.yield acc):Sem _) >>= _) = _
      rw [pure_bind]
      show (forIn r acc _:Sem _) = _
      rw [ih acc]
      show pure (clo r env.cells acc) = pure (clo r env.cells (if (k == NameKind.free) = true then (match env.cells.lookup n with | some c=>(n,c) :: acc | none=>acc) else acc))
      rw [hk]; rfl
    | true =>
      have hkf:k = NameKind.free:=by simpa using hk
      subst hkf
      have hs:=h n List.mem_cons_self
      cases hc:env.cells.lookup n with
      | none=>rw [hc] at hs; cases hs
      | some a =>
        have hcell:cellOf env n = pure a:=by unfold cellOf; rw [hc]
        show ((cellOf env n >>= fun c=>(pure (ForInStep.yield ((n,c) :: acc)):Sem _)) >>= _) = _
        rw [hcell,pure_bind,pure_bind]
        show (forIn r ((n,a) :: acc) _:Sem _) = _
        rw [ih]
        show pure (clo r env.cells ((n,a) :: acc)) = pure (clo r env.cells (match env.cells.lookup n with | some c=>(n,c) :: acc | none=>acc))
        rw [hc]
theorem closure_eq {sc:Scope} {env:Env} (h:∀ y,(y,NameKind.free)∈sc.names→(env.cells.lookup y).isSome = true):closureFor sc env = pure (clo sc.names env.cells []):=by
  unfold closureFor
  have:=clo_run (env:=env) sc.names [] h
  simpa using this
structure LcOk (osc sc:Scope) (x:Str) (fv:List Str):Prop where
  kind:sc.kind = .function
  nocell:∀ y∈sc.names,y.2≠.cell
  names:∀ y∈sc.names,y.2 = .local→sc.names.lookup y.1 = some .local
  hx:sc.names.lookup x = some .local
  fr:∀ y∈sc.names,y.2 = .free→osc.names.lookup y.1 = some .cell∨osc.names.lookup y.1 = some .free
  fvs:∀ y∈fv,sc.names.lookup y = some .free∧(osc.names.lookup y = some .cell∨osc.names.lookup y = some .free)
  nd:(x :: fv).Nodup
abbrev Cx.blk (X:Cx) (sc:Scope) (cl:List (Str × Addr)) (C:Addr) (N:List Str) (s:Shared) (H:Hp) (fp:List Addr):Cx :=
  { X with N:=N,s₀:=s,H₀:=H,env:=compEnvC sc cl C X.env,outer:=X.stack,ex:=fp,fn:=fun _=>false,pn:=[],xe:=fun _ _=>False }
abbrev lcN (X:Cx) (x:Str) (js:List Nat):List Str:=x :: js.map fun j=>X.N.getD j ""
abbrev lcS (σ:St) (js:List Nat) (x:Option V):St:=x :: js.map fun j=>σ.getD j none
theorem relabel_free {env:Env}:∀ {names:List (Str × NameKind)} {y:Str} {k:NameKind},(names.map fun (n,k)=>if (k == NameKind.free && env.scope.kind == .function && env.kindOf n == some .cell) then (n,NameKind.cell) else (n,k)).lookup y = some k→(k = .cell∨k = .free)→(∀ z∈names,z.2≠.cell)→(y,NameKind.free)∈names
  | [],_,_,h,_,_=>by simp at h
  | (n,k') :: r,y,k,h,hk,hn=>by
    by_cases hc:(k' == NameKind.free && env.scope.kind == .function && env.kindOf n == some .cell) = true
    · have hk':k' = NameKind.free:=by
        rw [Bool.and_eq_true,Bool.and_eq_true] at hc
        simpa using hc.1.1
      subst hk'
      rw [List.map_cons] at h
      cases hy:y == n with
      | true =>
        have z:y = n:=by simpa using hy
        subst z
        exact List.mem_cons_self
      | false =>
        have h':List.lookup y ((if (NameKind.free == NameKind.free && env.scope.kind == .function && env.kindOf n == some .cell) = true then (n,NameKind.cell) else (n,NameKind.free)) :: (r.map fun (n,k)=>if (k == NameKind.free && env.scope.kind == .function && env.kindOf n == some .cell) then (n,NameKind.cell) else (n,k))) = some k:=h
        rw [if_pos hc,List.lookup_cons,hy] at h'
        exact List.mem_cons_of_mem _ (relabel_free h' hk fun z hz=>hn z (List.mem_cons_of_mem _ hz))
    · have h':List.lookup y ((if (k' == NameKind.free && env.scope.kind == .function && env.kindOf n == some .cell) = true then (n,NameKind.cell) else (n,k')) :: (r.map fun (n,k)=>if (k == NameKind.free && env.scope.kind == .function && env.kindOf n == some .cell) then (n,NameKind.cell) else (n,k))) = some k:=h
      rw [if_neg hc,List.lookup_cons] at h'
      cases hy:y == n with
      | true =>
        rw [hy] at h'
        cases h'
        have z:y = n:=by simpa using hy
        subst z
        rcases hk with e | e
        · exact absurd e (hn _ List.mem_cons_self)
        · subst e; exact List.mem_cons_self
      | false =>
        rw [hy] at h'
        exact List.mem_cons_of_mem _ (relabel_free h' hk fun z hz=>hn z (List.mem_cons_of_mem _ hz))
theorem relabel_fv {env:Env}:∀ {names:List (Str × NameKind)} {y:Str},names.lookup y = some .free→(names.map fun (n,k)=>if (k == NameKind.free && env.scope.kind == .function && env.kindOf n == some .cell) then (n,NameKind.cell) else (n,k)).lookup y = some .cell∨(names.map fun (n,k)=>if (k == NameKind.free && env.scope.kind == .function && env.kindOf n == some .cell) then (n,NameKind.cell) else (n,k)).lookup y = some .free
  | [],_,h=>by simp at h
  | (n,k') :: r,y,h=>by
    rw [List.lookup_cons] at h
    rw [List.map_cons]
    cases hy:y == n with
    | true =>
      rw [hy] at h
      cases h
      by_cases hc:(NameKind.free == NameKind.free && env.scope.kind == .function && env.kindOf n == some .cell) = true
      · refine .inl ?_
        show List.lookup y ((if (NameKind.free == NameKind.free && env.scope.kind == .function && env.kindOf n == some .cell) = true then (n,NameKind.cell) else (n,NameKind.free)) :: _) = _
        rw [if_pos hc,List.lookup_cons,hy]
      · refine .inr ?_
        show List.lookup y ((if (NameKind.free == NameKind.free && env.scope.kind == .function && env.kindOf n == some .cell) = true then (n,NameKind.cell) else (n,NameKind.free)) :: _) = _
        rw [if_neg hc,List.lookup_cons,hy]
    | false =>
      rw [hy] at h
      have ih:=relabel_fv (env:=env) h
      by_cases hc:(k' == NameKind.free && env.scope.kind == .function && env.kindOf n == some .cell) = true
      · show List.lookup y ((if (k' == NameKind.free && env.scope.kind == .function && env.kindOf n == some .cell) = true then (n,NameKind.cell) else (n,k')) :: _) = _∨List.lookup y ((if (k' == NameKind.free && env.scope.kind == .function && env.kindOf n == some .cell) = true then (n,NameKind.cell) else (n,k')) :: _) = _
        rw [if_pos hc,List.lookup_cons,hy]
        exact ih
      · show List.lookup y ((if (k' == NameKind.free && env.scope.kind == .function && env.kindOf n == some .cell) = true then (n,NameKind.cell) else (n,k')) :: _) = _∨List.lookup y ((if (k' == NameKind.free && env.scope.kind == .function && env.kindOf n == some .cell) = true then (n,NameKind.cell) else (n,k')) :: _) = _
        rw [if_neg hc,List.lookup_cons,hy]
        exact ih
section
variable {X:Cx} {sc osc:Scope} {x:Str} {js:List Nat}
end
end L2
namespace L2
open PySem PySem.Spec PyProof.Rows
abbrev lstObj (its:List Value) (n:Nat):Obj:={ cls:=.type "list", data:=.seq its.toArray n }
abbrev lcTests (ifs:List Expr) (env:Env):Sem Bool :=
  forIn ifs true fun c r=>if r = true then do let ok ← isTrue c env (eval c env); pure (ForInStep.yield ok) else pure (ForInStep.yield r)
def tLC (wi:TI) (js:List Nat) (tt:TT) (te:TE):TE:=fun σ H Q=>wi σ H fun J H1=>∃ W:Nat→Nat→List V→Hp→Prop,(∃ m,W 0 m [] H1)∧∀ i m ys H,W i m ys H →
  (J.stop i H∧∀ p,H p = none→Q (.ref p) (upd H p (.lst ys))) ∨
  (J.go i H∧ys.length < sizeLine∧∀ x H',J.yld i H x H'→tt (lcS σ js (some x)) H' fun b H2 =>
    if b = true then te (lcS σ js (some x)) H2 fun v H3=>∃ m',m' < m∧W (i + 1) m' (ys ++ [v]) H3 else ∃ m',m' < m∧W (i + 1) m' ys H2)
section
variable {X:Cx} {sc osc:Scope} {x:Str} {js:List Nat} {elt iter:Expr} {px pos:Pos} {ifs:List Expr} {wi:TI} {tt:TT} {te:TE}
theorem lc_loop {P:Program} {w:World} {A:Around} {R:Result→Shared→Prop} {st:Shared} {tg it acc} {cenv:Env} (Iv:Nat→Shared→Prop)
    (step:∀ k st,Iv k st→wpAny (model P w) A (pyNext it) (fun got s1=>match got with
      | none=>R (.ok .next) s1
      | some v=>wpAny (model P w) A (letOwnedTupleGo tg it v) (fun _ s2=>wpAny (model P w) A (assign tg cenv v) (fun _ s3 =>
          wpAny (model P w) A (lcTests ifs cenv) (fun ok s4=>if ok = true then wpAny (model P w) A (eval elt cenv) (fun y s5 =>
              wpAny (model P w) A (call (.builtin "list.append") [acc,y]) (fun _ s6=>∃ k',k' < k∧Iv k' s6) (notedBy (model P w) A cenv fun e z=>R (.error e) z) s5) (notedBy (model P w) A cenv fun e z=>R (.error e) z) s4
            else ∃ k',k' < k∧Iv k' s4) (notedBy (model P w) A cenv fun e z=>R (.error e) z) s3) (notedBy (model P w) A cenv fun e z=>R (.error e) z) s2) (notedBy (model P w) A cenv fun e z=>R (.error e) z) s1)
      (notedBy (model P w) A cenv fun e z=>R (.error e) z) st) (k0:Nat) (h0:Iv k0 st) :
    codeAny (model P w) A (.compLoop (.ListComp elt [⟨tg,iter,ifs,0⟩] sc pos) 0 it acc cenv) R st:=by
  refine codeAny_loop rfl Iv (fun k st hk=>?_) k0 h0
  show wpAny _ A ((compTurn (.ListComp elt [⟨tg,iter,ifs,0⟩] sc pos) 0 it acc cenv).onRaise (fun e=>do noteFrame e cenv; theTreesLotGoes e)) _ _ st
  refine wpAny_noted ?_
  rw [compTurn_list]
  refine wpAny_bind (wpAny_standAt (wpAny_bind (wpAny_mono (step k st hk) (fun got s1 h1=>?_) fun _ _ z=>z)))
  cases got with
  | none=>exact wpAny_pure h1
  | some v =>
    refine wpAny_bind (wpAny_mono h1 (fun _ s2 h2=>?_) fun _ _ z=>z)
    refine wpAny_bind (wpAny_mono h2 (fun _ s3 h3=>wpAny_bind (wpAny_mono h3 (fun ok s4 h4=>?_) fun _ _ z=>z)) fun _ _ z=>z)
    cases ok with
    | false=>exact wpAny_pure ⟨rfl,h4⟩
    | true=>exact wpAny_bind (wpAny_bind (wpAny_mono h4 (fun y s5 h5=>wpAny_bind (wpAny_mono h5 (fun _ s6 h6=>wpAny_pure (wpAny_pure ⟨rfl,h6⟩)) fun _ _ z=>z)) fun _ _ z=>z))
structure Own (X:Cx) (pins:List (Addr × Obj)) (H:Hp) (a:Addr):Prop where
  free:H a = none
  loc:a≠X.env.locals
  new:X.s₀.heap.objs.size≤a
  cel:∀ x c,X.env.cells.lookup x = some c→c≠a
  pin:∀ p∈X.pn ++ pins,p.1≠a
  fs:a ∉ X.fs
end
structure LcOkG (osc sc:Scope) (xs:List Str) (fv:List Str):Prop where
  kind:sc.kind = .function
  nocell:∀ y∈sc.names,y.2≠.cell
  names:∀ y∈sc.names,y.2 = .local→sc.names.lookup y.1 = some .local
  fr:∀ y∈sc.names,y.2 = .free→osc.names.lookup y.1 = some .cell∨osc.names.lookup y.1 = some .free
  fvs:∀ y∈fv,sc.names.lookup y = some .free∧(osc.names.lookup y = some .cell∨osc.names.lookup y = some .free)
abbrev lcG (X:Cx) (xs:List Str) (js:List Nat):List Str:=xs ++ js.map fun j=>X.N.getD j ""
abbrev lcT (σ:St) (js:List Nat) (os:List (Option V)):St:=os ++ js.map fun j=>σ.getD j none
def tLCG (wi:TI) (xs:List Str) (js:List Nat) (g:TG) (tt:TT) (te:TE):TE:=fun σ H Q=>wi σ H fun J H1=>∃ W:Nat→Nat→List V→Hp→Prop,(∃ m,W 0 m [] H1)∧∀ i m ys H,W i m ys H →
  (J.stop i H∧∀ p,H p = none→Q (.ref p) (upd H p (.lst ys))) ∨
  (J.go i H∧ys.length < sizeLine∧∀ x H',J.yld i H x H'→∀ o0:List (Option V),o0.length = xs.length→g x (lcT σ js o0) H' fun σ2 H1=>∃ o1,σ2 = lcT σ js o1∧o1.length = xs.length∧tt σ2 H1 fun b H2 =>
    if b = true then te σ2 H2 fun v H3=>∃ m',m' < m∧W (i + 1) m' (ys ++ [v]) H3 else ∃ m',m' < m∧W (i + 1) m' ys H2)
section
variable {X:Cx} {sc osc:Scope} {xs:List Str} {js:List Nat}
theorem blk_okG {pins:List (Addr × Obj)} {σ:St} {H:Hp} {s:Shared} {fp:List Addr} {C:Addr} (I:Inv X pins σ H s) (hosc:X.env.scope = osc) (L:LcOkG osc sc xs (js.map fun j=>X.N.getD j ""))
    (f2:∀ b∈fp,FpOk X pins H b) (lt:∀ b∈fp,b < s.heap.objs.size) (hC:s.heap.objs.size≤C):(X.blk sc (clo sc.names X.env.cells []) C (lcG X xs js) s H fp).Ok where
  mod:=I.ok.mod
  kind:=L.kind
  glob:=I.ok.glob
  blt:=I.ok.blt
  above:=hC
  inj:=fun y z c h1 h2=>I.ok.inj y z c (clo_sound _ _ [] (fun _ _ e=>by simp at e) y c h1) (clo_sound _ _ [] (fun _ _ e=>by simp at e) z c h2)
  has:=fun y hy=>by
    have hy':(relabel sc X.env).names.lookup y = some .cell∨(relabel sc X.env).names.lookup y = some .free:=hy
    have hm:(y,NameKind.free)∈sc.names:=by
      rcases hy' with e | e
      · exact relabel_free e (.inl rfl) L.nocell
      · exact relabel_free e (.inr rfl) L.nocell
    have ho:X.env.kindOf y = some .cell∨X.env.kindOf y = some .free:=by
      show X.env.scope.names.lookup y = _∨X.env.scope.names.lookup y = _
      rw [hosc]
      exact L.fr _ hm rfl
    obtain ⟨c,e⟩:=I.ok.has y ho
    exact Option.isSome_iff_exists.mp (clo_has _ _ [] y hm (by rw [e]; rfl))
  cab:=fun y c h=>by cases h
  hd:=I.ok.hd
  frames:=I.ok.frames
  stk:=.inl rfl
  exf:=fun b hb=>⟨Nat.ne_of_lt (Nat.lt_of_lt_of_le (lt b hb) hC),fun y c e=>(f2 b hb).2.2.2.2.1 y c (clo_sound _ _ [] (fun _ _ e=>by simp at e) y c e)⟩
  bs:=I.bs
  bsz:=Nat.le_trans I.ok.bsz I.sz
  noex:=fun b o e hb=>by
    rcases (f2 b hb).2.2.2.1 with z | z
    · exact I.ok.noex b o e z
    · exact absurd (Nat.lt_of_lt_of_le (Heap.lt_size (I.ok.bs b o e).1) z) (Nat.lt_irrefl _)
  exfs:=fun b hb hm=>by
    rcases List.mem_cons.mp (I.stkSub b hm) with z | z
    · exact (f2 b hb).2.1 z
    · exact (f2 b hb).2.2.1 z
  funs:=I.stack
  frf:=I.stkFree
end
section
variable {X:Cx} {sc osc:Scope} {xs:List Str} {js:List Nat} {tg:Expr} {g:TG} {elt iter:Expr} {px pos:Pos} {ifs:List Expr} {wi:TI} {tt:TT} {te:TE}
theorem lc_turnG {cl:List (Str × Addr)} {C D:Addr} {s₂:Shared} {H₂:Hp} {fp:List Addr} {pl:List (Addr × Obj)} {σ0:St} {H:Hp} {s:Shared} {u:Value} {v:V} {its:List Value} {n:Nat} {o0:List (Option V)} {E:Value→Shared→Prop}
    {Ny:V→Hp→Prop} {Nn:Hp→Prop}
    (hg:PG (X.blk sc cl C (lcG X xs js) s₂ H₂ fp) tg g)
    (I:Inv (X.blk sc cl C (lcG X xs js) s₂ H₂ fp) ((D,lstObj its n) :: pl) (lcT σ0 js o0) H s) (ru:RelV v u)
    (ht:∀ (pins:List (Addr × Obj)) (s':Shared) (σ':St) (H':Hp) (Q:Bool→Hp→Prop),Inv (X.blk sc cl C (lcG X xs js) s₂ H₂ fp) pins σ' H' s'→tt σ' H' Q →
      wpAny (model X.prog X.w) X.A (lcTests ifs (compEnvC sc cl C X.env)) (TP (X.blk sc cl C (lcG X xs js) s₂ H₂ fp) pins σ' Q) (fun _ _=>False) s')
    (he:PE (X.blk sc cl C (lcG X xs js) s₂ H₂ fp) elt te)
    (hlen:its.length < sizeLine) (hD0:s₂.heap.objs.size≤D) (hDC:D≠C) (hDc:∀ y c,cl.lookup y = some c→c≠D) (hDp:∀ p∈pl,p.1≠D)
    (h:g v (lcT σ0 js o0) H fun σ2 H1=>∃ o1,σ2 = lcT σ0 js o1∧o1.length = xs.length∧tt σ2 H1 fun b H2=>if b = true then te σ2 H2 Ny else Nn H2) :
    wpAny (model X.prog X.w) X.A (assign tg (compEnvC sc cl C X.env) u) (fun _ s2 =>
      wpAny (model X.prog X.w) X.A (lcTests ifs (compEnvC sc cl C X.env)) (fun ok s3 =>
        if ok = true then wpAny (model X.prog X.w) X.A (eval elt (compEnvC sc cl C X.env)) (fun y s4 =>
          wpAny (model X.prog X.w) X.A (call (.builtin "list.append") [.ref D,y]) (fun _ s5=>∃ z y' H5 o1,o1.length = xs.length∧Ny z H5∧RelV z y'∧Inv (X.blk sc cl C (lcG X xs js) s₂ H₂ fp) ((D,lstObj (its ++ [y']) (n + 1)) :: pl) (lcT σ0 js o1) H5 s5) E s4) E s3
        else ∃ H5 o1,o1.length = xs.length∧Nn H5∧Inv (X.blk sc cl C (lcG X xs js) s₂ H₂ fp) ((D,lstObj its n) :: pl) (lcT σ0 js o1) H5 s3) E s2) E s:=by
  refine wpAny_mono (hg _ s _ H v u _ I ru h) (fun _ s2 ⟨σ6,H6,I6,o1,e1,l1,h6⟩=>?_) fun _ _ z=>False.elim z
  subst e1
  refine wpAny_mono (ht _ s2 _ _ _ I6 h6) (fun ok s3 ⟨H7,I7,q7⟩=>?_) fun _ _ z=>False.elim z
  cases ok with
  | false =>
    rw [if_neg Bool.false_ne_true] at q7 ⊢
    exact ⟨H7,o1,l1,q7,I7⟩
  | true =>
    rw [if_pos rfl] at q7 ⊢
    refine wpAny_mono (he _ s3 _ H7 _ I7 q7) (fun y s4 ⟨z,H8,I8,r8,q8⟩=>?_) fun _ _ z=>False.elim z
    obtain ⟨p1,p2,p3,p4,p5⟩:=I8.pin (D,lstObj its n) (List.mem_append_right _ List.mem_cons_self)
    have p1':s4.heap.get? D = some { cls:=.type "list", data:=.seq its.toArray n }:=p1
    refine call_meets F.slot_list_append ⟨_,p1',rfl⟩ F.entry_list_append (F.args_list_append_2 _ _) (PySem.list_append D its.toArray n y (by rw [List.size_toArray]; omega)) ⟨p1',?_⟩
    have q:=PySem.IsL.update p1' (fun a=>a.push y)
    have sz:((its.toArray.push y).size == its.toArray.size) = false:=by simp
    have e3:(s4.heap.update D (Obj.mapSeq fun a=>a.push y)).get? D = some (lstObj (its ++ [y]) (n + 1)):=by
      have q':(s4.heap.update D (Obj.mapSeq fun a=>a.push y)).get? D = some { cls:=.type "list", data:=.seq (its.toArray.push y) (if ((its.toArray.push y).size == its.toArray.size) = true then n else n + 1) }:=q
      rw [q',sz,if_neg Bool.false_ne_true]
      simp
    have I9:Inv (X.blk sc cl C (lcG X xs js) s₂ H₂ fp) pl (lcT σ0 js o1) H8 s4:=I8.pins_of fun p hp=>I8.pin p (List.mem_append_right _ (List.mem_cons_of_mem _ hp))
    have oth:∀ b o,b≠D→s4.heap.get? b = some o→(s4.heap.update D (Obj.mapSeq fun a=>a.push y)).get? b = some o:=fun b o hb e=>(Heap.get?_update_other _ _ (Ne.symm hb)).trans e
    have I10:=I9.turned (t':=s4.toks) (h':=s4.heap.update D (Obj.mapSeq fun a=>a.push y)) (it:=D) oth p2 hDC (.inr hD0) hDc (fun p hp=>hDp p hp)
    refine ⟨z,y,H8,o1,l1,q8,r8,I10.pins_of fun p hp=>?_⟩
    rcases List.mem_cons.mp hp with e | e
    · subst e
      exact ⟨e3,p2,p3,p4,fun w hw=>by cases hw⟩
    · exact I10.pin p (List.mem_append_right _ e)
theorem lc_coreG {use:Option (Value→Sem Unit)} {QQ:Value→Shared→Prop} {Fin:List V→Hp→Prop} {pins:List (Addr × Obj)} {s:Shared} {σ:St} {H:Hp} (hosc:X.env.scope = osc) (L:LcOkG osc sc xs (js.map fun j=>X.N.getD j "")) (hc:X.calm = true) (hi:PI X tg iter wi) (hg:∀ (cl:List (Str × Addr)) (C:Addr) (s₂:Shared) (H₂:Hp) (fp:List Addr),PG (X.blk sc cl C (lcG X xs js) s₂ H₂ fp) tg g) (hjs:∀ j∈js,j < X.N.length)
    (ht:∀ (cl:List (Str × Addr)) (C:Addr) (s₂:Shared) (H₂:Hp) (fp:List Addr) (pins:List (Addr × Obj)) (s':Shared) (σ':St) (H':Hp) (Q:Bool→Hp→Prop),Inv (X.blk sc cl C (lcG X xs js) s₂ H₂ fp) pins σ' H' s'→tt σ' H' Q →
      wpAny (model X.prog X.w) X.A (lcTests ifs (compEnvC sc cl C X.env)) (TP (X.blk sc cl C (lcG X xs js) s₂ H₂ fp) pins σ' Q) (fun _ _=>False) s')
    (he:∀ (cl:List (Str × Addr)) (C:Addr) (s₂:Shared) (H₂:Hp) (fp:List Addr),PE (X.blk sc cl C (lcG X xs js) s₂ H₂ fp) elt te)
    (hs:∀ x,foldedSetIterable iter X.env x = pure x) (I:Inv X pins σ H s)
    (h:wi σ H fun J H1=>∃ W:Nat→Nat→List V→Hp→Prop,(∃ m,W 0 m [] H1)∧∀ i m ys H,W i m ys H→(J.stop i H∧Fin ys H) ∨
      (J.go i H∧ys.length < sizeLine∧∀ x H',J.yld i H x H'→∀ o0:List (Option V),o0.length = xs.length→g x (lcT σ js o0) H' fun σ2 H1=>∃ o1,σ2 = lcT σ js o1∧o1.length = xs.length∧tt σ2 H1 fun b H2 =>
        if b = true then te σ2 H2 fun v H3=>∃ m',m' < m∧W (i + 1) m' (ys ++ [v]) H3 else ∃ m',m' < m∧W (i + 1) m' ys H2))
    (hfin:∀ (D C:Addr) (s5:Shared) (H5:Hp) (ys:List V) (its:List Value) (k:Nat) (m5:Str→Option Value),Inv X pins σ H5 s5→Own X pins H5 D→Own X pins H5 C→D≠C→s5.heap.get? D = some (lstObj its k)→Vals ys its→ys.length≤sizeLine→s5.heap.Ns C m5→Fin ys H5 →
      compPost (model X.prog X.w) X.A X.xe use QQ (.ref D) C (.ok .next) s5) :
    wpAny (model X.prog X.w) X.A (comprehension (.ListComp elt [⟨tg,iter,ifs,0⟩] sc pos) sc X.env (firstIterPos [⟨tg,iter,ifs,0⟩] pos) (newList []) false (eval iter X.env) use) QQ X.xe s:=by
  have hcl:closureFor sc X.env = pure (clo sc.names X.env.cells []):=closure_eq fun y hy=>by
    have ho:X.env.kindOf y = some .cell∨X.env.kindOf y = some .free:=by
      show X.env.scope.names.lookup y = _∨X.env.scope.names.lookup y = _
      rw [hosc]
      exact L.fr _ hy rfl
    obtain ⟨c,e⟩:=I.ok.has y ho
    rw [e]; rfl
  refine wpAny_comprehension_free (use:=use) rfl hs hcl L.kind L.names (thn (hi pins s σ H _ I h) fun v s1 h1=>thn h1 fun itv s2 h2=>?_)
  obtain ⟨it,fp,tn,J,H2,e,I2,T,st2,f2,W,⟨m0,w0⟩,turn⟩:=h2
  subst e
  refine wpAny_newObj_type (wpAny_newFunctionEnv L.nocell (by intro y hy; simp at hy) (fun h₁ hns₁ hsb₁=>?_) L.kind)
  dsimp only at hns₁ hsb₁ ⊢
  generalize hG:s2.heap.push { cls:=.type "list", dict:=none,data:=.seq ([]:List Value).toArray } = G at hns₁ hsb₁ ⊢
  have hGs:G.objs.size = s2.heap.objs.size + 1:=by rw [← hG,Heap.size_push]
  have hCle:s2.heap.objs.size≤G.objs.size:=by rw [hGs]; exact Nat.le_succ _
  have hDC:s2.heap.objs.size≠G.objs.size:=by rw [hGs]; exact Nat.ne_of_lt (Nat.lt_succ_self _)
  have old:∀ b o,s2.heap.get? b = some o→h₁.get? b = some o:=fun b o e=>by
    have lt:=Heap.lt_size e
    refine hsb₁.extBut b o (Nat.ne_of_lt (Nat.lt_of_lt_of_le lt hCle)) (Heap.get?_push_of_some _ ?_)
    rw [← hG]
    exact Heap.get?_push_of_some _ e
  have hacc:h₁.get? s2.heap.objs.size = some (lstObj [] 0):=by
    refine hsb₁.extBut _ _ hDC (Heap.get?_push_of_some _ ?_)
    rw [← hG]
    exact Heap.get?_push_size _ rfl
  have lt:∀ b∈fp,b < s2.heap.objs.size:=fun b hb=>by
    obtain ⟨o,e,_⟩:=T.obj _ _ st2 b hb
    exact Heap.lt_size e
  have clS:∀ y c,(clo sc.names X.env.cells []).lookup y = some c→X.env.cells.lookup y = some c:=clo_sound _ _ [] (fun _ _ e=>by simp at e)
  have clLt:∀ y c,(clo sc.names X.env.cells []).lookup y = some c→c < s2.heap.objs.size:=fun y c e=>by
    obtain ⟨v,o,q,_⟩:=I2.cell y c (clS y c e)
    exact Heap.lt_size q
  have Bok:(X.blk sc (clo sc.names X.env.cells []) G.objs.size (lcG X xs js) s2 H2 fp).Ok:=blk_okG I2 hosc L f2 lt hCle
  have fresh:∀ a,s2.heap.objs.size≤a→H2 a = none:=fun a ha=>I2.hok.fresh ha
  have frs_lt:∀ b∈frs X.stack,b < s2.heap.objs.size:=fun b hb=>by
    rcases List.mem_cons.mp (I2.stkSub b hb) with z | z
    · rw [z]; exact I2.lt
    · refine Nat.lt_of_not_le fun q=>I2.nofs q z
  have B0:Inv (X.blk sc (clo sc.names X.env.cells []) G.objs.size (lcG X xs js) s2 H2 fp) [(s2.heap.objs.size,lstObj [] 0)] (lcT σ js (List.replicate xs.length none)) H2 { s2 with heap:=h₁,toks:=s2.toks + ([]:List (Str × Value)).length }:=by
    refine ⟨Bok,rfl,I2.bare,Un.kept old,⟨_,hns₁,fun i y v e1 e2 e3=>?_⟩,fun y c e=>?_,fresh _ hCle,fun y c e=>I2.freeC y c (clS y c e),fun p hp=>?_,I2.hok.kept old,?_⟩
    · by_cases hlt:i < xs.length
      · exfalso
        have e2'':(List.replicate xs.length (none:Option V) ++ js.map fun j=>σ.getD j none)[i]? = some (some v):=e2
        rw [List.getElem?_append_left (by rw [List.length_replicate]; exact hlt),List.getElem?_replicate,if_pos hlt] at e2''
        cases e2''
      · have e1':(js.map fun j=>X.N.getD j "")[i - xs.length]? = some y:=by
          have z:(xs ++ js.map fun j=>X.N.getD j "")[i]? = some y:=e1
          rw [List.getElem?_append_right (by omega)] at z
          exact z
        have e2':(js.map fun j=>σ.getD j none)[i - xs.length]? = some (some v):=by
          have z:(List.replicate xs.length (none:Option V) ++ js.map fun j=>σ.getD j none)[i]? = some (some v):=e2
          rw [List.getElem?_append_right (by rw [List.length_replicate]; omega),List.length_replicate] at z
          exact z
        have e1s:=e1'
        rw [List.getElem?_map] at e1' e2'
        cases hj:js[i - xs.length]? with
        | none=>rw [hj] at e1'; cases e1'
        | some j =>
          rw [hj] at e1' e2'
          have e4:X.N.getD j "" = y:=Option.some.inj e1'
          have e5:σ.getD j none = some v:=Option.some.inj e2'
          have hjl:=hjs j (List.mem_of_getElem? hj)
          have e6:X.N[j]? = some y:=by
            rw [List.getD_eq_getElem?_getD,List.getElem?_eq_getElem hjl] at e4
            rw [List.getElem?_eq_getElem hjl]
            exact congrArg some e4
          have e7:σ[j]? = some (some v):=by
            rw [List.getD_eq_getElem?_getD] at e5
            cases hq:σ[j]? with
            | none=>rw [hq] at e5; cases e5
            | some w=>rw [hq] at e5; exact congrArg some e5
          obtain ⟨hm0,hk⟩:=L.fvs y (List.mem_of_getElem? e1s)
          have hm:(y,NameKind.free)∈sc.names:=PySem.mem_of_lookup hm0
          have hk':X.env.kindOf y = some .cell∨X.env.kindOf y = some .free:=by
            show X.env.scope.names.lookup y = _∨X.env.scope.names.lookup y = _
            rw [hosc]; exact hk
          have hv:Vis X.env.scope y:=by rcases hk' with z | z; exact .inr (.inl z); exact .inr (.inr z)
          obtain ⟨m,hn,hl⟩:=I2.loc
          obtain ⟨u,r,l⟩:=hl j y v e6 e7 hv
          refine ⟨u,r,.inr ?_⟩
          rcases l with ⟨z,_⟩ | ⟨_,c,hc1,hc2⟩
          · rw [z] at hk'; rcases hk' with q | q <;> cases q
          · have hs2:((clo sc.names X.env.cells []).lookup y).isSome = true:=clo_has _ _ [] y hm (by rw [hc1]; rfl)
            obtain ⟨c',hc'⟩:=Option.isSome_iff_exists.mp hs2
            have hcc:c' = c:=by have:=clS y c' hc'; rw [hc1] at this; exact (Option.some.inj this).symm
            subst hcc
            obtain ⟨o,ho,hd⟩:=hc2
            exact ⟨relabel_fv hm0,c',hc',o,old _ o ho,hd⟩
    · obtain ⟨v,o,q,d⟩:=I2.cell y c (clS y c e)
      exact ⟨v,o,old _ o q,d⟩
    · have e:p = (s2.heap.objs.size,lstObj [] 0):=by simpa using hp
      subst e
      exact ⟨hacc,fresh _ (Nat.le_refl _),hDC,fun z=>Nat.lt_irrefl _ (frs_lt _ z),fun w hw=>by cases hw⟩
    · show _ = (lcG X xs js).length
      simp
  have stat:∀ {H':Hp} {pl:List (Addr × Obj)},(∀ b∈fp,H' b = none)→(∀ p∈pl,p.1 = s2.heap.objs.size)→∀ b∈fp,FpOk (X.blk sc (clo sc.names X.env.cells []) G.objs.size (lcG X xs js) s2 H2 fp) pl H' b:=fun hn hp b hb =>
    ⟨hn b hb,(Bok.exf b hb).1,Bok.exfs b hb,.inl hb,(Bok.exf b hb).2,fun p hm=>by
      rw [hp p (by simpa using hm)]
      exact Ne.symm (Nat.ne_of_lt (lt b hb))⟩
  have loop:∀ s3:Shared,s3 = { s2 with heap:=h₁,toks:=s2.toks + ([]:List (Str × Value)).length } →
      codeAny (model X.prog X.w) X.A (.compLoop (.ListComp elt [⟨tg,iter,ifs,0⟩] sc pos) 0 (.ref it) (.ref s2.heap.objs.size) (compEnvC sc (clo sc.names X.env.cells []) G.objs.size X.env))
        (compPost (model X.prog X.w) X.A X.xe use QQ (.ref s2.heap.objs.size) G.objs.size) s3:=by
    rintro s3 rfl
    refine lc_loop (fun n s'=>∃ i ys its k o0 H',o0.length = xs.length∧Inv (X.blk sc (clo sc.names X.env.cells []) G.objs.size (lcG X xs js) s2 H2 fp) [(s2.heap.objs.size,lstObj its k)] (lcT σ js o0) H' s'∧tn i s'.heap∧(∀ b∈fp,H' b = none)∧Vals ys its∧ys.length≤sizeLine∧W i n ys H') ?_ m0
      ⟨0,[],[],0,List.replicate xs.length none,H2,List.length_replicate,B0,T.keep _ _ _ st2 fun b _ o e=>old b o e,fun b hb=>(f2 b hb).1,.nil,Nat.zero_le _,w0⟩
    rintro n s4 ⟨i,ys,its,k,o0,H4,lo0,I4,st4,fr4,vs4,z4,w4⟩
    have one:∀ p∈[(s2.heap.objs.size,lstObj its k)],p.1 = s2.heap.objs.size:=fun p hp=>by
      have e:p = (s2.heap.objs.size,lstObj its k):=by simpa using hp
      rw [e]
    rcases turn i n ys H4 w4 with ⟨stop,qn⟩ | ⟨go,zl,step⟩
    · refine thn (T.done (X.blk sc (clo sc.names X.env.cells []) G.objs.size (lcG X xs js) s2 H2 fp) rfl rfl rfl hc i _ s4 _ H4 _ I4 (stat fr4 one) st4 stop) fun r s5 ⟨hr,I5⟩=>?_
      subst hr
      obtain ⟨m5,hn5,_⟩:=I5.loc
      obtain ⟨p1,p2,p3,p4,p5⟩:=I5.pin (s2.heap.objs.size,lstObj its k) (by simp)
      have ch:∀ b∈fp,(b∈X.ex∨X.s₀.heap.objs.size≤b)∧b≠X.env.locals∧(∀ x c,X.env.cells.lookup x = some c→c≠b)∧∀ p∈X.pn ++ pins,p.1≠b:=fun b hb =>
        ⟨(f2 b hb).2.2.2.1,(f2 b hb).2.1,(f2 b hb).2.2.2.2.1,(f2 b hb).2.2.2.2.2⟩
      have J1:Inv X pins σ H4 s5:=I2.call' I5.os I5.base I5.hok I5.bare ch
      have ltp:∀ p∈X.pn ++ pins,p.1 < s2.heap.objs.size:=fun p hp=>Heap.lt_size (I2.pin p hp).1
      have ltc:∀ y c,X.env.cells.lookup y = some c→c < s2.heap.objs.size:=fun y c e=>by
        obtain ⟨v,o,q,_⟩:=I2.cell y c e
        exact Heap.lt_size q
      have s0:X.s₀.heap.objs.size≤s2.heap.objs.size:=I2.sz
      have own:∀ a,s2.heap.objs.size≤a→H4 a = none→Own X pins H4 a:=fun a ha hn=>⟨hn,Ne.symm (Nat.ne_of_lt (Nat.lt_of_lt_of_le I2.lt ha)),Nat.le_trans s0 ha,fun y c e=>Nat.ne_of_lt (Nat.lt_of_lt_of_le (ltc y c e) ha),
        fun p hp=>Nat.ne_of_lt (Nat.lt_of_lt_of_le (ltp p hp) ha),I2.nofs ha⟩
      exact hfin _ _ s5 H4 ys its k m5 J1 (own _ (Nat.le_refl _) p2) (own _ hCle I5.free) hDC p1 vs4 z4 hn5 qn
    · refine thn (T.item (X.blk sc (clo sc.names X.env.cells []) G.objs.size (lcG X xs js) s2 H2 fp) rfl rfl rfl hc i _ s4 _ H4 _ I4 (stat fr4 one) st4 go) fun r s5 ⟨u,hr,h5⟩=>?_
      subst hr
      refine wpAny_mono h5 (fun _ s5' ⟨v,H6,I6,r6,y6,st6,fr6⟩=>?_) fun _ _ z=>z
      have I7:=I6.pinned (stat fr6 one) (T.obj _ _ st6)
      have ndis:∀ p∈pinsAt fp s5'.heap,p.1≠s2.heap.objs.size:=fun p hp=>Nat.ne_of_lt (lt _ (of_pinsAt hp).1)
      have lenE:=vs4.length
      have back:∀ {its':List Value} {k':Nat} {H7:Hp} {s7:Shared} {ys':List V} {m':Nat} {o1:List (Option V)},o1.length = xs.length→Inv (X.blk sc (clo sc.names X.env.cells []) G.objs.size (lcG X xs js) s2 H2 fp) ((s2.heap.objs.size,lstObj its' k') :: pinsAt fp s5'.heap) (lcT σ js o1) H7 s7 →
          Vals ys' its'→ys'.length≤sizeLine→m' < n→W (i + 1) m' ys' H7→∃ m,m < n∧∃ i ys its k o0 H',o0.length = xs.length∧Inv (X.blk sc (clo sc.names X.env.cells []) G.objs.size (lcG X xs js) s2 H2 fp) [(s2.heap.objs.size,lstObj its k)] (lcT σ js o0) H' s7∧tn i s7.heap∧(∀ b∈fp,H' b = none)∧Vals ys its∧ys.length≤sizeLine∧W i m ys H':=by
        intro its' k' H7 s7 ys' m' o1 l1 J vs' z' hm w'
        refine ⟨m',hm,i + 1,ys',its',k',o1,H7,l1,J.pins_of fun p hp=>J.pin p (List.mem_append_right _ (by simp at hp; simp [hp])),?_,?_,vs',z',w'⟩
        · exact T.keep _ _ _ st6 fun b hb o e=>(J.pin (b,o) (List.mem_append_right _ (List.mem_cons_of_mem _ (mem_pinsAt hb e)))).1
        · intro b hb
          obtain ⟨o,e,_⟩:=T.obj _ _ st6 b hb
          exact (J.pin (b,o) (List.mem_append_right _ (List.mem_cons_of_mem _ (mem_pinsAt hb e)))).2.1
      refine wpAny_mono (lc_turnG (X:=X) (sc:=sc) (xs:=xs) (js:=js) (tg:=tg) (g:=g) (elt:=elt) (ifs:=ifs) (tt:=tt) (te:=te) (D:=s2.heap.objs.size) (its:=its) (n:=k) (pl:=pinsAt fp s5'.heap)
        (hg _ _ _ _ _) I7 r6 (ht _ _ _ _ _) (he _ _ _ _ _) (by omega) (Nat.le_refl _) hDC (fun y c e=>Nat.ne_of_lt (clLt y c e)) ndis (step v H6 y6 o0 lo0)) (fun _ s6 h6=>?_) fun _ _ z=>z
      refine wpAny_mono h6 (fun ok s7 h7=>?_) fun _ _ z=>z
      cases ok with
      | false =>
        rw [if_neg Bool.false_ne_true] at h7 ⊢
        obtain ⟨H7,o1,l1,⟨m',hm,w'⟩,J⟩:=h7
        exact back l1 J vs4 z4 hm w'
      | true =>
        rw [if_pos rfl] at h7 ⊢
        refine wpAny_mono h7 (fun y s8 h8=>?_) fun _ _ z=>z
        refine wpAny_mono h8 (fun _ s9 h9=>?_) fun _ _ z=>z
        obtain ⟨z,y',H9,o1,l1,⟨m',hm,w'⟩,rz,J⟩:=h9
        refine back l1 J (vs4.append (.cons rz .nil)) ?_ hm w'
        rw [List.length_append,List.length_singleton]
        omega
  exact codeAny_compStart_list (loop _ rfl) (T.self _ 0 _ _ _ (T.keep _ _ _ st2 fun b _ o e=>old b o e) (loop _ rfl))
end
section
variable {X:Cx} {sc osc:Scope} {x:Str} {js:List Nat} {elt iter:Expr} {px pos:Pos} {ifs:List Expr} {wi:TI} {tt:TT} {te:TE}
theorem lc_core {use:Option (Value→Sem Unit)} {QQ:Value→Shared→Prop} {Fin:List V→Hp→Prop} {pins:List (Addr × Obj)} {s:Shared} {σ:St} {H:Hp} (hosc:X.env.scope = osc) (L:LcOk osc sc x (js.map fun j=>X.N.getD j "")) (hc:X.calm = true) (hi:PI X (.Name x px) iter wi) (hjs:∀ j∈js,j < X.N.length)
    (ht:∀ (cl:List (Str × Addr)) (C:Addr) (s₂:Shared) (H₂:Hp) (fp:List Addr) (pins:List (Addr × Obj)) (s':Shared) (σ':St) (H':Hp) (Q:Bool→Hp→Prop),Inv (X.blk sc cl C (lcN X x js) s₂ H₂ fp) pins σ' H' s'→tt σ' H' Q →
      wpAny (model X.prog X.w) X.A (lcTests ifs (compEnvC sc cl C X.env)) (TP (X.blk sc cl C (lcN X x js) s₂ H₂ fp) pins σ' Q) (fun _ _=>False) s')
    (he:∀ (cl:List (Str × Addr)) (C:Addr) (s₂:Shared) (H₂:Hp) (fp:List Addr),PE (X.blk sc cl C (lcN X x js) s₂ H₂ fp) elt te)
    (hs:∀ x,foldedSetIterable iter X.env x = pure x) (I:Inv X pins σ H s)
    (h:wi σ H fun J H1=>∃ W:Nat→Nat→List V→Hp→Prop,(∃ m,W 0 m [] H1)∧∀ i m ys H,W i m ys H→(J.stop i H∧Fin ys H) ∨
      (J.go i H∧ys.length < sizeLine∧∀ x H',J.yld i H x H'→tt (lcS σ js (some x)) H' fun b H2 =>
        if b = true then te (lcS σ js (some x)) H2 fun v H3=>∃ m',m' < m∧W (i + 1) m' (ys ++ [v]) H3 else ∃ m',m' < m∧W (i + 1) m' ys H2))
    (hfin:∀ (D C:Addr) (s5:Shared) (H5:Hp) (ys:List V) (its:List Value) (k:Nat) (m5:Str→Option Value),Inv X pins σ H5 s5→Own X pins H5 D→Own X pins H5 C→D≠C→s5.heap.get? D = some (lstObj its k)→Vals ys its→ys.length≤sizeLine→s5.heap.Ns C m5→Fin ys H5 →
      compPost (model X.prog X.w) X.A X.xe use QQ (.ref D) C (.ok .next) s5) :
    wpAny (model X.prog X.w) X.A (comprehension (.ListComp elt [⟨.Name x px,iter,ifs,0⟩] sc pos) sc X.env (firstIterPos [⟨.Name x px,iter,ifs,0⟩] pos) (newList []) false (eval iter X.env) use) QQ X.xe s:=by
  have e:(fun (J:It) (H1:Hp)=>∃ W:Nat→Nat→List V→Hp→Prop,(∃ m,W 0 m [] H1)∧∀ i m ys H,W i m ys H→(J.stop i H∧Fin ys H) ∨
      (J.go i H∧ys.length < sizeLine∧∀ x H',J.yld i H x H'→tt (lcS σ js (some x)) H' fun b H2 =>
        if b = true then te (lcS σ js (some x)) H2 fun v H3=>∃ m',m' < m∧W (i + 1) m' (ys ++ [v]) H3 else ∃ m',m' < m∧W (i + 1) m' ys H2)) =
      (fun (J:It) (H1:Hp)=>∃ W:Nat→Nat→List V→Hp→Prop,(∃ m,W 0 m [] H1)∧∀ i m ys H,W i m ys H→(J.stop i H∧Fin ys H) ∨
      (J.go i H∧ys.length < sizeLine∧∀ y H',J.yld i H y H'→∀ o0:List (Option V),o0.length = [x].length→gName 0 y (lcT σ js o0) H' fun σ2 H1=>∃ o1,σ2 = lcT σ js o1∧o1.length = [x].length∧tt σ2 H1 fun b H2 =>
        if b = true then te σ2 H2 fun v H3=>∃ m',m' < m∧W (i + 1) m' (ys ++ [v]) H3 else ∃ m',m' < m∧W (i + 1) m' ys H2)):=by
    funext J H1
    refine propext ⟨fun ⟨W,w0,w1⟩=>⟨W,w0,fun i m ys H hw=>?_⟩,fun ⟨W,w0,w1⟩=>⟨W,w0,fun i m ys H hw=>?_⟩⟩
    · rcases w1 i m ys H hw with a | ⟨a,b,c⟩
      · exact .inl a
      · refine .inr ⟨a,b,fun y H' hy o0 ho=>?_⟩
        match o0,ho with
        | [o],_=>exact ⟨[some y],rfl,rfl,c y H' hy⟩
    · rcases w1 i m ys H hw with a | ⟨a,b,c⟩
      · exact .inl a
      · refine .inr ⟨a,b,fun y H' hy=>?_⟩
        obtain ⟨o1,e1,e2,e3⟩:=c y H' hy [none] rfl
        exact e3
  rw [e] at h
  exact lc_coreG (xs:=[x]) (g:=gName 0) hosc ⟨L.kind,L.nocell,L.names,L.fr,L.fvs⟩ hc hi (fun cl C s₂ H₂ fp=>pg_name (X:=X.blk sc cl C (lcG X [x] js) s₂ H₂ fp) L.nd rfl (.inl (lookup_relabel_local L.hx)) (.inr (lookup_relabel_local L.hx))) hjs ht he hs I h hfin
theorem pe_lcT (hosc:X.env.scope = osc) (L:LcOk osc sc x (js.map fun j=>X.N.getD j "")) (hc:X.calm = true) (hi:PI X (.Name x px) iter wi) (hjs:∀ j∈js,j < X.N.length)
    (ht:∀ (cl:List (Str × Addr)) (C:Addr) (s₂:Shared) (H₂:Hp) (fp:List Addr) (pins:List (Addr × Obj)) (s':Shared) (σ':St) (H':Hp) (Q:Bool→Hp→Prop),Inv (X.blk sc cl C (lcN X x js) s₂ H₂ fp) pins σ' H' s'→tt σ' H' Q →
      wpAny (model X.prog X.w) X.A (lcTests ifs (compEnvC sc cl C X.env)) (TP (X.blk sc cl C (lcN X x js) s₂ H₂ fp) pins σ' Q) (fun _ _=>False) s')
    (he:∀ (cl:List (Str × Addr)) (C:Addr) (s₂:Shared) (H₂:Hp) (fp:List Addr),PE (X.blk sc cl C (lcN X x js) s₂ H₂ fp) elt te)
    (hs:∀ x,foldedSetIterable iter X.env x = pure x:=by intro _; rfl) :
    PE X (.ListComp elt [⟨.Name x px,iter,ifs,0⟩] sc pos) (tLC wi js tt te):=by
  intro pins s σ H Q I h
  rw [eval_ListComp]
  refine lc_core (use:=none) (Fin:=fun ys H=>∀ p,H p = none→Q (.ref p) (upd H p (.lst ys))) hosc L hc hi hjs ht he hs I h fun D C s5 H5 ys its k m5 J oD oC hDC p1 vs z hn fin=>?_
  refine ⟨m5,hn,fun h' hsb=>?_⟩
  have J2:Inv X pins σ H5 { s5 with heap:=h',toks:=s5.toks }:=J.turned (it:=C) (fun b o hb e=>hsb.extBut b o hb e) oC.free oC.loc (.inr oC.new) oC.cel oC.pin
  have p1':h'.get? D = some (lstObj its k):=hsb.extBut _ _ hDC p1
  have J3:Inv X pins σ (upd H5 D (.lst ys)) { s5 with heap:=h',toks:=s5.toks }:=J2.track oD.free oD.loc oD.new oD.cel oD.pin ⟨z,its,k,vs,p1'⟩
  exact ⟨.ref D,_,J3,rfl,fin D oD.free⟩
def sLC (i:Nat) (wi:TI) (js:List Nat) (tt:TT) (te:TE):TS:=fun D σ H=>tLC wi js tt te σ H fun v H1=>D.nx (σ.set i (some v)) H1
theorem ps_setLC {i:Nat} {y:Str} {py spos:Pos} (hN:X.N.Nodup) (hy:X.N[i]? = some y) (hl:Loc X.env.scope y) (hf:X.fn y = true∨X.env.scope.names.lookup y = some .local)
    (hosc:X.env.scope = osc) (L:LcOk osc sc x (js.map fun j=>X.N.getD j "")) (hc:X.calm = true) (hi:PI X (.Name x px) iter wi) (hjs:∀ j∈js,j < X.N.length)
    (ht:∀ (cl:List (Str × Addr)) (C:Addr) (s₂:Shared) (H₂:Hp) (fp:List Addr) (pins:List (Addr × Obj)) (s':Shared) (σ':St) (H':Hp) (Q:Bool→Hp→Prop),Inv (X.blk sc cl C (lcN X x js) s₂ H₂ fp) pins σ' H' s'→tt σ' H' Q →
      wpAny (model X.prog X.w) X.A (lcTests ifs (compEnvC sc cl C X.env)) (TP (X.blk sc cl C (lcN X x js) s₂ H₂ fp) pins σ' Q) (fun _ _=>False) s')
    (he:∀ (cl:List (Str × Addr)) (C:Addr) (s₂:Shared) (H₂:Hp) (fp:List Addr),PE (X.blk sc cl C (lcN X x js) s₂ H₂ fp) elt te)
    (hsw:swapsWith (.ListComp elt [⟨.Name x px,iter,ifs,0⟩] sc pos) (some (.Name y py)) spos.line X.env = pure true) (hs:∀ x,foldedSetIterable iter X.env x = pure x:=by intro _; rfl) :
    PS X (.Assign [.Name y py] (.ListComp elt [⟨.Name x px,iter,ifs,0⟩] sc pos) spos) (sLC i wi js tt te):=by
  intro pins s σ H D I h
  rw [exec_Assign_Name_used _ _ _ _ hsw]
  refine wpAny_bind (wpAny_standAt (wpAny_bind ?_))
  show wpAny _ _ (do let _ ← comprehension (.ListComp elt [⟨.Name x px,iter,ifs,0⟩] sc pos) sc X.env _ (newList []) false (eval iter X.env) (some (assign (.Name y py) X.env))) _ _ s
  have pg:=pg_name (X:=X) (i:=i) (x:=y) (pos:=py) hN hy hl hf
  refine wpAny_bind (wpAny_mono (lc_core (use:=some (assign (.Name y py) X.env)) (QQ:=fun _ z=>SP X pins D .next z) (Fin:=fun ys H=>∀ p,H p = none→D.nx (σ.set i (some (.ref p))) (upd H p (.lst ys))) hosc L hc hi hjs ht he hs I h fun A C s5 H5 ys its k m5 J oD oC hDC p1 vs z hn fin=>?_) (fun _ z hq=>wpAny_pure (wpAny_pure hq)) fun _ _ e=>e)
  have J1:Inv X pins σ (upd H5 A (.lst ys)) s5:=J.track oD.free oD.loc oD.new oD.cel oD.pin ⟨z,its,k,vs,p1⟩
  obtain ⟨oc,es,ep,hC,hd,hr⟩:=hn
  have nocell:∀ v,oc.data≠.cell v:=fun v q=>by rw [hd] at q; cases q
  have hCA:C≠A:=Ne.symm hDC
  have fC:(upd H5 A (.lst ys)) C = none:=by rw [upd_ne hCA]; exact oC.free
  have J2:Inv X (pins ++ [(C,oc)]) σ (upd H5 A (.lst ys)) s5:=J1.pins_of fun p hp=>(List.mem_append.mp hp).elim (fun q=>J1.pin p (List.mem_append_right _ q)) fun q=>by
    have e:p = (C,oc):=by simpa using q
    subst e
    exact ⟨hC,fC,oC.loc,oC.fs,nocell⟩
  refine wpAny_mono (pg _ s5 σ _ (.ref A) (.ref A) (fun σ6 H6=>σ6 = σ.set i (some (.ref A))∧H6 = upd H5 A (.lst ys)) J2 rfl ⟨rfl,rfl⟩) (fun _ s6 ⟨σ6,H6,I6,e1,e2⟩=>?_) fun _ _ e=>e
  subst e1 e2
  obtain ⟨c1,c2,_⟩:=I6.pin (C,oc) (List.mem_append_right _ (List.mem_append_right _ (by simp)))
  refine ⟨m5,⟨oc,es,ep,c1,hd,hr⟩,fun h' hsb=>?_⟩
  have J3:Inv X pins (σ.set i (some (.ref A))) (upd H5 A (.lst ys)) s6:=I6.pins_of fun p hp=>I6.pin p (List.mem_append_right _ (List.mem_append_left _ hp))
  have J4:Inv X pins (σ.set i (some (.ref A))) (upd H5 A (.lst ys)) { s6 with heap:=h',toks:=s6.toks }:=J3.turned (it:=C) (fun b o hb e=>hsb.extBut b o hb e) c2 oC.loc (.inr oC.new) oC.cel oC.pin
  exact ⟨_,_,J4,fin A oD.free⟩
end
end L2
namespace L2
open PySem PySem.Spec PyProof.Rows
section
variable {X:Cx}
def tYes:TT:=fun _ H Q=>Q true H
theorem pe_lc0 {sc osc:Scope} {x:Str} {js:List Nat} {elt iter:Expr} {px pos:Pos} {wi:TI} {te:TE} (hosc:X.env.scope = osc) (L:LcOk osc sc x (js.map fun j=>X.N.getD j "")) (hc:X.calm = true) (hi:PI X (.Name x px) iter wi) (hjs:∀ j∈js,j < X.N.length)
    (he:∀ (cl:List (Str × Addr)) (C:Addr) (s₂:Shared) (H₂:Hp) (fp:List Addr),PE (X.blk sc cl C (lcN X x js) s₂ H₂ fp) elt te)
    (hs:∀ x,foldedSetIterable iter X.env x = pure x:=by intro _; rfl) :
    PE X (.ListComp elt [⟨.Name x px,iter,[],0⟩] sc pos) (tLC wi js tYes te) :=
  pe_lcT hosc L hc hi hjs (fun cl C s₂ H₂ fp pins s' σ' H' Q I h=>wpAny_pure ⟨H',I,h⟩) he hs
theorem pe_lc1 {sc osc:Scope} {x:Str} {js:List Nat} {elt iter c:Expr} {px pos:Pos} {wi:TI} {te:TE} {tt:TT} (hosc:X.env.scope = osc) (L:LcOk osc sc x (js.map fun j=>X.N.getD j "")) (hc:X.calm = true) (hi:PI X (.Name x px) iter wi) (hjs:∀ j∈js,j < X.N.length)
    (ht:∀ (cl:List (Str × Addr)) (C:Addr) (s₂:Shared) (H₂:Hp) (fp:List Addr),PT (X.blk sc cl C (lcN X x js) s₂ H₂ fp) c tt)
    (he:∀ (cl:List (Str × Addr)) (C:Addr) (s₂:Shared) (H₂:Hp) (fp:List Addr),PE (X.blk sc cl C (lcN X x js) s₂ H₂ fp) elt te)
    (hs:∀ x,foldedSetIterable iter X.env x = pure x:=by intro _; rfl) :
    PE X (.ListComp elt [⟨.Name x px,iter,[c],0⟩] sc pos) (tLC wi js tt te) :=
  pe_lcT hosc L hc hi hjs (fun cl C s₂ H₂ fp pins s' σ' H' Q I h=>wpAny_tests_one (ht cl C s₂ H₂ fp pins s' σ' H' Q I h)) he hs
theorem lc_list {K:PySem.W.Frag} {a:Addr} {xs:List V} {σ:St} {js:List Nat} {tt:TT} {te:TE} {H:Hp} {Qf:Addr→Hp→List V→Prop} (Pv:Nat→List V→Hp→Prop) (h0:Pv 0 [] H) (hz:xs.length≤sizeLine)
    (hl:∀ i ys H,i≤xs.length→Pv i ys H→SqL K H a xs∧ys.length≤i)
    (hs:∀ i x ys H,xs[i]? = some x→Pv i ys H→tt (lcS σ js (some x)) H fun b H2=>if b = true then te (lcS σ js (some x)) H2 fun v H3=>Pv (i + 1) (ys ++ [v]) H3 else Pv (i + 1) ys H2)
    (mt:∀ σ H Q Q',(∀ b H1,Q b H1→Q' b H1)→tt σ H Q→tt σ H Q') (me:∀ σ H Q Q',(∀ v H1,Q v H1→Q' v H1)→te σ H Q→te σ H Q')
    (hd:∀ ys H p,Pv xs.length ys H→H p = none→Qf p H ys) :
    ∃ W:Nat→Nat→List V→Hp→Prop,(∃ m,W 0 m [] H)∧∀ i m ys H,W i m ys H →
      ((Itl K a).stop i H∧∀ p,H p = none→Qf p H ys) ∨
      ((Itl K a).go i H∧ys.length < sizeLine∧∀ x H',(Itl K a).yld i H x H'→tt (lcS σ js (some x)) H' fun b H2 =>
        if b = true then te (lcS σ js (some x)) H2 fun v H3=>∃ m',m' < m∧W (i + 1) m' (ys ++ [v]) H3 else ∃ m',m' < m∧W (i + 1) m' ys H2):=by
  refine ⟨fun i m ys H=>m = xs.length - i∧i≤xs.length∧Pv i ys H,⟨xs.length,by simp,Nat.zero_le _,h0⟩,?_⟩
  rintro i m ys H ⟨rfl,hi,p⟩
  obtain ⟨q,hy⟩:=hl i ys H hi p
  by_cases hlt:i < xs.length
  · refine .inr ⟨⟨xs,xs[i],q,by simp [hlt]⟩,by omega,fun x H' y=>?_⟩
    obtain ⟨e,y⟩:=y
    subst e
    refine mt _ _ _ _ (fun b H2 h2=>?_) (hs i x ys _ (y xs q) p)
    cases b with
    | true =>
      rw [if_pos rfl] at h2 ⊢
      exact me _ _ _ _ (fun v H3 h3=>⟨_,by omega,rfl,hlt,h3⟩) h2
    | false =>
      rw [if_neg Bool.false_ne_true] at h2 ⊢
      exact ⟨_,by omega,rfl,hlt,h2⟩
  · have e:i = xs.length:=by omega
    subst e
    exact .inl ⟨⟨xs,q,Nat.le_refl _⟩,fun pp hp=>hd ys H pp p hp⟩
theorem lc_tup {K:PySem.W.Frag} {a:Addr} {xs:List V} {σ:St} {js:List Nat} {tt:TT} {te:TE} {H:Hp} {Qf:Addr→Hp→List V→Prop} (Pv:Nat→List V→Hp→Prop) (h0:Pv 0 [] H) (hz:xs.length≤sizeLine)
    (hl:∀ i ys H,i≤xs.length→Pv i ys H→SqT K H a xs∧ys.length≤i)
    (hs:∀ i x ys H,xs[i]? = some x→Pv i ys H→tt (lcS σ js (some x)) H fun b H2=>if b = true then te (lcS σ js (some x)) H2 fun v H3=>Pv (i + 1) (ys ++ [v]) H3 else Pv (i + 1) ys H2)
    (mt:∀ σ H Q Q',(∀ b H1,Q b H1→Q' b H1)→tt σ H Q→tt σ H Q') (me:∀ σ H Q Q',(∀ v H1,Q v H1→Q' v H1)→te σ H Q→te σ H Q')
    (hd:∀ ys H p,Pv xs.length ys H→H p = none→Qf p H ys) :
    ∃ W:Nat→Nat→List V→Hp→Prop,(∃ m,W 0 m [] H)∧∀ i m ys H,W i m ys H →
      ((Itt K a).stop i H∧∀ p,H p = none→Qf p H ys) ∨
      ((Itt K a).go i H∧ys.length < sizeLine∧∀ x H',(Itt K a).yld i H x H'→tt (lcS σ js (some x)) H' fun b H2 =>
        if b = true then te (lcS σ js (some x)) H2 fun v H3=>∃ m',m' < m∧W (i + 1) m' (ys ++ [v]) H3 else ∃ m',m' < m∧W (i + 1) m' ys H2):=by
  refine ⟨fun i m ys H=>m = xs.length - i∧i≤xs.length∧Pv i ys H,⟨xs.length,by simp,Nat.zero_le _,h0⟩,?_⟩
  rintro i m ys H ⟨rfl,hi,p⟩
  obtain ⟨q,hy⟩:=hl i ys H hi p
  by_cases hlt:i < xs.length
  · refine .inr ⟨⟨xs,xs[i],q,by simp [hlt]⟩,by omega,fun x H' y=>?_⟩
    obtain ⟨e,y⟩:=y
    subst e
    refine mt _ _ _ _ (fun b H2 h2=>?_) (hs i x ys _ (y xs q) p)
    cases b with
    | true =>
      rw [if_pos rfl] at h2 ⊢
      exact me _ _ _ _ (fun v H3 h3=>⟨_,by omega,rfl,hlt,h3⟩) h2
    | false =>
      rw [if_neg Bool.false_ne_true] at h2 ⊢
      exact ⟨_,by omega,rfl,hlt,h2⟩
  · have e:i = xs.length:=by omega
    subst e
    exact .inl ⟨⟨xs,q,Nat.le_refl _⟩,fun pp hp=>hd ys H pp p hp⟩
theorem idxOf_spec {x:V}:∀ {xs:List V} {us:List Value},Vals xs us→xs.all flatV = true→∀ {j:Nat},xs.findIdx? (fun y=>eqV y x) = some j →
    ∃ hj:j < us.length,eqU x us[j] = true∧∀ m (hm:m < us.length),m < j→eqU x us[m] = false
  | _,_,.nil,_,j,h=>by simp at h
  | y :: xs,u :: us,.cons r t,f,j,h=>by
    rw [List.all_cons,Bool.and_eq_true] at f
    rw [List.findIdx?_cons] at h
    by_cases hy:eqV y x = true
    · rw [if_pos hy] at h
      cases h
      refine ⟨by simp,?_,fun m hm hlt=>absurd hlt (Nat.not_lt_zero _)⟩
      show eqU x u = true
      rw [eqU_of r f.1]; exact hy
    · rw [if_neg hy] at h
      cases hq:xs.findIdx? (fun y=>eqV y x) with
      | none=>rw [hq] at h; cases h
      | some k =>
        rw [hq] at h
        have e:k + 1 = j:=Option.some.inj h
        subst e
        obtain ⟨hk,h1,h2⟩:=idxOf_spec t f.2 hq
        refine ⟨by rw [List.length_cons]; omega,h1,fun m hm hlt=>?_⟩
        cases m with
        | zero =>
          show eqU x u = false
          rw [eqU_of r f.1]; exact Bool.eq_false_iff.mpr hy
        | succ m=>exact h2 m (by rw [List.length_cons] at hm; omega) (by omega)
def rIndex (K:PySem.W.Frag):V→List V→Hp→VK→Prop:=fun x vs H Q=>∃ l xs y j,x = .ref l∧vs = [y]∧SqL K H l xs∧flatV y = true∧xs.all flatV = true∧xs.findIdx? (fun z=>eqV z y) = some j∧Q (.int (j:Nat)) H
theorem mt_index:MtM X "list.index" (rIndex X.K):=by
  intro pins s σ H x vs v us Q I rx rv h
  obtain ⟨l,xs,y,j,rfl,rfl,hq,fy,fs,hj,q⟩:=h
  cases rx
  obtain ⟨u,rfl,ru⟩:=rv.one
  obtain ⟨its,r,⟨o,n,e,hc,hd,hdat⟩,hz⟩:=I.list hq
  obtain ⟨cls,dd,dt,sl⟩:=o
  have hc':cls = .type "list" := hc
  have hdat':dt = .seq its.toArray n:=hdat
  subst hc' hdat'
  obtain ⟨h1,h2,h3⟩:=idxOf_spec r fs hj
  have hl:=r.length
  have hn:=line63
  refine call_meets F.slot_list_index ⟨_,e,rfl⟩ F.entry_list_index (F.args_list_index_2 _ _) (SeqAt.list_indexAt l its.toArray n dd sl u (eqU y) j (by simpa using h1) (by omega) (by simpa using h2) (fun m hm hlt=>by simpa using h3 m (by simpa using hm) hlt)) ⟨e,fun w hw=>mem_eqAt ru fy r fs w (by simpa using hw),?_⟩
  exact ⟨.int (j:Nat),H,I.tok _,⟨_,rfl⟩,q⟩
def rInsert:V→List V→Hp→VK→Prop:=fun x vs H Q=>∃ l xs i y,x = .ref l∧vs = [.int i,y]∧H l = some (.lst xs)∧0≤i∧i≤(xs.length:Int)∧xs.length < sizeLine∧Q .non (upd H l (.lst (xs.take i.toNat ++ y :: xs.drop i.toNat)))
theorem insert_run {A:Around} {s:Shared} {P:Program} {w:World} {E:Value→Shared→Prop} {Q:Value→Shared→Prop} {l:Addr} {its:List Value} {n:Nat} {i:Int} {t:Tok} {u:Value} (e:s.heap.get? l = some { cls:=.type "list", data:=.seq its.toArray n }) (h0:0≤i) (h1:i≤(its.length:Int)) (hz:its.length≤sizeLine)
    (h:∀ f:Array Value→Array Value,f its.toArray = (its.take i.toNat ++ u :: its.drop i.toNat).toArray→Q .none { s with heap:=s.heap.update l (Obj.mapSeq f),toks:=s.toks }):wpAny (model P w) A (call (.builtin "list.insert") [.ref l,.int i t,u]) Q E s:=by
  have hn:=line63
  have fit:¬ (!Builtin.List.listFitsIndex i) = true:=by
    rw [fitsIndex_both (k:=i) (Int.le_trans (by decide) h0) (by omega)]
    exact Bool.false_ne_true
  have hs3:its.toArray.size≤sizeLine:=by rw [List.size_toArray]; exact hz
  have M:=AutoSeq1.list_insert_list_int_val_1 l its.toArray n i t u fit hs3
  refine call_meets F.slot_list_insert ⟨_,e,rfl⟩ F.entry_list_insert (F.args_list_insert_3 _ _ _) M ⟨e,?_⟩
  refine h _ ?_
  have hk:(if i < 0 then (i + (its.toArray.size:Int)).toNat else min i.toNat its.toArray.size) = i.toNat:=by
    rw [if_neg (by omega),List.size_toArray]
    omega
  show (its.toArray.extract 0 (if i < 0 then (i + (its.toArray.size:Int)).toNat else min i.toNat its.toArray.size)).push u ++ its.toArray.extract (if i < 0 then (i + (its.toArray.size:Int)).toNat else min i.toNat its.toArray.size) = _
  rw [hk]
  apply Array.toList_inj.mp
  simp [List.take_of_length_le]
theorem mt_insert:MtM X "list.insert" rInsert:=by
  intro pins s σ H x vs v us Q I rx rv h
  obtain ⟨l,xs,i,y,rfl,rfl,hH,h0,h1,hz,q⟩:=h
  cases rx
  obtain ⟨u,w,rfl,⟨t,rfl⟩,rw'⟩:=rv.two
  obtain ⟨z,its,n,r,hl,e⟩:=I.lstM hH
  refine insert_run e h0 (by rw [← hl]; exact h1) (by omega) fun f hf=>?_
  refine ⟨.non,_,I.lset (its':=its.take i.toNat ++ w :: its.drop i.toNat) hH e hf ((r.take i.toNat).append (.cons rw' (r.drop i.toNat))) ?_,rfl,q⟩
  rw [List.length_append,List.length_cons,List.length_take,List.length_drop]
  omega
def rExtendT (K:PySem.W.Frag):V→List V→Hp→VK→Prop:=fun x vs H Q=>∃ l b xs zs,x = .ref l∧vs = [.ref b]∧H l = some (.lst xs)∧SqT K H b zs∧xs.length + zs.length≤sizeLine∧Q .non (upd H l (.lst (xs ++ zs)))
theorem extend_tuple_any (l:Addr) (its:Array Value) (n:Nat) (b:Addr) (its2:Array Value) (n2:Nat) (dd:Option Addr) (sl:Array (Option Value)) (h0:¬(!its.isEmpty && Builtin.List.listTooLong (its.size + its2.size)) = true) (h1:its.size≤sizeLine) (h2:its.size + its2.size≤sizeLine + 1) :
    Meets (Builtin.«list.extend» ⟨[.ref l,.ref b],[]⟩) (fun _ R s=>s.heap.get? l = some { cls:=.type "list", data:=.seq its n }∧s.heap.get? b = some { cls:=.type "tuple", dict:=dd,data:=.seq its2 n2,slots:=sl } ∧
      R (.ok (.ret Value.none)) { s with heap:=s.heap.update l (Obj.mapSeq fun x=>x ++ its2),toks:=s.toks }) :=
  .of_wp fun prog w A R s h=>by
    obtain ⟨hp,g,d,tk,os⟩:=s
    obtain ⟨hl,hb,h⟩:=h
    have g1:=AutoSeq1.idx_int
    have g2:=AutoSeq1.sub_tuple_tuple
    have g3:=AutoSeq1.sub_list_list
    have g4:=AutoSeq1.sub_tuple_list
    have g5:=AutoSeq1.sub_list_tuple
    have hz:(its ++ its2).size≤sizeLine + 1:=by rw [Array.size_append]; exact h2
    wp_walk using (wpAny_updateSeq hl rfl (hz:=h1) (_hz':=hz)),AutoSeq1.wpAny_loadPart' hl,AutoSeq1.wpAny_loadPart' hb
    exact ⟨_,rfl,h⟩
theorem mt_extendT:MtM X "list.extend" (rExtendT X.K):=by
  intro pins s σ H x vs v us Q I rx rv h
  obtain ⟨l,b,xs,zs,rfl,rfl,hH,hB,hz,q⟩:=h
  cases rx
  obtain ⟨u,rfl,ru⟩:=rv.one
  cases ru
  obtain ⟨z,its,n,r,hl,e⟩:=I.lstM hH
  obtain ⟨its2,r2,⟨o,e2,hc,n2,hd⟩,z2⟩:=I.tuple hB
  obtain ⟨cls,dd,dt,sl⟩:=o
  have hc':cls = .type "tuple" := hc
  have hd':dt = .seq its2.toArray n2:=hd
  subst hc' hd'
  have hl2:=r2.length
  have hsz:its.toArray.size + its2.toArray.size≤sizeLine:=by rw [List.size_toArray,List.size_toArray]; omega
  have hlong:¬ (!its.toArray.isEmpty && Builtin.List.listTooLong (its.toArray.size + its2.toArray.size)) = true:=by
    rw [notLongL hsz,Bool.and_false]
    exact Bool.false_ne_true
  refine call_meets F.slot_list_extend ⟨_,e,rfl⟩ F.entry_list_extend (F.args_list_extend_2 _ _)
    (extend_tuple_any l its.toArray n b its2.toArray n2 dd sl hlong (by rw [List.size_toArray]; omega) (by omega)) ⟨e,e2,?_⟩
  refine ⟨.non,_,I.lset (its':=its ++ its2) hH e (by simp) (r.append r2) ?_,rfl,q⟩
  rw [List.length_append]
  omega
theorem range_all_get (bs:List Bool):((List.range bs.length).all fun i=>(bs[i]?).getD true) = bs.all id:=by
  rw [Bool.eq_iff_iff,List.all_eq_true,List.all_eq_true]
  constructor
  · intro h b hb
    obtain ⟨i,hi,e⟩:=List.getElem_of_mem hb
    have q:=h i (List.mem_range.mpr hi)
    rw [List.getElem?_eq_getElem hi,Option.getD_some,e] at q
    exact q
  · intro h i hi
    have hi':=List.mem_range.mp hi
    rw [List.getElem?_eq_getElem hi',Option.getD_some]
    exact h _ (List.getElem_mem hi')
theorem call_all (hc:X.calm = true):CallR X (.builtin "all") (fun xs H Q=>∃ (p:Addr) (bs:List Bool),xs = [.ref p]∧SqL X.K H p (bs.map V.bl)∧Q (.bl (bs.all id)) H):=by
  intro pins s σ H xs us Q I r h
  obtain ⟨p,bs,rfl,hq,q⟩:=h
  obtain ⟨u,rfl,rx⟩:=vals1 r
  cases rx
  obtain ⟨its,r',pl,hz⟩:=I.list hq
  have hlen:bs.length = its.length:=by have:=r'.length; rw [List.length_map] at this; exact this
  have hlt:p < s.heap.objs.size:=by obtain ⟨_,e,_⟩:=pl.isList; exact Heap.lt_size e
  refine call_all_walk (wpAny_pyIter_list pl.isList ?_)
  refine ⟨s.heap.objs.size,[s.heap.objs.size,p],[s.heap.objs.size],its.toArray.size,_,_,fun i=>(bs[i]?).getD true,rfl,Walks.list (A:=X.A.in1) (I.ok.hd hc) _ p (Nat.ne_of_lt hlt) its.toArray,
    ⟨⟨_,Heap.get?_push_size _ rfl,rfl,rfl⟩,pl.isList.push _⟩,fun i v s' Q' E' hP hQ=>?_,fun h' tk hk=>?_⟩
  · have hP':its[i]? = some v:=by simpa using hP
    have hi:i < bs.length:=by
      have:=(List.getElem?_eq_some_iff.mp hP').1
      omega
    obtain ⟨w,hw,rw'⟩:=r'.get (i:=i) (x:=.bl bs[i]) (by rw [List.getElem?_map,List.getElem?_eq_getElem hi]; rfl)
    rw [hP'] at hw
    cases hw
    cases rw'
    simp only [List.getElem?_eq_getElem hi,Option.getD_some] at hQ
    exact wpAny_truthy_bool hQ
  · have kp:∀ b o,s.heap.get? b = some o→h'.get? b = some o:=fun b o e=>hk b o (fun hm=>by
      rw [List.mem_singleton.mp hm] at e
      exact Nat.lt_irrefl _ (Heap.lt_size e)) (Heap.get?_push_of_some _ e)
    refine ⟨.bl _,H,I.kept kp,rfl,?_⟩
    rw [List.size_toArray,← hlen,range_all_get]
    exact q
theorem call_sum (hc:X.calm = true):CallR X (.builtin "sum") (fun xs H Q=>∃ (p:Addr) (ns:List Int),xs = [.ref p]∧SqL X.K H p (ns.map V.int)∧Q (.int ns.sum) H):=by
  intro pins s σ H xs us Q I r h
  obtain ⟨p,ns,rfl,hq,q⟩:=h
  obtain ⟨u,rfl,rx⟩:=vals1 r
  cases rx
  obtain ⟨its,r',pl,hz⟩:=I.list hq
  have hi:IntsAre its ns:=intsAre_of r'
  obtain ⟨zs,hx⟩:=hi.allInts.items
  have hl':s.heap.IsList p (intItems zs):=hx ▸ pl.isList
  refine sum_intListG (I.ok.hd hc) hl' fun h' tk t' hk=>?_
  have e1:ns = zs.toList.map (·.1):=by
    rw [← nums_intItems,← hx]
    exact (show numsOf its.toArray.toList = ns from hi.numsOf).symm
  have e2:preSum (numAt zs) zs.size = ns.sum:=by
    rw [preSum_eq,List.take_of_length_le (by simp),e1]
  rw [e2]
  exact ⟨.int ns.sum,H,I.kept hk,⟨_,rfl⟩,q⟩
theorem call_isinst:CallR X (.builtin "isinstance") (fun xs H Q=>∃ x T t b,xs = [x,.ty T]∧TyOf X.K H x t∧PySem.W.kitOne X.K t (.type T) = some b∧Q (.bl b) H):=by
  intro pins s σ H xs us Q I r h
  obtain ⟨x,T,t,b,rfl,ty,e,q⟩:=h
  obtain ⟨u,w',rfl,rx,ry⟩:=vals2 r
  cases ry
  exact isinst_ok I rx ty e fun tk=>⟨.bl b,H,I.tok _,rfl,q⟩
end
end L2
namespace L2
open PySem PySem.Spec PyProof.Rows
def met (acc:List Str) (x:Str):List Str:=if acc.any (· == x) then acc else acc ++ [x]
def dd (xs:List Str):List Str:=xs.foldl met []
theorem dd_snoc (xs:List Str) (x:Str):dd (xs ++ [x]) = met (dd xs) x:=by
  unfold dd
  rw [List.foldl_append]
  rfl
theorem met_any (acc:List Str) (x k:Str):(met acc x).any (· == k) = (acc.any (· == k) || decide (k = x)):=by
  unfold met
  by_cases h:acc.any (· == x) = true
  · rw [if_pos h]
    by_cases e:k = x
    · subst e; rw [h]; simp
    · simp [e]
  · rw [if_neg h,List.any_append]
    by_cases e:k = x
    · subst e; simp
    · have hb:(x == k) = false:=by simpa [beq_iff_eq] using (fun z:x = k=>e z.symm)
      simp [hb,e]
theorem met_len (acc:List Str) (x:Str):(met acc x).length = if acc.any (· == x) = true then acc.length else acc.length + 1:=by
  unfold met
  split <;> simp
theorem dd_le (xs:List Str):(dd xs).length≤xs.length:=by
  suffices h:∀ acc:List Str,(xs.foldl met acc).length≤acc.length + xs.length by have:=h []; unfold dd; simpa using this
  induction xs with
  | nil=>intro acc; simp
  | cons x r ih =>
    intro acc
    rw [List.foldl_cons]
    have h1:=ih (met acc x)
    have h2:=met_len acc x
    rw [List.length_cons]
    split at h2 <;> omega
theorem dd_nodup {xs:List Str} (h:xs.Nodup):(dd xs).length = xs.length:=by
  suffices g:∀ acc:List Str,(∀ x∈xs,acc.any (· == x) = false)→(xs.foldl met acc).length = acc.length + xs.length by have:=g [] (fun _ _=>rfl); unfold dd; simpa using this
  induction xs with
  | nil=>intro acc _; simp
  | cons x r ih =>
    intro acc ha
    obtain ⟨hx,hr⟩:=List.nodup_cons.mp h
    rw [List.foldl_cons,ih hr (met acc x) (fun y hy=>?_),met_len,ha x List.mem_cons_self]
    · simp; omega
    · rw [met_any,ha y (List.mem_cons_of_mem _ hy)]
      have:y≠x:=fun e=>hx (e ▸ hy)
      simp [this]
theorem dd_dup {xs:List Str} (h:¬ xs.Nodup):(dd xs).length < xs.length:=by
  suffices g:∀ acc:List Str,¬ xs.Nodup→(xs.foldl met acc).length < acc.length + xs.length by have:=g [] h; unfold dd; simpa using this
  clear h
  have le:∀ (ys acc:List Str),(ys.foldl met acc).length≤acc.length + ys.length:=fun ys=>by
    induction ys with
    | nil=>intro acc; simp
    | cons x r ih =>
      intro acc
      rw [List.foldl_cons]
      have h1:=ih (met acc x)
      have h2:=met_len acc x
      rw [List.length_cons]
      split at h2 <;> omega
  have mem:∀ (ys acc:List Str) (x:Str),x∈ys→acc.any (· == x) = true→(ys.foldl met acc).length < acc.length + ys.length:=fun ys=>by
    induction ys with
    | nil=>intro acc x hx _; cases hx
    | cons y r ih =>
      intro acc x hx ha
      rw [List.foldl_cons,List.length_cons]
      rcases List.mem_cons.mp hx with e | hx
      · subst e
        have h1:=le r (met acc x)
        have h2:=met_len acc x
        rw [if_pos ha] at h2
        omega
      · have h1:=ih (met acc y) x hx (by rw [met_any,ha]; rfl)
        have h2:=met_len acc y
        split at h2 <;> omega
  induction xs with
  | nil=>intro acc h; exact absurd List.nodup_nil h
  | cons x r ih =>
    intro acc h
    rw [List.foldl_cons,List.length_cons]
    by_cases hx:x∈r
    · have h1:=mem r (met acc x) x hx (by rw [met_any]; simp)
      have h2:=met_len acc x
      split at h2 <;> omega
    · have h1:=ih (met acc x) (fun hr=>h (List.nodup_cons.mpr ⟨hx,hr⟩))
      have h2:=met_len acc x
      split at h2 <;> omega
abbrev setO (led:Bool):Obj:={ cls:=.type "set", dict:=none,data:=.set #[] 0 (.fresh 0 0 led) }
section
variable {P:Program} {w:World} {A:Around} {R:Result→Shared→Prop} {E:Value→Shared→Prop} {s:Shared}
theorem lay_strs {I:Addr} {fp wr:List Addr} {G:Array GenState→Array GenState→Prop} {n:Nat} {Pv:Nat→Value→Prop} {St:Nat→Shared→Prop} (W:WalksS P w A.in1 I fp wr G n Pv St) (S:Addr) (hS:S ∉ fp) (xs:List Str) (hn:xs.length = n)
    (hv:∀ i v,Pv i v→∃ t,v = .str (xs.getD i "") t) (hb:n + 1 < scanBound) :
    ∀ (k i:Nat) (z:Shared),n - i = k→i≤n→St i z→z.heap.SetOf (strKind P w) S (fun q=>(dd (xs.take i)).any (· == q)) (dd (xs.take i)).length →
      (∀ z',Moved (S :: wr) G z z'→z'.heap.SetOf (strKind P w) S (fun q=>(dd xs).any (· == q)) (dd xs).length→R (.ok (.ret .none)) z') →
      codeAny (model P w) A (.builtin "set.update.loop" ⟨[.ref S,.ref I],[]⟩) R z:=by
  have notw:S ∉ wr:=fun h=>hS (W.sub _ h)
  have more:∀ b∈wr,b∈S :: wr:=fun b h=>List.mem_cons_of_mem _ h
  intro k
  induction k with
  | zero =>
    intro i z hk hi st hset fin
    have ei:i = n:=by omega
    subst ei
    refine codeAny_builtin PyProof.Rows.F.entry_set_update_loop ?_
    rw [Around.under_plainId PyProof.Rows.F.plain_set_update_loop _]
    show wpAny _ A.in1 (pyNext (.ref I) >>= _) _ _ z
    refine wpAny_bind (W.done z _ _ st fun z' mv=>?_)
    show wpAny _ A.in1 (ret Value.none) _ _ z'
    refine wpAny_pure (fin z' (mv.mono more) ?_)
    rw [← hn,List.take_length] at hset
    obtain ⟨o,es,ep,t,ho,more'⟩:=hset
    exact ⟨o,es,ep,t,mv.heap S _ notw ho,more'⟩
  | succ k ih =>
    intro i z hk hi st hset fin
    have il:i < n:=by omega
    refine codeAny_builtin PyProof.Rows.F.entry_set_update_loop ?_
    rw [Around.under_plainId PyProof.Rows.F.plain_set_update_loop _]
    show wpAny _ A.in1 (pyNext (.ref I) >>= _) _ _ z
    refine wpAny_bind (W.item i z _ _ il st fun v z' pv st' mv=>?_)
    obtain ⟨t,rfl⟩:=hv i v pv
    have hset':z'.heap.SetOf (strKind P w) S (fun q=>(dd (xs.take i)).any (· == q)) (dd (xs.take i)).length:=by
      obtain ⟨o,es,ep,tb,ho,more'⟩:=hset
      exact ⟨o,es,ep,tb,mv.heap S _ notw ho,more'⟩
    show wpAny _ A.in1 (holding [Value.str (xs.getD i "") t] (setAdd S (.str (xs.getD i "") t)) >>= _) _ _ z'
    refine wpAny_bind (wpAny_holding ?_)
    unfold setAdd
    refine wpAny_holding ?_
    refine wpAny_bind ((strKind P w).pyHash (k:=xs.getD i "") (strKind_is _ _ _ _) ?_)
    have hroom:(dd (xs.take i)).length + 1 < scanBound:=by
      have:=dd_le (xs.take i)
      rw [List.length_take] at this
      omega
    have et:xs.take (i + 1) = xs.take i ++ [xs.getD i ""]:=by
      rw [List.take_succ,List.getD_eq_getElem?_getD,List.getElem?_eq_getElem (by omega)]
      rfl
    refine wpAny_setAddHashed_of (knd:=strKind P w) (s:={ z' with toks:=z'.toks + 1 }) (strKind_is _ _ _ _) rfl hset' hroom fun h' sb s2=>?_
    have hset2:h'.SetOf (strKind P w) S (fun q=>(dd (xs.take (i + 1))).any (· == q)) (dd (xs.take (i + 1))).length :=
      SetOf_congr s2 (fun q=>by rw [et,dd_snoc,met_any]) (by rw [et,dd_snoc,met_len])
    refine wpAny_pure ⟨plainId_quiet PyProof.Rows.F.plain_set_update_loop _,ih (i + 1) _ (by omega) il (W.frame _ z' _ _ st' (Nat.le_succ _) fun b hb' o e=>?_) hset2 fun z'' mv2 s3=>?_⟩
    · rw [sb.2 b (fun h:b = S=>hS (by rw [← h]; exact hb'))]; exact e
    · refine fin z'' (Moved.trans W.gtrans ((mv.mono more).then_heap (Nat.le_succ _) fun b o hb' e=>?_) mv2) s3
      rw [sb.2 b (fun h:b = S=>hb' (by rw [h]; exact List.mem_cons_self))]; exact e
theorem strs_at {xs:List Str}:∀ {us:List Value},Vals (xs.map V.str) us→∀ (i:Nat) (v:Value),us[i]? = some v→∃ t,v = .str (xs.getD i "") t:=by
  intro us r i v h
  have hl:=r.length
  rw [List.length_map] at hl
  have hi:i < xs.length:=by have:=(List.getElem?_eq_some_iff.mp h).1; omega
  obtain ⟨u,hu,t,e⟩:=r.get (i:=i) (x:=.str xs[i]) (by rw [List.getElem?_map,List.getElem?_eq_getElem hi]; rfl)
  rw [h] at hu
  cases hu
  refine ⟨t,?_⟩
  rw [e,List.getD_eq_getElem?_getD,List.getElem?_eq_getElem hi]
  rfl
set_option maxHeartbeats 8000000 in
theorem set_strs {l:Addr} {us:List Value} {xs:List Str} {Q:Value→Shared→Prop} (hh:A.handled = none) (hl:s.heap.IsList l us.toArray) (r:Vals (xs.map V.str) us) (hb:xs.length + 1 < scanBound)
    (h:∀ (h':Heap) (tk:Nat),h'.SetOf (strKind P w) s.heap.objs.size (fun q=>(dd xs).any (· == q)) (dd xs).length→(∀ b o,s.heap.get? b = some o→h'.get? b = some o)→Q (.ref s.heap.objs.size) { s with heap:=h',toks:=tk }) :
    wpAny (model P w) A (call (.type "set") [.ref l]) Q E s:=by
  have hlen:xs.length = us.toArray.size:=by have:=r.length; rw [List.length_map] at this; simpa using this
  obtain ⟨cc,tl,hmro⟩:=F.called_set.mro
  have made:=F.called_set.made
  have sub:=F.called_set.sub
  refine wpAny_call (codeAny_of_tree ?_)
  show wpAny _ _ (callAny (.type "set") _) _ _ _
  refine wpAny_pure ⟨Code.quiet_builtin _ (by decide +kernel),codeAny_builtin F.entry_type_call ?_⟩
  rw [Around.under_plain (weight_type_call_type "set" [.ref l] []) rfl]
  have a1:=F.called_set.notType
  have a2:=F.called_set.canCreate
  have a3:=F.typeCall_set_1 (.ref l)
  repeat (any_goals (first | assumption | wp_step))
  refine codeAny_mono (code_set_new_1 (.ref l) (E:=E) (Q₁:=fun ob z=>∃ led:Bool,ob = .ref s.heap.objs.size∧z = { s with heap:=s.heap.push { cls:=.type "set", dict:=none,data:=.set #[] 0 (.fresh 0 0 led) } }) fun led=>⟨led,rfl,rfl⟩) fun res z hres=>?_
  cases res with
  | error e=>exact hres
  | ok fl =>
    cases fl with
    | ret ob =>
      obtain ⟨led,rfl,rfl⟩:=hres
      have gS:(s.heap.push (setO led)).get? s.heap.objs.size = some (setO led):=Heap.get?_push_size _ rfl
      have tS:Shared.TypeIs { s with heap:=s.heap.push (setO led) } (.ref s.heap.objs.size) "set" := ⟨_,gS,rfl⟩
      have b1:=F.called_set.init.lookup
      have b2:=F.called_set.init.bind (.ref s.heap.objs.size)
      repeat (any_goals (first | assumption | wp_step))
      refine codeAny_mono (codeAny_call_builtin (R:=wants (fun v z=>v = .none∧∃ h' tk,z = { s with heap:=h',toks:=tk }∧h'.SetOf (strKind P w) s.heap.objs.size (fun q=>(dd xs).any (· == q)) (dd xs).length∧(∀ b o,s.heap.get? b = some o→h'.get? b = some o)) E)
        F.called_set.init.plain F.entry_set_init (check_set_init_1 tS ?_)) fun res2 z2 hres2=>?_
      · obtain ⟨ol,gl,cl,nl,dl⟩:=hl
        obtain ⟨ocls,odict,odata,oslots⟩:=ol
        have cl':ocls = .type "list" := cl
        have dl':odata = .seq us.toArray nl:=dl
        subst cl' dl'
        have gl':(s.heap.push (setO led)).get? l = some { cls:=.type "list", dict:=odict,data:=.seq us.toArray nl,slots:=oslots }:=Heap.get?_push_of_some _ gl
        have c1:=F.sub_list_set
        have c2:=F.sub_list_frozenset
        have c3:(Value.type "list" == Value.type "dict") = false:=by decide
        have isl:(s.heap.push (setO led)).IsList l us.toArray:=⟨_,gl',rfl,nl,rfl⟩
        unfold Builtin.«set.__init__» noKeywords Builtin.Frozenset.updateFrom
        generalize hit:pyIter = itf
        wp_walk
        subst hit
        refine wpAny_pyIter_list isl ?_
        refine wpAny_bind (wpAny_runValue ?_)
        have ltl:l < s.heap.objs.size:=Heap.lt_size gl
        have hd3:A.in1.in1.in1.handled = none:=by simp [hh]
        have sz1:(s.heap.push (setO led)).objs.size = s.heap.objs.size + 1:=Heap.size_push ..
        have nel:l≠(s.heap.push (setO led)).objs.size:=by rw [sz1]; exact Nat.ne_of_lt (Nat.lt_succ_of_lt ltl)
        have nin:s.heap.objs.size ∉ [(s.heap.push (setO led)).objs.size,l]:=by
          rw [sz1]
          simp only [List.mem_cons,List.not_mem_nil,or_false,not_or]
          exact ⟨Nat.ne_of_lt (Nat.lt_succ_self _),Nat.ne_of_gt ltl⟩
        refine lay_strs ((Walks.list hd3 _ l nel us.toArray).toS) s.heap.objs.size nin xs hlen (fun i v hv=>strs_at r i v (by simpa using hv)) (by rw [← hlen]; exact hb) (us.toArray.size - 0) 0 _ (by omega) (Nat.zero_le _)
          ⟨⟨_,Heap.get?_push_size _ rfl,rfl,rfl⟩,isl.push _⟩ ?s0 ?fin
        case s0 =>
          have gg:((s.heap.push (setO led)).push { cls:=.type "list_iterator", data:=.fields #[.ref l,.int 0 0] }).get? s.heap.objs.size = some (setO led):=Heap.get?_push_of_some _ gS
          exact SetOf_congr ((setObjOf_fresh (knd:=strKind P w) led).setOf gg (by unfold scanBound; omega)) (fun _=>rfl) rfl
        case fin =>
          intro z mv sz
          obtain ⟨h',g',d',tk',os'⟩:=z
          have e1:g' = s.gens:=mv.gens
          have e2:d' = s.drawn:=mv.drawn
          have e3:os' = s.os:=mv.os
          subst e1 e2 e3
          show wpAny _ _ _ _ _ _
          refine wpAny_pure ?_
          show wpAny _ _ (ret Value.none) _ _ _
          refine wpAny_pure ⟨rfl,h',tk',rfl,sz,fun b o e=>?_⟩
          have lb:=Heap.lt_size e
          have n1:b≠s.heap.objs.size:=Nat.ne_of_lt lb
          have n2:b≠(s.heap.push (setO led)).objs.size:=by rw [sz1]; exact Nat.ne_of_lt (Nat.lt_succ_of_lt lb)
          exact mv.heap b o (by simp only [List.mem_cons,List.not_mem_nil,or_false,not_or]; exact ⟨n1,n2⟩) (Heap.get?_push_of_some _ (Heap.get?_push_of_some _ e))
      · cases res2 with
        | error e=>exact hres2
        | ok fl2 =>
          cases fl2 with
          | ret v =>
            obtain ⟨rfl,h',tk,rfl,sS,kk⟩:=hres2
            repeat (any_goals (first | assumption | wp_step))
            exact h _ _ sS kk
          | _=>exact hres2.elim
    | _=>exact hres.elim
end
end L2
namespace L2
open PySem PySem.Spec PyProof.Rows
section
variable {X:Cx}
def SetN (P:Program) (w:World) (a:Addr) (n:Nat):HO:=.ext fun h=>∃ S,h.SetOf (strKind P w) a S n
theorem call_set (hc:X.calm = true):CallR X (.type "set") (fun xs H Q=>∃ (p:Addr) (ts:List Str),xs = [.ref p]∧SqL X.K H p (ts.map V.str)∧ts.length≤100∧∀ q,H q = none→Q (.ref q) (upd H q (SetN X.prog X.w q (dd ts).length))):=by
  intro pins s σ H xs us Q I r h
  obtain ⟨p,ts,rfl,hq,h100,q⟩:=h
  obtain ⟨u,rfl,rx⟩:=vals1 r
  cases rx
  obtain ⟨its,r',pl,hz⟩:=I.list hq
  refine set_strs (I.ok.hd hc) pl.isList r' (Nat.lt_of_le_of_lt (Nat.add_le_add_right h100 1) (by decide)) fun h' tk hS hk=>?_
  refine ⟨.ref s.heap.objs.size,_,I.laid hk (Nat.le_refl _) (o:=SetN X.prog X.w s.heap.objs.size (dd ts).length) ?_,rfl,q _ (I.hok.fresh (Nat.le_refl _))⟩
  refine ⟨⟨_,hS⟩,?_,?_⟩
  · obtain ⟨o,es,ep,t,ho,_⟩:=hS
    exact ⟨o,ho⟩
  · rintro h1 h2 ⟨S,o,es,ep,t,ho,rest⟩ k
    exact ⟨S,o,es,ep,t,k o ho,rest⟩
theorem call_len_set':CallR X (.builtin "len") (fun xs H Q=>∃ (p:Addr) (n:Nat),xs = [.ref p]∧H p = some (SetN X.prog X.w p n)∧Q (.int n) H):=by
  intro pins s σ H xs us Q I r h
  obtain ⟨p,n,rfl,hp,q⟩:=h
  obtain ⟨u,rfl,rx⟩:=vals1 r
  cases rx
  obtain ⟨⟨S,o,es,ep,t,ho,hex,hd,_,_,hb,hf,hn⟩,_⟩:=I.hok p _ hp
  have h63:(es.size:Int) < 2 ^ 63:=by
    have h1:scanBound < 2 ^ 63:=by decide
    omega
  refine call_len_set ho hex hd hf h63 ⟨.int n,H,I.tok _,⟨s.toks + 1,?_⟩,q⟩
  rw [hn]
def DicK (K:PySem.W.Frag) (P:Program) (w:World) (a:Addr) (kvs:List (Str × Value)):Prop:=(a == sysModules) = false∧∃ o,K.lookup a = some o∧o.IsDictOf (strKind P w) kvs
theorem ix_dicK {a:Addr} {kvs:List (Str × Value)} (hd:DicK X.K X.prog X.w a kvs):IxR X (fun x y H Q=>∃ k u v,x = .ref a∧y = .str k∧valueAt kvs k = some u∧RelV v u∧Q v H):=by
  intro value slice pins s σ H x y v u Q I rx ry h hs
  obtain ⟨k,z,vv,rfl,rfl,hv,rv,q⟩:=h
  cases rx
  obtain ⟨t,rfl⟩:=ry
  obtain ⟨_,o,hk,hdd⟩:=hd
  have D:s.heap.DictOf (strKind X.prog X.w) a kvs:=Heap.dictOf_iff.mpr ⟨o,I.kIn a o hk,hdd⟩
  exact tail_any D.typeIs slot_dict_getitem.lookup (wpAny_getItem_of (strKind_is _ _ k t) D.mapOf hv ⟨vv,H,I.tok _,rv,q⟩) hs
theorem op_notIn_dicK {a:Addr} {kvs:List (Str × Value)} (hd:DicK X.K X.prog X.w a kvs):OpR X (compareOp .NotIn) (fun x y H Q=>∃ k,x = .str k∧y = .ref a∧Q (.bl (!(valueAt kvs k).isSome)) H):=by
  intro pins s σ H x y v u Q I rx ry h
  obtain ⟨k,rfl,rfl,q⟩:=h
  cases ry
  obtain ⟨t,rfl⟩:=rx
  obtain ⟨hs,o,hk,hdd⟩:=hd
  have D:s.heap.DictOf (strKind X.prog X.w) a kvs:=Heap.dictOf_iff.mpr ⟨o,I.kIn a o hk,hdd⟩
  exact wpAny_notIn_of (strKind_is _ _ k t) hs D.mapOf ⟨.bl _,H,I.tok _,rfl,q⟩
theorem Inv.turnedL {pins:List (Addr × Obj)} {σ:St} {H:Hp} {s:Shared} {h':Heap} {t':Nat} {fp:List Addr} (I:Inv X pins σ H s) (k:∀ b o,b ∉ fp→s.heap.get? b = some o→h'.get? b = some o) (ex:∀ b∈fp,∃ o,h'.get? b = some o) (hf:∀ b∈fp,FpOk X pins H b) :
    Inv X pins σ H { s with heap:=h',toks:=t' }:=by
  have nit:∀ b u,H b = some u→b ∉ fp:=fun b u e z=>by rw [(hf b z).1] at e; cases e
  refine I.step (g':=s.gens) (d':=s.drawn) (ch:=fp) (fun b hb=>⟨(hf b hb).2.2.2.1,(hf b hb).2.1,(hf b hb).2.2.2.2.1,(hf b hb).2.2.2.2.2⟩) (fun b o _ _ hc e _=>k b o hc e) (fun b o _ _ hc e _=>⟨o.slots,k b o hc e⟩) (fun _ _ _ _ n=>n)
    (fun b o hc e=>⟨o,k b o hc e⟩) (fun _ _ e=>e) (fun _ _ _ e=>e) (fun b ps e=>⟨#[],by rw [e]; simp⟩) (fun m hm=>?_) (fun b u e=>?_) I.bare
  · obtain ⟨o,es,ep,ho,r⟩:=hm
    exact ⟨o,es,ep,k _ o (fun z=>(hf _ z).2.1 rfl) ho,r⟩
  · refine (I.hok b u e).stay (fun c v hc q=>k c v ?_ q) (fun _ q=>q) fun _ _ q=>q
    rcases hc with z | z
    · rw [z]; exact nit b u e
    · exact nit c _ z
end
end L2
namespace L2
open PySem PySem.Spec PyProof.Rows
theorem bt_len:bootBuiltins "len" = some (.builtin "len"):=by decide +kernel
theorem bt_all:bootBuiltins "all" = some (.builtin "all"):=by decide +kernel
theorem bt_sum:bootBuiltins "sum" = some (.builtin "sum"):=by decide +kernel
theorem bt_isinstance:bootBuiltins "isinstance" = some (.builtin "isinstance"):=by decide +kernel
theorem bt_str:bootBuiltins "str" = some (.type "str"):=by decide +kernel
theorem bt_tuple:bootBuiltins "tuple" = some (.type "tuple"):=by decide +kernel
theorem bt_list:bootBuiltins "list" = some (.type "list"):=by decide +kernel
theorem bt_set:bootBuiltins "set" = some (.type "set"):=by decide +kernel
theorem rel_of_abs {v:V} {u:Value} (h:absV u = some v):RelV v u:=by
  cases u <;> simp only [absV,Option.some.injEq,reduceCtorEq] at h <;> subst h <;> first | exact rfl | exact ⟨_,rfl⟩
theorem vals_of_abs:∀ {us:List Value} {xs:List V},us.map absV = xs.map some→Vals xs us
  | [],[],_=>.nil
  | u :: us,x :: xs,h=>by
    rw [List.map_cons,List.map_cons] at h
    injection h with h1 h2
    exact .cons (rel_of_abs h1) (vals_of_abs h2)
  | [],_ :: _,h=>by cases h
  | _ :: _,[],h=>by cases h
theorem sqT_K {K:PySem.W.Frag} {H:Hp} {p:Addr} {od:Option Addr} {it:Array Value} {n:Nat} {sl:Array (Option Value)} {xs:List V} (l:K.lookup p = some ⟨.type "tuple", od,.seq it n,sl⟩) (v:it.toList.map absV = xs.map some) (hz:xs.length≤1000):SqT K H p xs:=by
  have r:=vals_of_abs v
  refine .inr ⟨_,it,n,l,rfl,rfl,?_,r⟩
  have e:xs.length = it.size:=by have:=r.length; simpa using this
  rw [← e]
  exact Nat.le_of_lt (small1000 hz)
theorem dk_nil {P:Program} {w:World}:Pairs (strKind P w) [] []∧∀ e∈([]:List DictEntry),∃ k,(strKind P w).is k e.key = true∧e.hash = (strKind P w).hash k:=⟨.nil,fun _ h=>nomatch h⟩
theorem dk_cons {P:Program} {w:World} {k:Str} {t:Tok} {v:Value} {es:List DictEntry} {kvs:List (Str × Value)} (h:Pairs (strKind P w) es kvs∧∀ e∈es,∃ k,(strKind P w).is k e.key = true∧e.hash = (strKind P w).hash k) :
    Pairs (strKind P w) (⟨hashStr w k,.str k t,v⟩ :: es) ((k,v) :: kvs)∧∀ e∈(⟨hashStr w k,.str k t,v⟩ :: es:List DictEntry),∃ k,(strKind P w).is k e.key = true∧e.hash = (strKind P w).hash k:=by
  refine ⟨.cons (strKind_is _ _ k t) rfl h.1,fun e he=>?_⟩
  rcases List.mem_cons.mp he with z | z
  · subst z; exact ⟨k,strKind_is _ _ k t,rfl⟩
  · exact h.2 e z
theorem dicK_mk {P:Program} {w:World} {K:PySem.W.Frag} {p:Addr} {es:Array DictEntry} {ep:Nat} {el:List DictEntry} {kvs:List (Str × Value)} (l:K.lookup p = some ⟨.type "dict", none,.dict es ep,#[]⟩) (e:es.toList = el) (s:(p == sysModules) = false)
    (h:Pairs (strKind P w) el kvs∧∀ e∈el,∃ k,(strKind P w).is k e.key = true∧e.hash = (strKind P w).hash k) (nd:(kvs.map (·.1)).Nodup):DicK K P w p kvs:=by
  subst e
  exact ⟨s,_,l,es,ep,⟨rfl,rfl,rfl⟩,rfl,fun x hx=>h.2 x (by simpa using hx),h.1,nd⟩
theorem vals_none {kvs:List (Str × Value)} {k:Str} (h:∀ e∈kvs,e.1≠k):valueAt kvs k = none:=by
  unfold valueAt
  rw [List.find?_eq_none.mpr fun e he=>by simpa using h e he]
  rfl
end L2
namespace Sen
open PySem
inductive Sn where
  | c0 (y:Bool)
  | mk (x:Str)
  | nt (s:Sn)
  | b2 (o:Fin 4) (s t:Sn)
  | q1 (o:Bool) (x:Str) (s:Sn)
def w2:Fin 4→Str
  | 0 => "and"
  | 1 => "or"
  | 2 => "either"
  | 3 => "if"
namespace Sn
def word:Sn→Str
  | c0 true => "yes"
  | c0 false => "no"
  | mk _ => "mark"
  | nt _ => "not"
  | b2 o _ _=>w2 o
  | q1 true _ _ => "some"
  | q1 false _ _ => "each"
def letters:Sn→List Str
  | mk x=>[x]
  | q1 _ x _=>[x]
  | _=>[]
def parts:Sn→List Sn
  | nt s=>[s]
  | b2 _ s t=>[s,t]
  | q1 _ _ s=>[s]
  | _=>[]
def count:Sn→Nat
  | nt s=>1 + s.count
  | b2 _ s t=>1 + (s.count + t.count)
  | q1 _ _ s=>1 + s.count
  | _=>1
def depth:Sn→Nat
  | nt s=>1 + s.depth
  | b2 _ s t=>1 + max s.depth t.depth
  | q1 _ _ s=>1 + s.depth
  | _=>1
def inO (os:List Str):Sn→Prop
  | c0 _=>True
  | mk x=>x∈os
  | nt s=>s.inO os
  | b2 _ s t=>s.inO os∧t.inO os
  | q1 _ x s=>x∈os∧s.inO os
def op2:Fin 4→Bool→Bool→Bool
  | 0,a,b=>a && b
  | 1,a,b=>a || b
  | 2,a,b=>a != b
  | 3,a,b=>!a || b
def val:Sn→(Str→Bool)→Bool
  | c0 y,_=>y
  | mk x,e=>e x
  | nt s,e=>!s.val e
  | b2 o s t,e=>op2 o (s.val e) (t.val e)
  | q1 true x s,e=>s.val (fun y=>if y = x then true else e y) || s.val (fun y=>if y = x then false else e y)
  | q1 false x s,e=>s.val (fun y=>if y = x then true else e y) && s.val (fun y=>if y = x then false else e y)
theorem val_congr {os:List Str}:∀ (s:Sn) {e e':Str→Bool},s.inO os→(∀ x∈os,e x = e' x)→s.val e = s.val e'
  | c0 _,_,_,_,_=>rfl
  | mk x,_,_,h,q=>q x h
  | nt s,_,_,h,q=>by unfold val; rw [val_congr s h q]
  | b2 o s t,_,_,h,q=>by unfold val; rw [val_congr s h.1 q,val_congr t h.2 q]
  | q1 o x s,e,e',h,q=>by
    have k:∀ b:Bool,s.val (fun y=>if y = x then b else e y) = s.val (fun y=>if y = x then b else e' y):=fun b=>val_congr s h.2 fun y hy=>by
      by_cases hx:y = x
      · rw [if_pos hx,if_pos hx]
      · rw [if_neg hx,if_neg hx,q y hy]
    cases o <;> (unfold val; rw [k,k])
theorem depth_pos:∀ s:Sn,1≤s.depth
  | c0 _=>Nat.le_refl _
  | mk _=>Nat.le_refl _
  | nt _=>by unfold depth; omega
  | b2 _ _ _=>by unfold depth; omega
  | q1 _ _ _=>by unfold depth; omega
theorem count_parts:∀ s:Sn,s.count = 1 + (s.parts.map count).sum
  | c0 _=>rfl
  | mk _=>rfl
  | nt _=>by simp [count,parts]
  | b2 _ _ _=>by simp [count,parts]
  | q1 _ _ _=>by simp [count,parts]
theorem depth_parts:∀ (s:Sn),∀ t∈s.parts,t.depth + 1≤s.depth
  | c0 _,t,h=>by simp [parts] at h
  | mk _,t,h=>by simp [parts] at h
  | nt s,t,h=>by simp [parts] at h; subst h; show t.depth + 1≤1 + t.depth; omega
  | b2 _ s u,t,h=>by
    simp [parts] at h
    rcases h with h | h
    · subst h; show t.depth + 1≤1 + max t.depth u.depth; omega
    · subst h; show t.depth + 1≤1 + max s.depth t.depth; omega
  | q1 _ _ s,t,h=>by simp [parts] at h; subst h; show t.depth + 1≤1 + t.depth; omega
theorem inO_parts {os:List Str}:∀ (s:Sn),s.inO os→∀ t∈s.parts,t.inO os
  | c0 _,_,t,h=>by simp [parts] at h
  | mk _,_,t,h=>by simp [parts] at h
  | nt s,q,t,h=>by simp [parts] at h; subst h; exact q
  | b2 _ s u,q,t,h=>by
    simp [parts] at h
    rcases h with h | h <;> subst h
    · exact q.1
    · exact q.2
  | q1 _ _ s,q,t,h=>by simp [parts] at h; subst h; exact q.2
theorem inO_letters {os:List Str}:∀ (s:Sn),s.inO os→∀ x∈s.letters,x∈os
  | c0 _,_,t,h=>by simp [letters] at h
  | mk _,q,t,h=>by simp [letters] at h; subst h; exact q
  | nt s,q,t,h=>by simp [letters] at h
  | b2 _ s u,q,t,h=>by simp [letters] at h
  | q1 _ _ s,q,t,h=>by simp [letters] at h; subst h; exact q.1
end Sn
theorem tb_add_same (b p:Nat):(b + 2 ^ p).testBit p = !b.testBit p:=by rw [Nat.add_comm]; exact Nat.testBit_two_pow_add_eq b p
theorem tb_add_lt {b p j:Nat} (h:j < p):(b + 2 ^ p).testBit j = b.testBit j:=by rw [Nat.add_comm]; exact Nat.testBit_two_pow_add_gt h b
theorem bit0_mod {b p:Nat} (h:b.testBit p = false):b % 2 ^ (p + 1) < 2 ^ p:=by
  have e:b % 2 ^ (p + 1) = b % 2 ^ p + 2 ^ p * (b / 2 ^ p % 2):=by
    rw [Nat.pow_succ]; exact Nat.mod_mul
  have z:b / 2 ^ p % 2 = 0:=by
    rw [Nat.testBit_eq_decide_div_mod_eq] at h
    have:=of_decide_eq_false h
    omega
  rw [e,z,Nat.mul_zero,Nat.add_zero]
  exact Nat.mod_lt b (Nat.two_pow_pos p)
theorem tb_div (x i j:Nat):x.testBit (i + j) = (x / 2 ^ i).testBit j:=by
  rw [Nat.testBit_div_two_pow,Nat.add_comm]
theorem tb_add_gt {b p j:Nat} (h:p < j) (h0:b.testBit p = false):(b + 2 ^ p).testBit j = b.testBit j:=by
  obtain ⟨k,rfl⟩:∃ k,j = (p + 1) + k:=⟨j - (p + 1),by omega⟩
  rw [tb_div,tb_div]
  have hm:=bit0_mod h0
  have e:(b + 2 ^ p) / 2 ^ (p + 1) = b / 2 ^ (p + 1):=by
    have hp:2 ^ (p + 1) = 2 ^ p + 2 ^ p:=by rw [Nat.pow_succ]; omega
    have d:=Nat.div_add_mod b (2 ^ (p + 1))
    have pos:=Nat.two_pow_pos (p + 1)
    rw [Nat.div_eq_iff pos]
    have c:b / 2 ^ (p + 1) * 2 ^ (p + 1) = 2 ^ (p + 1) * (b / 2 ^ (p + 1)):=Nat.mul_comm _ _
    rw [c]
    omega
  rw [e]
def putBit (b p:Nat) (v:Bool):Nat:=if b.testBit p = v then b else if v then b + 2 ^ p else b - 2 ^ p
theorem ge_of_bit {b p:Nat} (h:b.testBit p = true):2 ^ p≤b:=Nat.ge_two_pow_of_testBit h
theorem putBit_bit (b p j:Nat) (v:Bool):(putBit b p v).testBit j = if j = p then v else b.testBit j:=by
  unfold putBit
  by_cases h:b.testBit p = v
  · rw [if_pos h]
    by_cases hj:j = p
    · rw [if_pos hj,hj,h]
    · rw [if_neg hj]
  · rw [if_neg h]
    cases v with
    | true =>
      have h0:b.testBit p = false:=by simpa using h
      rw [if_pos rfl]
      by_cases hj:j = p
      · subst hj; rw [if_pos rfl,tb_add_same,h0]; rfl
      · rw [if_neg hj]
        rcases Nat.lt_or_gt_of_ne hj with q | q
        · exact tb_add_lt q
        · exact tb_add_gt q h0
    | false =>
      have h1:b.testBit p = true:=by simpa using h
      rw [if_neg Bool.false_ne_true]
      have ge:=ge_of_bit h1
      obtain ⟨c,hc⟩:∃ c,b = c + 2 ^ p:=⟨b - 2 ^ p,by omega⟩
      have h0:c.testBit p = false:=by
        rw [hc,tb_add_same] at h1
        simpa using h1
      have e:b - 2 ^ p = c:=by omega
      rw [e,hc]
      by_cases hj:j = p
      · subst hj; rw [if_pos rfl,h0]
      · rw [if_neg hj]
        rcases Nat.lt_or_gt_of_ne hj with q | q
        · exact (tb_add_lt q).symm
        · exact (tb_add_gt q h0).symm
theorem putBit_lt {b p n:Nat} {v:Bool} (hb:b < 2 ^ n) (hp:p < n):putBit b p v < 2 ^ n:=by
  refine Nat.lt_pow_two_of_testBit _ fun i hi=>?_
  rw [putBit_bit,if_neg (by omega)]
  exact Nat.testBit_lt_two_pow (Nat.lt_of_lt_of_le hb (Nat.pow_le_pow_right (by decide) hi))
def IsTab (n:Nat) (N:Nat) (f:Nat→Bool):Prop:=∀ b,N.testBit b = (decide (b < 2 ^ n) && f b)
theorem tab_all (n:Nat):IsTab n (2 ^ 2 ^ n - 1) (fun _=>true):=fun b=>by
  rw [Nat.testBit_two_pow_sub_one,Bool.and_true]
theorem tab_zero (n:Nat):IsTab n 0 (fun _=>false):=fun b=>by simp
theorem tab_xor {n N M:Nat} {f g:Nat→Bool} (h:IsTab n N f) (k:IsTab n M g):IsTab n (N ^^^ M) (fun b=>f b != g b):=fun b=>by
  rw [Nat.testBit_xor,h b,k b]
  show _ = (decide (b < 2 ^ n) && (f b != g b))
  cases decide (b < 2 ^ n) <;> cases f b <;> cases g b <;> rfl
theorem tab_and {n N M:Nat} {f g:Nat→Bool} (h:IsTab n N f) (k:IsTab n M g):IsTab n (N &&& M) (fun b=>f b && g b):=fun b=>by
  rw [Nat.testBit_and,h b,k b]
  show _ = (decide (b < 2 ^ n) && (f b && g b))
  cases decide (b < 2 ^ n) <;> cases f b <;> cases g b <;> rfl
theorem tab_or {n N M:Nat} {f g:Nat→Bool} (h:IsTab n N f) (k:IsTab n M g):IsTab n (N ||| M) (fun b=>f b || g b):=fun b=>by
  rw [Nat.testBit_or,h b,k b]
  show _ = (decide (b < 2 ^ n) && (f b || g b))
  cases decide (b < 2 ^ n) <;> cases f b <;> cases g b <;> rfl
theorem tab_congr {n N:Nat} {f g:Nat→Bool} (h:IsTab n N f) (e:∀ b,b < 2 ^ n→f b = g b):IsTab n N g:=fun b=>by
  rw [h b]
  by_cases hb:b < 2 ^ n
  · rw [e b hb]
  · rw [decide_eq_false hb]; rfl
theorem tab_lt {n N:Nat} {f:Nat→Bool} (h:IsTab n N f):N < 2 ^ 2 ^ n:=Nat.lt_pow_two_of_testBit _ fun i hi=>by
  rw [h i,decide_eq_false (by omega)]; rfl
theorem tab_block (p:Nat):IsTab (p + 1) ((2 ^ 2 ^ p - 1) * 2 ^ 2 ^ p) (fun b=>b.testBit p):=fun b=>by
  rw [Nat.testBit_mul_two_pow,Nat.testBit_two_pow_sub_one]
  show _ = (decide (b < 2 ^ (p + 1)) && b.testBit p)
  have hp:2 ^ (p + 1) = 2 ^ p + 2 ^ p:=by rw [Nat.pow_succ]; omega
  by_cases h1:2 ^ p≤b
  · by_cases h2:b < 2 ^ (p + 1)
    · have e:b.testBit p = true:=by
        obtain ⟨c,rfl⟩:∃ c,b = c + 2 ^ p:=⟨b - 2 ^ p,by omega⟩
        rw [tb_add_same,Nat.testBit_lt_two_pow (by omega)]
        rfl
      rw [e]
      simp [h1,h2]
      omega
    · simp [h2]
      intro _
      omega
  · have e:b.testBit p = false:=Nat.testBit_lt_two_pow (by omega)
    rw [e]
    simp [h1]
theorem tab_double {p m N:Nat} (hp:p < m) (h:IsTab m N (fun b=>b.testBit p)):IsTab (m + 1) (N ||| N * 2 ^ 2 ^ m) (fun b=>b.testBit p):=fun b=>by
  rw [Nat.testBit_or,Nat.testBit_mul_two_pow,h b,h (b - 2 ^ m)]
  show (_ || (_ && (_ && (b - 2 ^ m).testBit p))) = (decide (b < 2 ^ (m + 1)) && b.testBit p)
  have hm:2 ^ (m + 1) = 2 ^ m + 2 ^ m:=by rw [Nat.pow_succ]; omega
  by_cases h1:b < 2 ^ m
  · have h2:b < 2 ^ (m + 1):=by omega
    have h3:¬ 2 ^ m≤b:=by omega
    simp [h1,h2,h3]
  · have h3:2 ^ m≤b:=by omega
    have e:(b - 2 ^ m).testBit p = b.testBit p:=by
      obtain ⟨c,rfl⟩:∃ c,b = c + 2 ^ m:=⟨b - 2 ^ m,by omega⟩
      rw [tb_add_lt hp,Nat.add_sub_cancel]
    rw [e]
    by_cases h2:b < 2 ^ (m + 1)
    · have h4:b - 2 ^ m < 2 ^ m:=by omega
      simp [h1,h2,h3,h4]
    · have h4:¬ b - 2 ^ m < 2 ^ m:=by omega
      simp [h1,h2,h3,h4]
theorem tab_flip {n p N R:Nat} {f:Nat→Bool} (hp:p < n) (h:IsTab n N f) (r:IsTab n R (fun b=>b.testBit p)) :
    IsTab n ((N &&& R) / 2 ^ 2 ^ p ||| (N ^^^ (N &&& R)) * 2 ^ 2 ^ p) (fun b=>f (putBit b p (!b.testBit p))):=fun b=>by
  have o:=tab_and h r
  have z:=tab_xor h o
  have pp:=Nat.two_pow_pos p
  rw [Nat.testBit_or,Nat.testBit_mul_two_pow,Nat.testBit_div_two_pow,o,z]
  dsimp only
  by_cases hb:b < 2 ^ n
  · cases hbit:b.testBit p with
    | false =>
      have e:putBit b p (!false) = b + 2 ^ p:=by
        unfold putBit
        rw [hbit,if_neg (by decide),if_pos (by decide)]
      have lt:b + 2 ^ p < 2 ^ n:=by rw [← e]; exact putBit_lt hb hp
      rw [e,tb_add_same,hbit]
      by_cases h1:2 ^ p≤b
      · have e2:(b - 2 ^ p).testBit p = true:=by
          obtain ⟨c,rfl⟩:∃ c,b = c + 2 ^ p:=⟨b - 2 ^ p,by omega⟩
          rw [tb_add_same] at hbit
          rw [Nat.add_sub_cancel]
          simpa using hbit
        rw [e2]
        have h4:b - 2 ^ p < 2 ^ n:=by omega
        simp [hb,lt,h1,h4]
      · simp [hb,lt,h1]
    | true =>
      have ge:=ge_of_bit hbit
      have e:putBit b p (!true) = b - 2 ^ p:=by
        unfold putBit
        rw [hbit,if_neg (by decide),if_neg (by decide)]
      have e2:(b - 2 ^ p).testBit p = false:=by
        obtain ⟨c,rfl⟩:∃ c,b = c + 2 ^ p:=⟨b - 2 ^ p,by omega⟩
        rw [tb_add_same] at hbit
        rw [Nat.add_sub_cancel]
        simpa using hbit
      rw [e,tb_add_same,hbit,e2]
      have h4:b - 2 ^ p < 2 ^ n:=by omega
      simp [hb,ge,h4]
  · have h3:¬ b + 2 ^ p < 2 ^ n:=by omega
    have h5:(decide (2 ^ p≤b) && (decide (b - 2 ^ p < 2 ^ n) && (f (b - 2 ^ p) != (f (b - 2 ^ p) && (b - 2 ^ p).testBit p)))) = false:=by
      by_cases h1:2 ^ p≤b
      · by_cases h4:b - 2 ^ p < 2 ^ n
        · -- b lies at or beyond 2 ^ n,less 2 ^ p below it: its bit p is 1
          have e:(b - 2 ^ p).testBit p = true:=by
            cases q:(b - 2 ^ p).testBit p with
            | true=>rfl
            | false =>
              exfalso
              have l:=putBit_lt (v:=true) h4 hp
              unfold putBit at l
              rw [q,if_neg (by decide),if_pos rfl] at l
              omega
          rw [e]
          cases f (b - 2 ^ p) <;> simp
        · simp [h4]
      · simp [h1]
    rw [h5]
    simp [hb,h3]
end Sen
namespace Sen
open PySem
theorem tb0 (a:Nat):a % 2 = (a.testBit 0).toNat:=by
  rw [Nat.testBit_zero]
  have:=Nat.mod_two_eq_zero_or_one a
  rcases this with h | h <;> rw [h] <;> rfl
theorem xor_add:∀ (n a b:Nat),a≤n→(a ^^^ b) + 2 * (a &&& b) = a + b
  | 0,a,b,h=>by
    have:a = 0:=by omega
    subst this; simp
  | n + 1,a,b,h=>by
    by_cases h0:a = 0
    · subst h0; simp
    · have ih:=xor_add n (a / 2) (b / 2) (by omega)
      have e1:(a ^^^ b) / 2 = a / 2 ^^^ b / 2:=Nat.xor_div_two
      have e2:(a &&& b) / 2 = a / 2 &&& b / 2:=Nat.and_div_two
      have d1:=Nat.div_add_mod (a ^^^ b) 2
      have d2:=Nat.div_add_mod (a &&& b) 2
      have d3:=Nat.div_add_mod a 2
      have d4:=Nat.div_add_mod b 2
      rw [e1] at d1
      rw [e2] at d2
      cases ha:a.testBit 0 <;> cases hb:b.testBit 0
      · have m1:(a ^^^ b) % 2 = 0:=by rw [tb0,Nat.testBit_xor,ha,hb]; rfl
        have m2:(a &&& b) % 2 = 0:=by rw [tb0,Nat.testBit_and,ha,hb]; rfl
        have m3:a % 2 = 0:=by rw [tb0,ha]; rfl
        have m4:b % 2 = 0:=by rw [tb0,hb]; rfl
        omega
      · have m1:(a ^^^ b) % 2 = 1:=by rw [tb0,Nat.testBit_xor,ha,hb]; rfl
        have m2:(a &&& b) % 2 = 0:=by rw [tb0,Nat.testBit_and,ha,hb]; rfl
        have m3:a % 2 = 0:=by rw [tb0,ha]; rfl
        have m4:b % 2 = 1:=by rw [tb0,hb]; rfl
        omega
      · have m1:(a ^^^ b) % 2 = 1:=by rw [tb0,Nat.testBit_xor,ha,hb]; rfl
        have m2:(a &&& b) % 2 = 0:=by rw [tb0,Nat.testBit_and,ha,hb]; rfl
        have m3:a % 2 = 1:=by rw [tb0,ha]; rfl
        have m4:b % 2 = 0:=by rw [tb0,hb]; rfl
        omega
      · have m1:(a ^^^ b) % 2 = 0:=by rw [tb0,Nat.testBit_xor,ha,hb]; rfl
        have m2:(a &&& b) % 2 = 1:=by rw [tb0,Nat.testBit_and,ha,hb]; rfl
        have m3:a % 2 = 1:=by rw [tb0,ha]; rfl
        have m4:b % 2 = 1:=by rw [tb0,hb]; rfl
        omega
theorem or_add:∀ (n a b:Nat),a≤n→(a ||| b) + (a &&& b) = a + b
  | 0,a,b,h=>by
    have:a = 0:=by omega
    subst this; simp
  | n + 1,a,b,h=>by
    by_cases h0:a = 0
    · subst h0; simp
    · have ih:=or_add n (a / 2) (b / 2) (by omega)
      have e1:(a ||| b) / 2 = a / 2 ||| b / 2:=Nat.or_div_two
      have e2:(a &&& b) / 2 = a / 2 &&& b / 2:=Nat.and_div_two
      have d1:=Nat.div_add_mod (a ||| b) 2
      have d2:=Nat.div_add_mod (a &&& b) 2
      have d3:=Nat.div_add_mod a 2
      have d4:=Nat.div_add_mod b 2
      rw [e1] at d1
      rw [e2] at d2
      cases ha:a.testBit 0 <;> cases hb:b.testBit 0
      · have m1:(a ||| b) % 2 = 0:=by rw [tb0,Nat.testBit_or,ha,hb]; rfl
        have m2:(a &&& b) % 2 = 0:=by rw [tb0,Nat.testBit_and,ha,hb]; rfl
        have m3:a % 2 = 0:=by rw [tb0,ha]; rfl
        have m4:b % 2 = 0:=by rw [tb0,hb]; rfl
        omega
      · have m1:(a ||| b) % 2 = 1:=by rw [tb0,Nat.testBit_or,ha,hb]; rfl
        have m2:(a &&& b) % 2 = 0:=by rw [tb0,Nat.testBit_and,ha,hb]; rfl
        have m3:a % 2 = 0:=by rw [tb0,ha]; rfl
        have m4:b % 2 = 1:=by rw [tb0,hb]; rfl
        omega
      · have m1:(a ||| b) % 2 = 1:=by rw [tb0,Nat.testBit_or,ha,hb]; rfl
        have m2:(a &&& b) % 2 = 0:=by rw [tb0,Nat.testBit_and,ha,hb]; rfl
        have m3:a % 2 = 1:=by rw [tb0,ha]; rfl
        have m4:b % 2 = 0:=by rw [tb0,hb]; rfl
        omega
      · have m1:(a ||| b) % 2 = 1:=by rw [tb0,Nat.testBit_or,ha,hb]; rfl
        have m2:(a &&& b) % 2 = 1:=by rw [tb0,Nat.testBit_and,ha,hb]; rfl
        have m3:a % 2 = 1:=by rw [tb0,ha]; rfl
        have m4:b % 2 = 1:=by rw [tb0,hb]; rfl
        omega
theorem andI (a b:Nat):Builtin.bitAnd (a:Int) (b:Int) = ((a &&& b:Nat):Int):=by
  unfold Builtin.bitAnd
  rw [decide_eq_true (Int.natCast_nonneg a),decide_eq_true (Int.natCast_nonneg b)]
  simp
theorem orI (a b:Nat):Builtin.bitOr (a:Int) (b:Int) = ((a ||| b:Nat):Int):=by
  rw [PyProof.Rows.bitOr_and,andI]
  have:=or_add a a b (Nat.le_refl _)
  omega
theorem xorI (a b:Nat):Builtin.bitXor (a:Int) (b:Int) = ((a ^^^ b:Nat):Int):=by
  rw [PyProof.Rows.bitXor_and,andI]
  have:=xor_add a a b (Nat.le_refl _)
  omega
theorem powI (n:Nat):(2:Int) ^ n = ((2 ^ n:Nat):Int):=by simp
end Sen
namespace L2
open PySem PySem.Spec PyProof.Rows Sen
section
variable {X:Cx}
def rShlN:R2:=fun x y H Q=>∃ a n:Nat,x = .int a∧y = .int n∧a < 2 ^ 10000∧n≤10000∧Q (.int (a * 2 ^ n:Nat)) H
theorem op_shlN:OpR X (binaryOp .LShift) rShlN:=by
  intro pins s σ H x y v u Q I rx ry h
  obtain ⟨a,n,rfl,rfl,ha,hn,q⟩:=h
  obtain ⟨t,rfl⟩:=rx
  obtain ⟨t',rfl⟩:=ry
  have hb:Builtin.Int.intBits (a:Int)≤10000:=intBits_le (by simpa using ha)
  refine lshift_int (Int.natCast_nonneg n) ?_ ?_
  · have e:(2:Int) ^ 27 = 134217728:=by decide
    rw [e]; omega
  · rw [Int.toNat_natCast]
    have e:(a:Int) * 2 ^ n = ((a * 2 ^ n:Nat):Int):=by rw [powI,Int.natCast_mul]
    rw [e]
    exact ⟨.int (a * 2 ^ n:Nat),H,I.tok _,⟨_,rfl⟩,q⟩
def rShrN:R2:=fun x y H Q=>∃ a n:Nat,x = .int a∧y = .int n∧Q (.int (a / 2 ^ n:Nat)) H
theorem op_shrN:OpR X (binaryOp .RShift) rShrN:=by
  intro pins s σ H x y v u Q I rx ry h
  obtain ⟨a,n,rfl,rfl,q⟩:=h
  refine op_shr pins s σ H _ _ v u Q I rx ry ⟨_,_,rfl,rfl,Int.natCast_nonneg n,?_⟩
  show Q (.int ((a:Int) / 2 ^ (n:Int).toNat)) H
  rw [Int.toNat_natCast,powI,← Int.natCast_ediv]
  exact q
def rN2 (g:Nat→Nat→Nat):R2:=fun x y H Q=>∃ a b:Nat,x = .int a∧y = .int b∧Q (.int (g a b:Nat)) H
theorem op_andN:OpR X (binaryOp .BitAnd) (rN2 (· &&& ·)):=by
  intro pins s σ H x y v u Q I rx ry h
  obtain ⟨a,b,rfl,rfl,q⟩:=h
  exact op_and pins s σ H _ _ v u Q I rx ry ⟨_,_,rfl,rfl,by show Q (.int (Builtin.bitAnd a b)) H; rw [andI]; exact q⟩
theorem op_orN:OpR X (binaryOp .BitOr) (rN2 (· ||| ·)):=by
  intro pins s σ H x y v u Q I rx ry h
  obtain ⟨a,b,rfl,rfl,q⟩:=h
  exact op_or pins s σ H _ _ v u Q I rx ry ⟨_,_,rfl,rfl,by show Q (.int (Builtin.bitOr a b)) H; rw [orI]; exact q⟩
theorem op_xorN:OpR X (binaryOp .BitXor) (rN2 (· ^^^ ·)):=by
  intro pins s σ H x y v u Q I rx ry h
  obtain ⟨a,b,rfl,rfl,q⟩:=h
  exact op_xor pins s σ H _ _ v u Q I rx ry ⟨_,_,rfl,rfl,by show Q (.int (Builtin.bitXor a b)) H; rw [xorI]; exact q⟩
end
end L2
namespace L2
open PySem PySem.Spec PyProof.Rows
def strsOf:List Expr→Option (List Str)
  | []=>some []
  | .Constant (.str x) _ _ :: r=>(strsOf r).map (x :: ·)
  | _=>none
theorem strsOf_cons {e:Expr} {r:List Expr} {xs:List Str} (h:strsOf (e :: r) = some xs):∃ x j p ys,e = .Constant (.str x) j p∧strsOf r = some ys∧xs = x :: ys:=by
  cases e with
  | Constant c j p =>
    cases c with
    | str x =>
      have h':(strsOf r).map (x :: ·) = some xs:=h
      cases hr:strsOf r with
      | none=>rw [hr] at h'; cases h'
      | some ys =>
        rw [hr] at h'
        exact ⟨x,j,p,ys,rfl,rfl,(Option.some.inj h').symm⟩
    | _=>cases h
  | _=>cases h
def tStrs (xs:List Str):TA:=fun _ H Q=>Q (xs.map V.str) H
def tStrL (xs:List Str):TE:=fun _ H Q=>xs.length≤sizeLine∧∀ p,H p = none→Q (.ref p) (upd H p (.lst (xs.map V.str)))
section
variable {X:Cx}
theorem pa_strs {es:List Expr}:∀ {xs:List Str},strsOf es = some xs→PA X es (tStrs xs):=by
  induction es with
  | nil =>
    intro xs h
    cases h
    exact fun pos pins s σ H Q I q=>pa_nil pos pins s σ H Q I q
  | cons e r ih =>
    intro xs h
    obtain ⟨x,j,p,ys,rfl,hr,rfl⟩:=strsOf_cons h
    exact fun pos pins s σ H Q I q=>pa_cons (pe_str (x:=x) (j:=j) (pos:=p)) (ih hr) rfl pos pins s σ H Q I q
theorem pe_strs {es:List Expr} {pos:Pos} {xs:List Str} (h:strsOf es = some xs):PE X (.List es pos) (tStrL xs):=by
  intro pins s σ H Q I q
  refine pe_lst (pa_strs h) pins s σ H Q I ⟨?_,q.2⟩
  rw [List.length_map]; exact q.1
def litAsg:Stmt→Option (Str × List Str)
  | .Assign [.Name x _] (.List es _) _=>(strsOf es).map (x,·)
  | _=>none
theorem litAsg_shape {st:Stmt} {x:Str} {xs:List Str} (h:litAsg st = some (x,xs)):∃ p es q r,st = .Assign [.Name x p] (.List es q) r∧strsOf es = some xs:=by
  unfold litAsg at h
  split at h
  · rename_i y p es q r
    cases hs:strsOf es with
    | none=>rw [hs] at h; cases h
    | some ys =>
      rw [hs] at h
      cases h
      exact ⟨_,_,_,_,rfl,hs⟩
  · cases h
theorem ps_litL {i:Nat} {x:Str} {xs:List Str} {st:Stmt} (h:litAsg st = some (x,xs)) (hN:X.N.Nodup) (hi:X.N[i]? = some x) (hx:Loc X.env.scope x) (hf:X.fn x = true∨X.env.scope.names.lookup x = some .local):PS X st (tAsg (tStrL xs) (gName i)):=by
  obtain ⟨p,es,q,r,rfl,hs⟩:=litAsg_shape h
  exact ps_set hN hi hx (pe_strs hs) rfl hf
end
end L2
set_option exponentiation.threshold 20000
namespace Sen
open PySem L2
section
variable {K:PySem.W.Frag}
theorem lt10k {a k:Nat} (h:a < 2 ^ k) (hk:k≤10000):a < 2 ^ 10000:=Nat.lt_of_lt_of_le h (Nat.pow_le_pow_right (by decide) hk)
theorem two8 {n:Nat} (hn:n≤8):2 ^ n≤256:=Nat.pow_le_pow_right (n:=2) (by decide) hn
def spAllRows:Sp:=fun vs H Q _=>∃ n:Nat,vs = [.int n]∧n≤8∧Q (.int ((2 ^ 2 ^ n - 1:Nat):Int)) H
def spRowsWith:Sp:=fun vs H Q _=>∃ p n:Nat,vs = [.int p,.int n]∧p < n∧n≤8∧∀ R:Nat,IsTab n R (fun b=>b.testBit p)→Q (.int R) H
def spFlipped:Sp:=fun vs H Q _=>∃ (N p n:Nat) (f:Nat→Bool),vs = [.int N,.int p,.int n]∧p < n∧n≤8∧IsTab n N f∧∀ R:Nat,IsTab n R (fun b=>f (putBit b p (!b.testBit p)))→Q (.int R) H
abbrev rowV (r:List Bool):List V:=r.map fun b=>V.int (b.toNat:Nat)
theorem same_new {H:Hp} {p:Addr} (h:H p = none) (o:HO):Same H (upd H p o):=fun b u q=>by rw [upd_ne (ne_of_none q h)]; exact q
def spCellAt (K:PySem.W.Frag):Sp:=fun vs H Q _=>∃ (l:Addr) (ns:List Int) (i:Int),vs = [.ref l,.int i]∧SqL K H l (ns.map V.int)∧0≤i∧∀ v:Int,Q (.int v) H
def spDraw:Sp:=fun vs H Q _=>∃ (c:Int) (k:Nat) (b:Int),vs = [.int c,.int k,.int b]∧k≤40∧0 < b∧b < 1073741824∧∀ r:Int,0≤r→r < b→Q (.int r) H
def letts:List Str:=["a", "b", "c", "d", "e", "f", "g", "h"]
structure IsOrd (os:List Str):Prop where
  nd:os.Nodup
  mem:∀ x∈os,x∈letts
  pos:0 < os.length
theorem nodup_le {α:Type} [DecidableEq α]:∀ {xs ys:List α},xs.Nodup→(∀ x∈xs,x∈ys)→xs.length≤ys.length
  | [],_,_,_=>Nat.zero_le _
  | x :: xs,ys,nd,h=>by
    obtain ⟨h1,h2⟩:=List.nodup_cons.mp nd
    have hx:=h x List.mem_cons_self
    have ih:=nodup_le (xs:=xs) (ys:=ys.erase x) h2 fun y hy=>(List.mem_erase_of_ne (fun e:y = x=>h1 (by rw [← e]; exact hy))).mpr (h y (List.mem_cons_of_mem _ hy))
    rw [List.length_erase_of_mem hx] at ih
    have:=List.length_pos_of_mem hx
    rw [List.length_cons]
    omega
theorem IsOrd.le {os:List Str} (h:IsOrd os):os.length≤8:=nodup_le h.nd h.mem
def IsS (H:Hp):Sn→Addr→Prop
  | .c0 y,p=>H p = some (.tup [.str (Sn.word (.c0 y))])
  | .mk x,p=>H p = some (.tup [.str "mark", .str x])
  | .nt s,p=>∃ q,H p = some (.tup [.str "not", .ref q])∧IsS H s q
  | .b2 o s t,p=>∃ q r,H p = some (.tup [.str (w2 o),.ref q,.ref r])∧IsS H s q∧IsS H t r
  | .q1 o x s,p=>∃ q,H p = some (.tup [.str (if o then "some" else "each"),.str x,.ref q])∧IsS H s q
def Tups (H H':Hp):Prop:=∀ b xs,H b = some (.tup xs)→H' b = some (.tup xs)
theorem Tups.refl (H:Hp):Tups H H:=fun _ _ h=>h
theorem Tups.trans {H H1 H2:Hp} (a:Tups H H1) (b:Tups H1 H2):Tups H H2:=fun c o h=>b c o (a c o h)
theorem Tups.of {H H':Hp} (g:Same H H'):Tups H H':=fun b xs h=>g b _ h
theorem Tups.new {H:Hp} {p:Addr} (h:H p = none) (o:HO):Tups H (upd H p o):=fun b u q=>by rw [upd_ne (ne_of_none q h)]; exact q
theorem Tups.lst {H:Hp} {p:Addr} {xs:List V} (h:H p = some (.lst xs)) (o:HO):Tups H (upd H p o):=fun b u q=>by rw [upd_ne (ne_of q h (fun z=>nomatch z))]; exact q
theorem IsS.mono {H H':Hp} (g:Tups H H'):∀ {s:Sn} {p:Addr},IsS H s p→IsS H' s p
  | .c0 y,p,h=>g _ _ h
  | .mk x,p,h=>g _ _ h
  | .nt s,p,⟨q,h,k⟩=>⟨q,g _ _ h,k.mono g⟩
  | .b2 o s t,p,⟨q,r,h,k,l⟩=>⟨q,r,g _ _ h,k.mono g,l.mono g⟩
  | .q1 o x s,p,⟨q,h,k⟩=>⟨q,g _ _ h,k.mono g⟩
theorem q1_word (o:Bool) (x:Str) (s:Sn):Sn.word (.q1 o x s) = if o then Str.ofString "some" else Str.ofString "each" := by cases o <;> rfl
theorem IsS.shape {H:Hp}:∀ {s:Sn} {p:Addr},IsS H s p→∃ qs:List Addr,H p = some (.tup (.str s.word :: (s.letters.map V.str ++ qs.map V.ref)))∧Paired (IsS H) s.parts qs
  | .c0 y,p,h=>⟨[],h,.nil⟩
  | .mk x,p,h=>⟨[],h,.nil⟩
  | .nt s,p,⟨q,h,k⟩=>⟨[q],h,.cons k .nil⟩
  | .b2 o s t,p,⟨q,r,h,k,l⟩=>⟨[q,r],h,.cons k (.cons l .nil)⟩
  | .q1 o x s,p,⟨q,h,k⟩=>⟨[q],by rw [q1_word]; exact h,.cons k .nil⟩
theorem atI_has {α:Type} {xs:List α} {i:Int} (h0:-(xs.length:Int)≤i) (h1:i < xs.length):∃ (j:Nat) (v:α),atI xs i = some v∧xs[j]? = some v:=by
  by_cases h:0≤i
  · have hj:i.toNat < xs.length:=by omega
    have q:=atI_nat (xs:=xs) (j:=i.toNat) (List.getElem?_eq_getElem hj)
    have e:((i.toNat:Nat):Int) = i:=by omega
    rw [e] at q
    exact ⟨_,_,q,List.getElem?_eq_getElem hj⟩
  · have hj:(i + xs.length).toNat < xs.length:=by omega
    refine ⟨_,_,?_,List.getElem?_eq_getElem hj⟩
    unfold atI ixN
    rw [if_neg h,if_pos h0]
    show xs[(i + xs.length).toNat]? = _
    exact List.getElem?_eq_getElem hj
def kindsS:List Str:=["mark", "mark", "not", "and", "or", "either", "if", "and", "or", "some", "each", "yes", "no", "mark"]
structure Made (H0 H:Hp) (os:List Str) (m kd:Addr) (ps:List Addr) (d:Nat):Prop where
  old:Same H0 H
  mad:H m = some (.lst (ps.map V.ref))
  kin:H kd = some (.lst (kindsS.map V.str))
  ne:ps≠[]
  all:∀ p∈ps,∃ s,IsS H s p∧s.inO os∧s.depth≤d
theorem Made.push {H0 H:Hp} {os:List Str} {m kd p:Addr} {ps:List Addr} {d:Nat} {xs:List V} (M:Made H0 H os m kd ps d) (fm:H0 m = none) (hp:H p = none) {s:Sn} (hs:IsS (upd H p (.tup xs)) s p) (ho:s.inO os) (hd:s.depth≤d + 1) (hk:m≠kd) :
    Made H0 (upd (upd H p (.tup xs)) m (.lst ((ps ++ [p]).map V.ref))) os m kd (ps ++ [p]) (d + 1):=by
  have hm:m≠p:=ne_of_none M.mad hp
  have hkp:kd≠p:=ne_of_none M.kin hp
  have mad':(upd H p (.tup xs)) m = some (.lst (ps.map V.ref)):=by rw [upd_ne hm]; exact M.mad
  have t1:Tups H (upd H p (.tup xs)):=Tups.new hp _
  have t2:Tups (upd H p (.tup xs)) (upd (upd H p (.tup xs)) m (.lst ((ps ++ [p]).map V.ref))):=Tups.lst mad' _
  refine ⟨fun b o h=>?_,upd_same,?_,by simp,fun q hq=>?_⟩
  · have h1:=M.old b o h
    rw [upd_ne (ne_of_none h fm),upd_ne (ne_of_none h1 hp)]
    exact h1
  · rw [upd_ne (Ne.symm hk),upd_ne hkp]; exact M.kin
  · rcases List.mem_append.mp hq with z | z
    · obtain ⟨s',q1,q2,q3⟩:=M.all q z
      exact ⟨s',(q1.mono t1).mono t2,q2,by omega⟩
    · have z':q = p:=by simpa using z
      subst z'
      exact ⟨s,hs.mono t2,ho,hd⟩
def spSentence (K:PySem.W.Frag):Sp:=fun vs H Q _=>∃ (sc ol:Addr) (ns:List Int) (t m:Nat) (os:List Str),vs = [.ref sc,.int t,.int m,.ref ol]∧SqL K H sc (ns.map V.int)∧SqL K H ol (os.map V.str)∧0 < os.length∧os.length≤8∧0 < m∧m≤40∧t≤60 ∧
  ∀ (p:Addr) (H':Hp) (s:Sn),Same H H'→IsS H' s p→s.inO os→s.depth≤m→Q (.ref p) H'
theorem pick_letter {os:List Str} (h0:0 < os.length) (r:Int):∃ x,x∈os∧atI (os.map V.str) (r % ((os.map V.str).length:Nat)) = some (.str x):=by
  have e:(os.map V.str).length = os.length:=List.length_map _
  have m0:0≤r % ((os.map V.str).length:Nat):=Int.emod_nonneg _ (by omega)
  have m1:r % ((os.map V.str).length:Nat) < ((os.map V.str).length:Nat):=Int.emod_lt_of_pos _ (by omega)
  obtain ⟨j,v,q1,q2⟩:=atI_has (xs:=os.map V.str) (i:=r % ((os.map V.str).length:Nat)) (by omega) m1
  rw [List.getElem?_map] at q2
  cases hx:os[j]? with
  | none=>rw [hx] at q2; cases q2
  | some x =>
    rw [hx] at q2
    cases q2
    exact ⟨x,List.mem_of_getElem? hx,q1⟩
theorem pick_made {ps:List Addr} {i:Int} (h0:-(ps.length:Int)≤i) (h1:i < ps.length):∃ p,p∈ps∧atI (ps.map V.ref) i = some (.ref p):=by
  have e:(ps.map V.ref).length = ps.length:=List.length_map _
  obtain ⟨j,v,q1,q2⟩:=atI_has (xs:=ps.map V.ref) (i:=i) (by omega) (by omega)
  rw [List.getElem?_map] at q2
  cases hx:ps[j]? with
  | none=>rw [hx] at q2; cases q2
  | some x =>
    rw [hx] at q2
    cases q2
    exact ⟨x,List.mem_of_getElem? hx,q1⟩
end
end Sen
namespace L2
open PySem
section
variable {α β:Type} {R S:α→β→Prop}
theorem pd_app:∀ {xs ys:List α} {us ws:List β},Paired R xs us→Paired R ys ws→Paired R (xs ++ ys) (us ++ ws)
  | _,_,_,_,.nil,s=>s
  | _,_,_,_,.cons r t,s=>.cons r (pd_app t s)
theorem pd_imp (f:∀ a b,R a b→S a b):∀ {xs:List α} {us:List β},Paired R xs us→Paired S xs us
  | _,_,.nil=>.nil
  | _,_,.cons r t=>.cons (f _ _ r) (pd_imp f t)
theorem pd_len:∀ {xs:List α} {us:List β},Paired R xs us→xs.length = us.length
  | _,_,.nil=>rfl
  | _,_,.cons _ t=>by rw [List.length_cons,List.length_cons,pd_len t]
theorem pd_at:∀ {xs:List α} {us:List β} {i:Nat} {x:α},Paired R xs us→xs[i]? = some x→∃ u,us[i]? = some u∧R x u
  | _,_,_,_,.nil,e=>by simp at e
  | _,_,0,_,.cons r _,e=>by simp at e; subst e; exact ⟨_,rfl,r⟩
  | _,_,i + 1,x,.cons _ t,e=>by
    obtain ⟨u,h1,h2⟩:=pd_at (i:=i) (x:=x) t (by simpa using e)
    exact ⟨u,by simpa using h1,h2⟩
theorem pd_ta:∀ {xs:List α} {us:List β} {i:Nat} {u:β},Paired R xs us→us[i]? = some u→∃ x,xs[i]? = some x∧R x u
  | _,_,_,_,.nil,e=>by simp at e
  | _,_,0,_,.cons r _,e=>by simp at e; subst e; exact ⟨_,rfl,r⟩
  | _,_,i + 1,x,.cons _ t,e=>by
    obtain ⟨u,h1,h2⟩:=pd_ta (i:=i) (u:=x) t (by simpa using e)
    exact ⟨u,by simpa using h1,h2⟩
theorem take_next {α:Type} {xs:List α} {i:Nat} {x:α} (h:xs[i]? = some x):xs.take (i + 1) = xs.take i ++ [x]:=by
  rw [List.take_succ,h]
  rfl
theorem Same.seqT {K:PySem.W.Frag} {H H':Hp} {a:Addr} {xs:List V} (e:Same H H') (h:SqT K H a xs):SqT K H' a xs:=by
  rcases h with (h | ⟨o,h⟩) | h
  · exact .inl (.inl (e _ _ h))
  · exact .inl (.inr ⟨o,e _ _ h⟩)
  · exact .inr h
theorem Same.new {H:Hp} {p:Addr} (h:H p = none) (o:HO):Same H (upd H p o):=fun b u q=>by rw [upd_ne (ne_of_none q h)]; exact q
theorem Same.over {H H':Hp} {p:Addr} (g:Same H H') (h:H p = none) (o:HO):Same H (upd H' p o):=fun b u q=>by rw [upd_ne (ne_of_none q h)]; exact g b u q
theorem at0 {α:Type} {x:α} {xs:List α}:atI (x :: xs) 0 = some x:=atI_nat (j:=0) rfl
theorem at1 {α:Type} {x y:α} {xs:List α}:atI (x :: y :: xs) 1 = some y:=atI_nat (j:=1) rfl
end
section
variable {K:PySem.W.Frag} {a:Addr} {xs:List V} {σ:St} {js:List Nat} {te:TE} {H:Hp} {Qf:Addr→Hp→List V→Prop}
theorem lc_relL (R:V→V→Prop) (hq:SqL K H a xs) (hz:xs.length≤sizeLine)
    (hs:∀ (i:Nat) x H',xs[i]? = some x→Same H H'→te (lcS σ js (some x)) H' fun v H3=>R x v∧Same H H3)
    (me:∀ σ H Q Q',(∀ v H1,Q v H1→Q' v H1)→te σ H Q→te σ H Q')
    (hd:∀ ys H' p,Paired R xs ys→Same H H'→H' p = none→Qf p H' ys) :
    ∃ W:Nat→Nat→List V→Hp→Prop,(∃ m,W 0 m [] H)∧∀ i m ys H,W i m ys H →
      ((Itl K a).stop i H∧∀ p,H p = none→Qf p H ys) ∨
      ((Itl K a).go i H∧ys.length < sizeLine∧∀ x H',(Itl K a).yld i H x H'→tYes (lcS σ js (some x)) H' fun b H2 =>
        if b = true then te (lcS σ js (some x)) H2 fun v H3=>∃ m',m' < m∧W (i + 1) m' (ys ++ [v]) H3 else ∃ m',m' < m∧W (i + 1) m' ys H2):=by
  refine lc_list (fun i ys H'=>Same H H'∧Paired R (xs.take i) ys) ⟨Same.refl _,.nil⟩ hz ?_ ?_ (fun _ _ _ _ h q=>h _ _ q) me ?_
  · rintro i ys H' hi ⟨g,r⟩
    have:=pd_len r
    rw [List.length_take] at this
    exact ⟨g.seq hq,by omega⟩
  · rintro i x ys H' hx ⟨g,r⟩
    show te (lcS σ js (some x)) H' fun v H3=>Same H H3∧Paired R (xs.take (i + 1)) (ys ++ [v])
    refine me _ _ _ _ (fun v H3 h3=>⟨h3.2,?_⟩) (hs i x H' hx g)
    rw [take_next hx]
    exact pd_app r (.cons h3.1 .nil)
  · rintro ys H' p ⟨g,r⟩ hp
    rw [List.take_length] at r
    exact hd ys H' p r g hp
theorem lc_relT (R:V→V→Prop) (hq:SqT K H a xs) (hz:xs.length≤sizeLine)
    (hs:∀ (i:Nat) x H',xs[i]? = some x→Same H H'→te (lcS σ js (some x)) H' fun v H3=>R x v∧Same H H3)
    (me:∀ σ H Q Q',(∀ v H1,Q v H1→Q' v H1)→te σ H Q→te σ H Q')
    (hd:∀ ys H' p,Paired R xs ys→Same H H'→H' p = none→Qf p H' ys) :
    ∃ W:Nat→Nat→List V→Hp→Prop,(∃ m,W 0 m [] H)∧∀ i m ys H,W i m ys H →
      ((Itt K a).stop i H∧∀ p,H p = none→Qf p H ys) ∨
      ((Itt K a).go i H∧ys.length < sizeLine∧∀ x H',(Itt K a).yld i H x H'→tYes (lcS σ js (some x)) H' fun b H2 =>
        if b = true then te (lcS σ js (some x)) H2 fun v H3=>∃ m',m' < m∧W (i + 1) m' (ys ++ [v]) H3 else ∃ m',m' < m∧W (i + 1) m' ys H2):=by
  refine lc_tup (fun i ys H'=>Same H H'∧Paired R (xs.take i) ys) ⟨Same.refl _,.nil⟩ hz ?_ ?_ (fun _ _ _ _ h q=>h _ _ q) me ?_
  · rintro i ys H' hi ⟨g,r⟩
    have:=pd_len r
    rw [List.length_take] at this
    exact ⟨g.seqT hq,by omega⟩
  · rintro i x ys H' hx ⟨g,r⟩
    show te (lcS σ js (some x)) H' fun v H3=>Same H H3∧Paired R (xs.take (i + 1)) (ys ++ [v])
    refine me _ _ _ _ (fun v H3 h3=>⟨h3.2,?_⟩) (hs i x H' hx g)
    rw [take_next hx]
    exact pd_app r (.cons h3.1 .nil)
  · rintro ys H' p ⟨g,r⟩ hp
    rw [List.take_length] at r
    exact hd ys H' p r g hp
theorem pd_map {f:V→V}:∀ {xs ys:List V},Paired (fun x v=>v = f x) xs ys→ys = xs.map f
  | _,_,.nil=>rfl
  | _,_,.cons r t=>by rw [List.map_cons,r,pd_map t]
end
section
variable {X:Cx} {K:PySem.W.Frag} {a:Expr} {ta:TE}
theorem op_inK (h:X.K = K):OpR X (compareOp .In) (rIn K false):=by subst h; exact op_in_seq
theorem call_isinstK (h:X.K = K):CallR X (.builtin "isinstance") (fun xs H Q=>∃ x T t b,xs = [x,.ty T]∧TyOf K H x t∧PySem.W.kitOne K t (.type T) = some b∧Q (.bl b) H):=by subst h; exact call_isinst
def SpMono (sp:Sp):Prop:=∀ vs H Q Q' E,(∀ v H1,Q v H1→Q' v H1)→sp vs H Q E→sp vs H Q' E
theorem mono1 {sp:Sp} (m:SpMono sp):∀ σ H Q Q',(∀ v H1,Q v H1→Q' v H1)→tCall sp [] E0 (tCons (tVar 0) tNil) σ H Q→tCall sp [] E0 (tCons (tVar 0) tNil) σ H Q' :=
  fun σ H Q Q' h ⟨v,e,q⟩=>⟨v,e,m _ _ _ _ _ h q⟩
theorem inV_strs (x:Str) (ts:List Str):inV (.str x) (ts.map V.str) = decide (x∈ts):=by
  induction ts with
  | nil=>rfl
  | cons t r ih =>
    have e:inV (.str x) ((t :: r).map V.str) = ((t == x) || inV (.str x) (r.map V.str)):=rfl
    rw [e,ih]
    by_cases h:t = x
    · subst h; simp
    · have h':¬ x = t:=fun z=>h z.symm
      simp [h,h']
theorem flat_strs (ts:List Str):(ts.map V.str).all flatV = true:=by
  rw [List.all_map,List.all_eq_true]
  exact fun _ _=>rfl
theorem cut_fore {w:V} {rest:List V} {m n:Nat} (h:rest.length = m + n):cutV (w :: rest) (some 1) (some (1 + (m:Int))) = rest.take m:=by
  have e1:HT.sIx (w :: rest).length 0 (some 1) = min 1 (w :: rest).length:=HT.sIx_nat _ _ 1
  have e2:HT.sIx (w :: rest).length (w :: rest).length (some (1 + (m:Int))) = min (1 + m) (w :: rest).length:=by
    have z:(1:Int) + (m:Int) = ((1 + m:Nat):Int):=by omega
    rw [z]; exact HT.sIx_nat _ _ _
  have l:(w :: rest).length = m + n + 1:=by rw [List.length_cons,h]
  unfold cutV
  rw [e1,e2,l,Nat.min_eq_left (by omega),Nat.min_eq_left (by omega),List.drop_one,List.tail_cons]
  congr 1
  omega
theorem cut_rear {w:V} {rest:List V} {m n:Nat} (h:rest.length = m + n):cutV (w :: rest) (some (1 + (m:Int))) none = rest.drop m:=by
  have e2:HT.sIx (w :: rest).length 0 (some (1 + (m:Int))) = min (1 + m) (w :: rest).length:=by
    have z:(1:Int) + (m:Int) = ((1 + m:Nat):Int):=by omega
    rw [z]; exact HT.sIx_nat _ _ _
  have l:(w :: rest).length = m + n + 1:=by rw [List.length_cons,h]
  unfold cutV
  rw [e2,HT.sIx_none,l,Nat.min_eq_left (by omega),Nat.add_comm 1 m,List.drop_succ_cons,List.take_of_length_le]
  rw [List.length_drop,h]
  omega
theorem not_whole1 {w:V} {rest:List V} {i:Int} {o:Option Int} (h:1≤i):¬ (HT.sIx (w :: rest).length 0 (some i) = 0∧HT.sIx (w :: rest).length (w :: rest).length o = (w :: rest).length):=by
  rintro ⟨h1,_⟩
  have e:HT.sIx (w :: rest).length 0 (some i) = min i.toNat (w :: rest).length:=by
    have z:=HT.sIx_nat (w :: rest).length 0 i.toNat
    have z2:((i.toNat:Nat):Int) = i:=by omega
    rw [z2] at z
    exact z
  rw [e,List.length_cons] at h1
  omega
end
end L2
namespace Sen
open PySem L2
section
variable {K:PySem.W.Frag}
def Sn.all:Sn→List Str
  | .c0 _=>[]
  | .mk x=>[x]
  | .nt s=>s.all
  | .b2 _ s t=>s.all ++ t.all
  | .q1 _ x s=>x :: s.all
theorem Sn.all_iff:∀ (s:Sn) (x:Str),x∈s.all↔x∈s.letters∨∃ t∈s.parts,x∈t.all
  | .c0 _,x=>by simp [Sn.all,Sn.letters,Sn.parts]
  | .mk y,x=>by simp [Sn.all,Sn.letters,Sn.parts]
  | .nt s,x=>by simp [Sn.all,Sn.letters,Sn.parts]
  | .b2 _ s t,x=>by simp [Sn.all,Sn.letters,Sn.parts]
  | .q1 _ y s,x=>by simp [Sn.all,Sn.letters,Sn.parts]
theorem Sn.inO_iff {os:List Str}:∀ (s:Sn),s.inO os↔∀ x∈s.all,x∈os
  | .c0 _=>by simp [Sn.all,Sn.inO]
  | .mk y=>by simp [Sn.all,Sn.inO]
  | .nt s=>by simp only [Sn.all,Sn.inO]; exact Sn.inO_iff s
  | .b2 _ s t=>by
    simp only [Sn.all,Sn.inO,List.mem_append]
    rw [Sn.inO_iff s,Sn.inO_iff t]
    exact ⟨fun h x hx=>hx.elim (h.1 x) (h.2 x),fun h=>⟨fun x hx=>h x (.inl hx),fun x hx=>h x (.inr hx)⟩⟩
  | .q1 _ y s=>by
    simp only [Sn.all,Sn.inO,List.mem_cons]
    rw [Sn.inO_iff s]
    exact ⟨fun h x hx=>hx.elim (fun e=>by rw [e]; exact h.1) (h.2 x),fun h=>⟨h y (.inl rfl),fun x hx=>h x (.inr hx)⟩⟩
theorem Sn.parts_le:∀ s:Sn,s.parts.length≤2
  | .c0 _=>by simp [Sn.parts]
  | .mk _=>by simp [Sn.parts]
  | .nt _=>by simp [Sn.parts]
  | .b2 _ _ _=>by simp [Sn.parts]
  | .q1 _ _ _=>by simp [Sn.parts]
theorem Sn.letters_le:∀ s:Sn,s.letters.length≤1
  | .c0 _=>by simp [Sn.letters]
  | .mk _=>by simp [Sn.letters]
  | .nt _=>by simp [Sn.letters]
  | .b2 _ _ _=>by simp [Sn.letters]
  | .q1 _ _ _=>by simp [Sn.letters]
def cnt (ss:List Sn):Nat:=(ss.map Sn.count).sum
theorem cnt_cons (s:Sn) (ss:List Sn):cnt (s :: ss) = s.count + cnt ss:=rfl
theorem cnt_app (ss ts:List Sn):cnt (ss ++ ts) = cnt ss + cnt ts:=by
  unfold cnt; rw [List.map_append,List.sum_append]
theorem cnt_parts:∀ ss:List Sn,cnt ss = ss.length + cnt (ss.flatMap Sn.parts)
  | []=>rfl
  | s :: ss=>by
    rw [cnt_cons,List.flatMap_cons,cnt_app,cnt_parts ss,Sn.count_parts s,List.length_cons]
    show 1 + cnt s.parts + _ = _
    omega
theorem cnt_len (ss:List Sn):ss.length≤cnt ss:=by rw [cnt_parts]; omega
theorem mem_level {ss:List Sn} {t:Sn}:t∈ss.flatMap Sn.parts↔∃ s∈ss,t∈s.parts:=List.mem_flatMap
def spIsMark:Sp:=fun vs H Q _=>∃ x:Str,vs = [.str x]∧Q (.bl (decide (x∈letts))) H
theorem mono_isMark:SpMono spIsMark:=fun vs H Q Q' E h ⟨x,e,q⟩=>⟨x,e,h _ _ q⟩
def ordB (os:List Str):Bool:=decide (0 < os.length) && (os.all (fun x=>decide (x∈letts)) && decide os.Nodup)
theorem ordB_of {os:List Str} (h:IsOrd os):ordB os = true:=by
  unfold ordB
  rw [decide_eq_true h.pos,decide_eq_true h.nd,List.all_eq_true.mpr fun x hx=>decide_eq_true (h.mem x hx)]
  rfl
def spIsOrder (K:PySem.W.Frag):Sp:=fun vs H Q _=>∃ (l:Addr) (os:List Str),vs = [.ref l]∧SqL K H l (os.map V.str)∧os.length≤100∧∀ H',Same H H'→Q (.bl (ordB os)) H'
def tb_SHAPES:List (Str × Int × Int):=[("yes", 0,0),("no", 0,0),("mark", 1,0),("not", 0,1),("and", 0,2),("or", 0,2),("either", 0,2),("if", 0,2),("some", 1,1),("each", 1,1)]
theorem shape_in (s:Sn):(s.word,((s.letters.length:Nat):Int),((s.parts.length:Nat):Int))∈tb_SHAPES:=by
  cases s with
  | c0 y =>
    cases y
    · show ((Str.ofString "no", (0:Int),(0:Int)):Str × Int × Int)∈tb_SHAPES
      decide +kernel
    · show ((Str.ofString "yes", (0:Int),(0:Int)):Str × Int × Int)∈tb_SHAPES
      decide +kernel
  | mk x =>
    show ((Str.ofString "mark", (1:Int),(0:Int)):Str × Int × Int)∈tb_SHAPES
    decide +kernel
  | nt s =>
    show ((Str.ofString "not", (0:Int),(1:Int)):Str × Int × Int)∈tb_SHAPES
    decide +kernel
  | b2 o s t =>
    show ((w2 o,(0:Int),(2:Int)):Str × Int × Int)∈tb_SHAPES
    revert o
    decide +kernel
  | q1 o x s =>
    cases o
    · show ((Str.ofString "each", (1:Int),(1:Int)):Str × Int × Int)∈tb_SHAPES
      decide +kernel
    · show ((Str.ofString "some", (1:Int),(1:Int)):Str × Int × Int)∈tb_SHAPES
      decide +kernel
def spLettersOf:Sp:=fun vs H Q _=>∃ (p:Addr) (x:Str) (m n:Nat) (rest:List V),vs = [.ref p]∧H p = some (.tup (.str x :: rest))∧(x,(m:Int),(n:Int))∈tb_SHAPES∧rest.length = m + n∧∀ q,H q = none→Q (.ref q) (upd H q (.tup (rest.take m)))
def spPartsOf:Sp:=fun vs H Q _=>∃ (p:Addr) (x:Str) (m n:Nat) (rest:List V),vs = [.ref p]∧H p = some (.tup (.str x :: rest))∧(x,(m:Int),(n:Int))∈tb_SHAPES∧rest.length = m + n∧∀ q,H q = none→Q (.ref q) (upd H q (.tup (rest.drop m)))
theorem sen_cut {H:Hp} {s:Sn} {p:Addr} (h:IsS H s p):∃ qs:List Addr,H p = some (.tup (.str s.word :: (s.letters.map V.str ++ qs.map V.ref)))∧Paired (IsS H) s.parts qs ∧
    (s.letters.map V.str ++ qs.map V.ref).length = s.letters.length + s.parts.length∧(s.letters.map V.str ++ qs.map V.ref).take s.letters.length = s.letters.map V.str∧(s.letters.map V.str ++ qs.map V.ref).drop s.letters.length = qs.map V.ref:=by
  obtain ⟨qs,h1,h2⟩:=h.shape
  have l:=pd_len h2
  refine ⟨qs,h1,h2,by simp [l],?_,?_⟩
  · rw [List.take_append_of_le_length (by simp),List.take_of_length_le (by simp)]
  · rw [List.drop_append_of_le_length (by simp),List.drop_of_length_le (by simp)]
    rfl
def spPartsOfAll (K:PySem.W.Frag):Sp:=fun vs H Q _=>∃ (l:Addr) (ss:List Sn) (ps:List Addr),vs = [.ref l]∧SqL K H l (ps.map V.ref)∧Paired (IsS H) ss ps∧ss.length≤400 ∧
  ∀ (l':Addr) (H':Hp) (ps':List Addr),Same H H'→H l' = none→H' l' = some (.lst (ps'.map V.ref))→Paired (IsS H') (ss.flatMap Sn.parts) ps'→Q (.ref l') H'
def spShaped:Sp:=fun vs H Q _=>∃ (p:Addr) (s:Sn),vs = [.ref p]∧IsS H s p∧(∀ x∈s.letters,x∈letts)∧∀ H',Same H H'→Q (.bl true) H'
theorem mono_shaped:SpMono spShaped:=fun vs H Q Q' E h ⟨p,s,e,h1,h2,q⟩=>⟨p,s,e,h1,h2,fun H' g=>h _ _ (q H' g)⟩
abbrev VC (sn:Sn) (zs:List Addr):List V:=V.str sn.word :: (sn.letters.map V.str ++ zs.map V.ref)
def spIsSen:Sp:=fun vs H Q _=>∃ (p:Addr) (s:Sn),vs = [.ref p]∧IsS H s p∧s.inO letts∧s.count≤200∧s.depth≤24∧∀ H',Same H H'→Q (.bl true) H'
def spMustOrder (K:PySem.W.Frag):Sp:=fun vs H Q _=>∃ (l:Addr) (os:List Str),vs = [.ref l]∧SqL K H l (os.map V.str)∧IsOrd os∧∀ H',Same H H'→Q .non H'
def spMustSen:Sp:=fun vs H Q _=>∃ (p:Addr) (s:Sn),vs = [.ref p]∧IsS H s p∧s.inO letts∧s.count≤200∧s.depth≤24∧∀ H',Same H H'→Q .non H'
def spTuplesIn:Sp:=fun vs H Q _=>∃ (p:Addr) (s:Sn),vs = [.ref p]∧IsS H s p∧s.count≤400∧∀ (l:Addr) (H':Hp) (ts:List Sn) (ps:List Addr),Same H H'→H l = none→H' l = some (.lst (ps.map V.ref))→Paired (IsS H') ts ps →
  ts.length = s.count→(∀ x,(∃ t∈ts,x∈t.letters)↔x∈s.all)→Q (.ref l) H'
def spLettersIn:Sp:=fun vs H Q _=>∃ (p:Addr) (s:Sn),vs = [.ref p]∧IsS H s p∧s.count≤400∧∀ (l:Addr) (H':Hp) (xs:List Str),Same H H'→H l = none→H' l = some (.lst (xs.map V.str))→(∀ x,x∈xs↔x∈s.all)→xs.length≤400→Q (.ref l) H'
def spMustMark (K:PySem.W.Frag):Sp:=fun vs H Q _=>∃ (l:Addr) (x:Str) (os:List Str),vs = [.ref l,.str x]∧SqL K H l (os.map V.str)∧x∈os∧Q .non H
def spMustMarks (K:PySem.W.Frag):Sp:=fun vs H Q _=>∃ (l p:Addr) (os:List Str) (s:Sn),vs = [.ref l,.ref p]∧SqL K H l (os.map V.str)∧IsS H s p∧s.count≤400∧s.inO os∧∀ H',Same H H'→Q .non H'
end
end Sen
namespace L2
open PySem
section
variable {K:PySem.W.Frag} {a:Addr} {xs:List V} {σ:St} {js:List Nat} {te:TE} {H:Hp} {Qf:Addr→Hp→List V→Prop}
theorem lc_idxT (R:Nat→V→Prop) (hq:SqT K H a xs) (hz:xs.length≤sizeLine)
    (hs:∀ (i:Nat) x H',xs[i]? = some x→Same H H'→te (lcS σ js (some x)) H' fun v H3=>R i v∧Same H H3)
    (me:∀ σ H Q Q',(∀ v H1,Q v H1→Q' v H1)→te σ H Q→te σ H Q')
    (hd:∀ ys H' p,ys.length = xs.length→(∀ (j:Nat) v,ys[j]? = some v→R j v)→Same H H'→H' p = none→Qf p H' ys) :
    ∃ W:Nat→Nat→List V→Hp→Prop,(∃ m,W 0 m [] H)∧∀ i m ys H,W i m ys H →
      ((Itt K a).stop i H∧∀ p,H p = none→Qf p H ys) ∨
      ((Itt K a).go i H∧ys.length < sizeLine∧∀ x H',(Itt K a).yld i H x H'→tYes (lcS σ js (some x)) H' fun b H2 =>
        if b = true then te (lcS σ js (some x)) H2 fun v H3=>∃ m',m' < m∧W (i + 1) m' (ys ++ [v]) H3 else ∃ m',m' < m∧W (i + 1) m' ys H2):=by
  refine lc_tup (fun i ys H'=>Same H H'∧ys.length = i∧∀ (j:Nat) v,ys[j]? = some v→R j v) ⟨Same.refl _,rfl,fun j v h=>by simp at h⟩ hz ?_ ?_ (fun _ _ _ _ h q=>h _ _ q) me ?_
  · rintro i ys H' hi ⟨g,e,r⟩
    exact ⟨g.seqT hq,by omega⟩
  · rintro i x ys H' hx ⟨g,e,r⟩
    show te (lcS σ js (some x)) H' fun v H3=>Same H H3∧(ys ++ [v]).length = i + 1∧∀ (j:Nat) u,(ys ++ [v])[j]? = some u→R j u
    refine me _ _ _ _ (fun v H3 h3=>⟨h3.2,by rw [List.length_append,e]; rfl,fun j u hj=>?_⟩) (hs i x H' hx g)
    by_cases hlt:j < ys.length
    · rw [List.getElem?_append_left hlt] at hj
      exact r j u hj
    · rw [List.getElem?_append_right (by omega)] at hj
      have hj0:j - ys.length = 0:=by
        have:=(List.getElem?_eq_some_iff.mp hj).1
        rw [List.length_singleton] at this
        omega
      rw [hj0] at hj
      have ev:v = u:=Option.some.inj hj
      have ej:j = i:=by omega
      rw [← ev,ej]
      exact h3.1
  · rintro ys H' p ⟨g,e,r⟩ hp
    exact hd ys H' p e r g hp
theorem mono2 {sp:Sp} (m:SpMono sp):∀ σ H Q Q',(∀ v H1,Q v H1→Q' v H1)→tCall sp [] E0 (tCons (tVar 0) (tCons (tVar 1) tNil)) σ H Q→tCall sp [] E0 (tCons (tVar 0) (tCons (tVar 1) tNil)) σ H Q' :=
  fun σ H Q Q' h ⟨v,e,u,e',q⟩=>⟨v,e,u,e',m _ _ _ _ _ h q⟩
theorem ne_str {x y:Str} (h:x≠y):¬ decide (V.str x = V.str y) = true:=fun z=>h (by have:=of_decide_eq_true z; injection this)
theorem len1 {α:Type} {ys:List α} (h:ys.length = 1):∃ v,ys = [v]:=by
  match ys,h with
  | [v],_=>exact ⟨v,rfl⟩
theorem len2 {α:Type} {ys:List α} (h:ys.length = 2):∃ v u,ys = [v,u]:=by
  match ys,h with
  | [v,u],_=>exact ⟨v,u,rfl⟩
end
end L2
namespace Sen
open PySem L2
section
variable {K:PySem.W.Frag}
def ix (os:List Str) (x:Str):Nat:=os.findIdx (· == x)
theorem ix_spec:∀ {os:List Str} {x:Str},x∈os→(os.map V.str).findIdx? (fun z=>eqV z (.str x)) = some (ix os x)∧ix os x < os.length∧os[ix os x]? = some x
  | t :: r,x,h=>by
    unfold ix
    rw [List.map_cons,List.findIdx?_cons,List.findIdx_cons]
    show (if (t == x) = true then some 0 else _) = _∧_
    by_cases e:t = x
    · subst e
      simp
    · have hb:(t == x) = false:=by simpa using e
      have hr:x∈r:=by
        rcases List.mem_cons.mp h with z | z
        · exact absurd z.symm e
        · exact z
      obtain ⟨h1,h2,h3⟩:=ix_spec hr
      rw [hb,h1]
      unfold ix at h2 h3 ⊢
      refine ⟨rfl,?_,?_⟩
      · show (r.findIdx (· == x)) + 1 < (t :: r).length
        rw [List.length_cons]; omega
      · show (t :: r)[(r.findIdx (· == x)) + 1]? = some x
        rw [List.getElem?_cons_succ]; exact h3
theorem ix_inj {os:List Str} {x y:Str} (hx:x∈os) (hy:y∈os):ix os y = ix os x↔y = x:=by
  constructor
  · intro e
    have h1:=(ix_spec hx).2.2
    have h2:=(ix_spec hy).2.2
    rw [e,h1] at h2
    exact (Option.some.inj h2).symm
  · intro e; rw [e]
def envB (os:List Str) (b:Nat):Str→Bool:=fun x=>b.testBit (ix os x)
theorem val_put {os:List Str} {s:Sn} {x:Str} (hs:s.inO os) (hx:x∈os) (b:Nat) (v:Bool):s.val (fun y=>if y = x then v else envB os b y) = s.val (envB os (putBit b (ix os x) v)):=by
  refine Sn.val_congr s hs fun y hy=>?_
  show _ = (putBit b (ix os x) v).testBit (ix os y)
  rw [putBit_bit]
  by_cases e:y = x
  · rw [if_pos e,if_pos ((ix_inj hx hy).mpr e)]
  · rw [if_neg e,if_neg (fun z=>e ((ix_inj hx hy).mp z))]
    rfl
theorem putBit_self (b p:Nat):putBit b p (b.testBit p) = b:=by unfold putBit; rw [if_pos rfl]
theorem val_some {os:List Str} {s:Sn} {x:Str} (hs:s.inO os) (hx:x∈os) (b:Nat):(Sn.q1 true x s).val (envB os b) = (s.val (envB os b) || s.val (envB os (putBit b (ix os x) (!b.testBit (ix os x))))):=by
  show (s.val (fun y=>if y = x then true else envB os b y) || s.val (fun y=>if y = x then false else envB os b y)) = _
  rw [val_put hs hx,val_put hs hx]
  have z:=putBit_self b (ix os x)
  cases hb:b.testBit (ix os x)
  · rw [hb] at z; rw [z]; exact Bool.or_comm _ _
  · rw [hb] at z; rw [z]; rfl
theorem val_each {os:List Str} {s:Sn} {x:Str} (hs:s.inO os) (hx:x∈os) (b:Nat):(Sn.q1 false x s).val (envB os b) = (s.val (envB os b) && s.val (envB os (putBit b (ix os x) (!b.testBit (ix os x))))):=by
  show (s.val (fun y=>if y = x then true else envB os b y) && s.val (fun y=>if y = x then false else envB os b y)) = _
  rw [val_put hs hx,val_put hs hx]
  have z:=putBit_self b (ix os x)
  cases hb:b.testBit (ix os x)
  · rw [hb] at z; rw [z]; exact Bool.and_comm _ _
  · rw [hb] at z; rw [z]; rfl
def TabOf (os:List Str) (s:Sn) (N:Nat):Prop:=IsTab os.length N (fun b=>s.val (envB os b))
theorem w2_no:∀ o,w2 o≠Str.ofString "no" := by decide +kernel
theorem w2_yes:∀ o,w2 o≠Str.ofString "yes" := by decide +kernel
theorem w2_mark:∀ o,w2 o≠Str.ofString "mark" := by decide +kernel
theorem w2_not:∀ o,w2 o≠Str.ofString "not" := by decide +kernel
theorem w2_some:∀ o,w2 o≠Str.ofString "some" := by decide +kernel
theorem w2_each:∀ o,w2 o≠Str.ofString "each" := by decide +kernel
theorem fin4 (o:Fin 4):o = 0∨o = 1∨o = 2∨o = 3:=by
  match o with
  | 0=>exact .inl rfl
  | 1=>exact .inr (.inl rfl)
  | 2=>exact .inr (.inr (.inl rfl))
  | 3=>exact .inr (.inr (.inr rfl))
def spTwo:Sp:=fun vs H Q _=>∃ (o:Fin 4) (N M n:Nat) (f g:Nat→Bool),vs = [.str (w2 o),.int N,.int M,.int ((2 ^ 2 ^ n - 1:Nat):Int)]∧IsTab n N f∧IsTab n M g∧∀ R:Nat,IsTab n R (fun b=>Sn.op2 o (f b) (g b))→Q (.int R) H
def spTable (K:PySem.W.Frag) (d:Nat):Sp:=fun vs H Q _=>∃ (p l:Addr) (s:Sn) (os:List Str),vs = [.ref p,.ref l]∧IsS H s p∧SqL K H l (os.map V.str)∧s.inO os∧os.length≤8∧s.depth≤d∧∀ (N:Nat) (H':Hp),Same H H'→TabOf os s N→Q (.int N) H'
theorem mono_table (d:Nat):SpMono (spTable K d):=fun vs H Q Q' E h ⟨p,l,s,os,e,h1,h2,h3,h4,h5,q⟩=>⟨p,l,s,os,e,h1,h2,h3,h4,h5,fun N H' g z=>h _ _ (q N H' g z)⟩
end
end Sen
namespace L2
open PySem
end L2
namespace Sen
open PySem L2
section
variable {K:PySem.W.Frag}
def spLaw (K:PySem.W.Frag):Sp:=fun vs H Q _=>∃ (a:Addr) (ns:List Int),vs = [.ref a]∧SqL K H a (ns.map V.int)∧ns.length≤63∧∀ H',Q (.bl true) H'
end
end Sen
namespace L2
open PySem PySem.Spec PyProof.Rows
section
variable {κ:Type} [DecidableEq κ]
def valV (kvs:List (κ × V)) (k:κ):Option V:=(kvs.find? fun kv=>decide (kv.1 = k)).map (·.2)
def putK (kvs:List (κ × V)) (k:κ) (v:V):List (κ × V) :=
  if (kvs.any fun kv=>decide (kv.1 = k)) = true then kvs.map (fun kv=>if kv.1 = k then (kv.1,v) else kv) else kvs ++ [(k,v)]
theorem valV_pos {p:κ × V} {r:List (κ × V)} {k:κ} (e:p.1 = k):valV (p :: r) k = some p.2:=by simp [valV,List.find?_cons,e]
theorem valV_neg {p:κ × V} {r:List (κ × V)} {k:κ} (e:¬ p.1 = k):valV (p :: r) k = valV r k:=by simp [valV,List.find?_cons,e]
theorem valV_any (k:κ):∀ kvs:List (κ × V),(kvs.any fun kv=>decide (kv.1 = k)) = (valV kvs k).isSome
  | []=>rfl
  | p :: r=>by
    rw [List.any_cons]
    by_cases e:p.1 = k
    · simp only [valV_pos e,decide_eq_true e,Bool.true_or,Option.isSome_some]
    · rw [valV_neg e,decide_eq_false e,Bool.false_or]; exact valV_any k r
theorem valV_map (k j:κ) (y:V):∀ kvs:List (κ × V),valV (kvs.map fun kv=>if kv.1 = k then (kv.1,y) else kv) j = (valV kvs j).map fun x=>if j = k then y else x
  | []=>rfl
  | p :: r=>by
    have ih:=valV_map k j y r
    rw [List.map_cons]
    by_cases h:p.1 = k
    · rw [if_pos h]
      by_cases e:p.1 = j
      · rw [valV_pos (p:=(p.1,y)) e,valV_pos e,Option.map_some,if_pos (e.symm.trans h)]
      · rw [valV_neg (p:=(p.1,y)) e,valV_neg e,ih]
    · rw [if_neg h]
      by_cases e:p.1 = j
      · rw [valV_pos (p:=p) e,valV_pos e,Option.map_some,if_neg (fun z=>h (e.trans z))]
      · rw [valV_neg (p:=p) e,valV_neg e,ih]
theorem valV_snoc (k j:κ) (y:V):∀ kvs:List (κ × V),valV kvs k = none→valV (kvs ++ [(k,y)]) j = if j = k then some y else valV kvs j
  | [],_=>by
    by_cases e:k = j
    · rw [if_pos e.symm]; exact valV_pos (p:=(k,y)) e
    · rw [if_neg (fun z=>e z.symm)]; exact valV_neg (p:=(k,y)) e
  | p :: r,hn=>by
    rw [List.cons_append]
    have hk:¬ p.1 = k:=fun z=>by rw [valV_pos z] at hn; cases hn
    rw [valV_neg hk] at hn
    have ih:=valV_snoc k j y r hn
    by_cases e:p.1 = j
    · rw [valV_pos e,valV_pos e,if_neg (fun z=>hk (e.trans z))]
    · rw [valV_neg e,valV_neg e,ih]
theorem valV_put (kvs:List (κ × V)) (k j:κ) (y:V):valV (putK kvs k y) j = if j = k then some y else valV kvs j:=by
  unfold putK
  by_cases a:(kvs.any fun kv=>decide (kv.1 = k)) = true
  · rw [if_pos a,valV_map]
    rw [valV_any] at a
    by_cases e:j = k
    · obtain ⟨x,hx⟩:=Option.isSome_iff_exists.mp a
      rw [if_pos e,e,hx,Option.map_some,if_pos rfl]
    · rw [if_neg e]
      cases valV kvs j with
      | none=>rfl
      | some x=>rw [Option.map_some,if_neg e]
  · rw [if_neg a]
    refine valV_snoc k j y kvs ?_
    rw [valV_any] at a
    cases q:valV kvs k with
    | none=>rfl
    | some x=>rw [q] at a; exact (a rfl).elim
theorem length_putK (kvs:List (κ × V)) (k:κ) (v:V):(putK kvs k v).length≤kvs.length + 1:=by
  unfold putK
  split
  · rw [List.length_map]; omega
  · rw [List.length_append,List.length_cons,List.length_nil]; omega
theorem RelO.isSome_eq {o:Option V} {u:Option Value} (r:RelO o u):o.isSome = u.isSome:=by
  cases o with
  | none=>cases u with
    | none=>rfl
    | some _=>exact (show False from r).elim
  | some _=>cases u with
    | none=>exact (show False from r).elim
    | some _=>rfl
theorem KV.val {kvs:List (κ × V)} {vs:List (κ × Value)} (r:KV kvs vs) (k:κ):RelO (valV kvs k) (valueAt vs k):=by
  unfold KV at r
  induction r with
  | nil=>exact True.intro
  | @cons p q ps qs h t ih =>
    obtain ⟨h1,h2⟩:=h
    by_cases e:p.1 = k
    · have e':q.1 = k:=h1.symm.trans e
      have b:valueAt (q :: qs) k = some q.2:=by simp [valueAt,List.find?_cons,e']
      rw [valV_pos e,b]; exact h2
    · have e':¬ q.1 = k:=fun z=>e (h1.trans z)
      have b:valueAt (q :: qs) k = valueAt qs k:=by simp [valueAt,List.find?_cons,e']
      rw [valV_neg e,b]; exact ih
theorem KV.any {kvs:List (κ × V)} {vs:List (κ × Value)} (r:KV kvs vs) (k:κ):(kvs.any fun kv=>decide (kv.1 = k)) = vs.any fun kv=>decide (kv.1 = k):=by
  unfold KV at r
  induction r with
  | nil=>rfl
  | cons h t ih=>rw [List.any_cons,List.any_cons,ih,h.1]
theorem KV.repl {kvs:List (κ × V)} {vs:List (κ × Value)} (r:KV kvs vs) (k:κ) {y:V} {u:Value} (ry:RelV y u) :
    KV (kvs.map fun kv=>if kv.1 = k then (kv.1,y) else kv) (vs.map fun kv=>if kv.1 = k then (kv.1,u) else kv):=by
  unfold KV at r ⊢
  induction r with
  | nil=>exact .nil
  | @cons p q ps qs h t ih =>
    rw [List.map_cons,List.map_cons]
    refine .cons ?_ ih
    obtain ⟨h1,h2⟩:=h
    by_cases e:p.1 = k
    · rw [if_pos e,if_pos (h1.symm.trans e)]; exact ⟨h1,ry⟩
    · rw [if_neg e,if_neg (fun z=>e (h1.trans z))]; exact ⟨h1,h2⟩
theorem KV.put {kvs:List (κ × V)} {vs:List (κ × Value)} (r:KV kvs vs) (k:κ) {y:V} {u:Value} (ry:RelV y u):KV (putK kvs k y) (stored vs k u):=by
  unfold putK stored
  rw [r.any k]
  by_cases e:(vs.any fun kv=>decide (kv.1 = k)) = true
  · rw [if_pos e,if_pos e]; exact r.repl k ry
  · rw [if_neg e,if_neg e]; exact Paired.snoc r ⟨rfl,ry⟩
theorem KV.length {kvs:List (κ × V)} {vs:List (κ × Value)} (r:KV kvs vs):kvs.length = vs.length:=Paired.length r
end
theorem kV_is {P:Program} {w:World} {k:Key} {u:Value} (r:RelV (kV k) u):(mixKind P w).is k u = true:=by
  cases k with
  | inl i=>obtain ⟨t,e⟩:=(show ∃ t,u = Value.int i t from r); subst e; exact mixKind_int P w i t
  | inr x=>obtain ⟨t,e⟩:=(show ∃ t,u = Value.str x t from r); subst e; exact mixKind_str P w x t
theorem items_are {P:Program} {w:World}:∀ {ks:List Key} {us:List Value},Vals (ks.map kV) us→ItemsAre (mixKind P w) ks us
  | [],_,r=>by rw [List.map_nil] at r; cases r; exact .nil
  | k :: ks,_,r=>by
    rw [List.map_cons] at r
    cases r with
    | cons h t=>exact .cons (kV_is h) (items_are t)
abbrev KT (H:Hp):List (List Key × V)→List (List Key × Addr × Value)→Prop:=Paired fun p q=>p.1 = q.1∧H q.2.1 = some (.tup (p.1.map kV))∧RelV p.2 q.2.2
theorem KT.val {H:Hp} {kvs:List (List Key × V)} {xs:List (List Key × Addr × Value)} (r:KT H kvs xs) (k:List Key):RelO (valV kvs k) ((atKey xs k).map (·.2)):=by
  induction r with
  | nil=>exact True.intro
  | @cons p q ps qs h t ih =>
    obtain ⟨h1,_,h2⟩:=h
    by_cases e:p.1 = k
    · have e':q.1 = k:=h1.symm.trans e
      have b:atKey (q :: qs) k = some q.2:=by simp [atKey,List.find?_cons,e']
      rw [valV_pos e,b]; exact h2
    · have e':¬ q.1 = k:=fun z=>e (h1.trans z)
      have b:atKey (q :: qs) k = atKey qs k:=by simp [atKey,List.find?_cons,e']
      rw [valV_neg e,b]; exact ih
theorem KT.repl {H:Hp} {kvs:List (List Key × V)} {xs:List (List Key × Addr × Value)} (r:KT H kvs xs) (k:List Key) {y:V} {u:Value} (ry:RelV y u) :
    KT H (kvs.map fun kv=>if kv.1 = k then (kv.1,y) else kv) (xs.map (putAt k u)):=by
  induction r with
  | nil=>exact .nil
  | @cons p q ps qs h t ih =>
    rw [List.map_cons,List.map_cons]
    refine .cons ?_ ih
    obtain ⟨h1,h2,h3⟩:=h
    unfold putAt
    by_cases e:p.1 = k
    · rw [if_pos e,if_pos (h1.symm.trans e)]; exact ⟨h1,h2,ry⟩
    · rw [if_neg e,if_neg (fun z=>e (h1.trans z))]; exact ⟨h1,h2,h3⟩
theorem KT.put {H:Hp} {kvs:List (List Key × V)} {xs:List (List Key × Addr × Value)} (r:KT H kvs xs) (k:List Key) {b:Addr} {y:V} {u:Value} (hb:H b = some (.tup (k.map kV))) (ry:RelV y u) :
    KT H (putK kvs k y) (storedH xs k b u):=by
  have e:(kvs.any fun kv=>decide (kv.1 = k)) = (atKey xs k).isSome:=by
    rw [valV_any,(r.val k).isSome_eq,Option.isSome_map]
  unfold putK storedH
  rw [e]
  by_cases q:(atKey xs k).isSome = true
  · rw [if_pos q,if_pos q]; exact r.repl k ry
  · rw [if_neg q,if_neg q]; exact Paired.snoc r ⟨rfl,hb,ry⟩
theorem KT.keeps {H H':Hp} {kvs:List (List Key × V)} {xs:List (List Key × Addr × Value)} (r:KT H kvs xs) (ht:∀ b ys,H b = some (.tup ys)→H' b = some (.tup ys)):KT H' kvs xs :=
  Paired.mapP r fun _ _ z=>⟨z.1,ht _ _ z.2.1,z.2.2⟩
section
variable {P:Program} {w:World} {H:Hp} {h:Heap} {a:Addr}
theorem rd_of {u:HO} (ok:HOk P w H h) (e:Rd H a u):ObjOk P w H h a u:=e.ok ok
theorem dk_rd {kvs:List (Key × V)} (ok:HOk P w H h) (e:Rd H a (.dK kvs)):kvs.length≤sizeLine∧(a == sysModules) = false∧∃ vs,KV kvs vs∧h.DictOf (mixKind P w) a vs :=
  show ObjOk P w H h a (.dK kvs) from rd_of ok e
theorem dk_of {kvs:List (Key × V)} (ok:HOk P w H h) (e:H a = some (.dK kvs)):kvs.length≤sizeLine∧(a == sysModules) = false∧∃ vs,KV kvs vs∧h.DictOf (mixKind P w) a vs:=dk_rd ok (.inl e)
theorem key_of {ks:List Key} (ok:HOk P w H h) (e:H a = some (.tup (ks.map kV))):(tupleKind (mixKind P w)).is h ks a:=by
  obtain ⟨_,its,r,o,h1,h2,n,h3⟩:=(show ObjOk P w H h a (.tup (ks.map kV)) from ok a _ e)
  exact ⟨o,its.toArray,n,h1,h2,h3,by simpa using items_are r⟩
theorem dt_rd {kvs:List (List Key × V)} (ok:HOk P w H h) (e:Rd H a (.dT kvs)):kvs.length≤sizeLine∧(a == sysModules) = false ∧
    ∃ xs,KT H kvs xs∧h.DictOfH (tupleKind (mixKind P w)) a xs:=by
  obtain ⟨z,y,xs,r,o,es,ep,h1,h2,h3,h4,h5⟩:=(show ObjOk P w H h a (.dT kvs) from rd_of ok e)
  refine ⟨z,y,xs,r,o,es,ep,h1,h2,h3,h4,fun x hx=>?_,h5⟩
  have all:∀ {l:List (List Key × V)} {m:List (List Key × Addr × Value)},KT H l m→∀ x∈m,(tupleKind (mixKind P w)).is h x.1 x.2.1:=by
    intro l m q
    induction q with
    | nil=>intro x hx; exact nomatch hx
    | @cons p q ps qs hq t ih =>
      intro x hx
      rcases List.mem_cons.mp hx with e | hx
      · subst e
        exact key_of ok (by rw [← hq.1]; exact hq.2.1)
      · exact ih x hx
  exact all r x hx
theorem dt_of {kvs:List (List Key × V)} (ok:HOk P w H h) (e:H a = some (.dT kvs)):kvs.length≤sizeLine∧(a == sysModules) = false ∧
    ∃ xs,KT H kvs xs∧h.DictOfH (tupleKind (mixKind P w)) a xs:=dt_rd ok (.inl e)
end
def DGet (H:Hp) (a:Addr) (y:V) (r:Option V):Prop :=
  (∃ kvs k,Rd H a (.dK kvs)∧y = kV k∧r = valV kvs k)∨∃ kvs k b,Rd H a (.dT kvs)∧y = .ref b∧H b = some (.tup (k.map kV))∧r = valV kvs k
def DPut (H:Hp) (a:Addr) (y v:V) (H':Hp):Prop :=
  (∃ kvs k,H a = some (.dK kvs)∧y = kV k∧kvs.length < sizeLine∧H' = upd H a (.dK (putK kvs k v))) ∨
  ∃ kvs k b,H a = some (.dT kvs)∧y = .ref b∧H b = some (.tup (k.map kV))∧kvs.length < sizeLine∧H' = upd H a (.dT (putK kvs k v))
theorem DGet.k {H:Hp} {a:Addr} {kvs:List (Key × V)} {k:Key} (e:H a = some (.dK kvs)):DGet H a (kV k) (valV kvs k):=.inl ⟨kvs,k,.inl e,rfl,rfl⟩
theorem DPut.k {H:Hp} {a:Addr} {kvs:List (Key × V)} {k:Key} {v:V} (e:H a = some (.dK kvs)) (hl:kvs.length < sizeLine):DPut H a (kV k) v (upd H a (.dK (putK kvs k v))):=.inl ⟨kvs,k,e,rfl,hl,rfl⟩
section
variable {X:Cx} {pins:List (Addr × Obj)} {σ:St} {H:Hp} {s:Shared} {a:Addr} {y v:V} {u r:Value} {o:Option V} {A:Around} {E:Value→Shared→Prop}
theorem Inv.big (I:Inv X pins σ H s):sysModules < s.heap.objs.size:=by
  have h:mainGlobals < s.heap.objs.size:=(I.mod.glob.keeps I.bk).lt
  exact Nat.lt_trans (by decide) h
theorem d_getItem {Q:Value→Shared→Prop} (hu:A.units + 1 < cLine) (I:Inv X pins σ H s) (g:DGet H a y (some v)) (ry:RelV y u) (h:∀ w' s',Inv X pins σ H s'→RelV v w'→Q w' s') :
    wpAny (model X.prog X.w) A (getItem (.ref a) u) Q E s:=by
  rcases g with ⟨kvs,k,e,ey,l⟩ | ⟨kvs,k,b,e,ey,eb,l⟩
  · subst ey
    obtain ⟨z,hd,vs,rel,dd⟩:=dk_rd I.hok e
    obtain ⟨w',hw,rw'⟩:=RelO.some_of (v:=v) (o:=valueAt vs k) (by rw [l]; exact rel.val k)
    exact wpAny_getItem_of (kV_is ry) dd.mapOf hw (h w' _ (I.tok _) rw')
  · subst ey
    cases (show u = Value.ref b from ry)
    obtain ⟨z,hd,xs,rel,dd⟩:=dt_rd I.hok e
    obtain ⟨w',hw,rw'⟩:=RelO.some_of (v:=v) (o:=(atKey xs k).map (·.2)) (by rw [l]; exact rel.val k)
    obtain ⟨p,hp,hp2⟩:=Option.map_eq_some_iff.mp hw
    refine wpAny_getItem_heap (tupleKind_room_in1 hu) (key_of I.hok eb) dd hp ?_
    rw [hp2]
    exact h w' _ (I.tok _) rw'
theorem d_notIn {Q:Value→Shared→Prop} (hu:A.units + 1 < cLine) (I:Inv X pins σ H s) (g:DGet H a y o) (ry:RelV y u) (h:∀ s',Inv X pins σ H s'→Q (.bool (!o.isSome)) s') :
    wpAny (model X.prog X.w) A (compareOp .NotIn u (.ref a)) Q E s:=by
  rcases g with ⟨kvs,k,e,ey,l⟩ | ⟨kvs,k,b,e,ey,eb,l⟩
  · subst ey
    obtain ⟨z,hd,vs,rel,dd⟩:=dk_rd I.hok e
    refine wpAny_notIn_of (kV_is ry) hd dd.mapOf ?_
    rw [← (rel.val k).isSome_eq,← l]
    exact h _ (I.tok _)
  · subst ey
    cases (show u = Value.ref b from ry)
    obtain ⟨z,hd,xs,rel,dd⟩:=dt_rd I.hok e
    refine wpAny_notIn_heap (tupleKind_room_in1 hu) (key_of I.hok eb) hd dd ?_
    have q:=(rel.val k).isSome_eq
    rw [Option.isSome_map] at q
    rw [← q,← l]
    exact h _ (I.tok _)
theorem d_write {h':Heap} {t':Nat} {ob:HO} (I:Inv X pins σ H s) (mu:Mut (H a)) (hs:Heap.SameBut a s.heap h') (he:∃ q,h'.get? a = some q) (new:ObjOk X.prog X.w (upd H a ob) h' a ob) :
    Inv X pins σ (upd H a ob) { s with heap:=h',toks:=t' } :=
  I.write (x:=a) (e:=a) mu (.inl rfl) (fun b q hb z=>(hs.2 b hb).trans z) he new
theorem dk_new {P:Program} {w:World} {H':Hp} {h':Heap} {kvs:List (Key × V)} {vs:List (Key × Value)} (z:kvs.length≤sizeLine) (hd:(a == sysModules) = false) (rel:KV kvs vs) (dd:h'.DictOf (mixKind P w) a vs) :
    ObjOk P w H' h' a (.dK kvs):=⟨z,hd,vs,rel,dd⟩
theorem d_setItem {H':Hp} {Q:Unit→Shared→Prop} (hu:A.units + 1 < cLine) (I:Inv X pins σ H s) (g:DPut H a y v H') (ry:RelV y u) (rv:RelV v r) (h:∀ s',Inv X pins σ H' s'→Q () s') :
    wpAny (model X.prog X.w) A (setItem (.ref a) u r) Q E s:=by
  rcases g with ⟨kvs,k,e,ey,l,eH⟩ | ⟨kvs,k,b,e,ey,eb,l,eH⟩
  · subst ey eH
    obtain ⟨z,hd,vs,rel,dd⟩:=dk_of I.hok e
    have hz:vs.length≤sizeLine:=by rw [← rel.length]; exact z
    have hl:(putK kvs k v).length≤sizeLine:=by have:=length_putK kvs k v; omega
    refine wpAny_setItem_pairs (hsz:=hz) (kV_is ry) dd fun h' dd' hs=>h _ ?_
    have he:∃ q,h'.get? a = some q:=let ⟨q,_,_,hq,_⟩:=dd'; ⟨q,hq⟩
    exact d_write I (by rw [e]; exact True.intro) hs he (dk_new hl hd (rel.put k rv) dd')
  · subst ey eH
    cases (show u = Value.ref b from ry)
    obtain ⟨z,hd,xs,rel,dd⟩:=dt_of I.hok e
    have hz:xs.length≤sizeLine:=by rw [← Paired.length rel]; exact z
    have hl:(putK kvs k v).length≤sizeLine:=by have:=length_putK kvs k v; omega
    refine wpAny_setItem_heap (hsz:=hz) (tupleKind_room_in1 hu) (key_of I.hok eb) dd fun h' dd' hs=>h _ ?_
    obtain ⟨q,es,ep,hq,h2,h3,h4,_,h5⟩:=dd'
    refine d_write I (by rw [e]; exact True.intro) hs ⟨q,hq⟩ ⟨hl,hd,_,(rel.put k eb rv).keeps fun c ys ec=>?_,q,es,ep,hq,h2,h3,h4,h5⟩
    rw [upd_ne (ne_of ec e (fun z=>nomatch z))]
    exact ec
end
section
variable {X:Cx} {pins:List (Addr × Obj)} {σ:St} {H:Hp} {s:Shared} {a:Addr} {kvs:List (Key × V)} {k:Key} {u:Value} {A:Around} {E:Value→Shared→Prop}
end
def NoSl (i:Expr):Prop:=∀ ov iv,subscripted i false ov iv = operate [ov,iv] (getItem ov iv)
theorem subD_of {prog:Program} {w:World} {A:Around} {E:Value→Shared→Prop} {s:Shared} {env:Env} {value slice:Expr} {pos:Pos} {T id:String} {Q:Value→Shared→Prop}
    (hl:typeLookup (.type T) "__getitem__" = pure (some (.builtin id))) (hs:NoSl slice)
    (h:wpAny (model prog w) A (eval value env) (fun o s₁=>wpAny (model prog w) A (eval slice env) (fun i s₂=>s₂.TypeIs o T∧wpAny (model prog w) A (getItem o i) Q E s₂) E s₁) E s) :
    wpAny (model prog w) A (eval (.Subscript value slice pos) env) Q E s:=by
  refine Subscript_ (wpAny_mono h (fun o s₁ h₁=>wpAny_mono h₁ (fun i s₂ h₂=>?_) fun _ _ x=>x) fun _ _ x=>x)
  obtain ⟨hT,h₂⟩:=h₂
  unfold subscriptTail
  refine wpAny_bind ?_
  rw [getitemInPython_of_ne hT.not_modules]
  refine wpAny_bind (wpAny_specialOf hT hl ?_)
  have fin:wpAny (model prog w) A (subscripted slice false o i) (fun r s₃=>wpAny (model prog w) A (letTemporaryGo value o r >>= fun _=>pure r) Q E s₃) E s₂:=by
    rw [hs o i]
    exact wpAny_operating (wpAny_mono h₂ (fun r s₃ h₃=>wpAny_bind (wpAny_letTemporaryGo (wpAny_pure h₃))) fun _ _ x=>x)
  first
    | exact wpAny_pure (wpAny_bind fin)
    | exact wpAny_bind (wpAny_pure (wpAny_bind fin))
    | exact wpAny_bind fin
theorem dict_typeIs {X:Cx} {pins:List (Addr × Obj)} {σ:St} {H:Hp} {s:Shared} {a:Addr} {y:V} {o:Option V} (I:Inv X pins σ H s) (g:DGet H a y o):s.TypeIs (.ref a) "dict" := by
  rcases g with ⟨kvs,k,e,_,_⟩ | ⟨kvs,k,b,e,_,_,_⟩
  · obtain ⟨_,_,vs,_,dd⟩:=dk_rd I.hok e
    exact dd.typeIs
  · obtain ⟨_,_,xs,_,dd⟩:=dt_rd I.hok e
    exact dd.typeIs
def tDGet (td ty:TE):TE:=fun σ H Q=>td σ H fun x H1=>ty σ H1 fun y H2=>∃ a v,x = .ref a∧DGet H2 a y (some v)∧Q v H2
def tDNotIn (ty td:TE):TE:=fun σ H Q=>ty σ H fun y H1=>td σ H1 fun x H2=>∃ a o,x = .ref a∧DGet H2 a y o∧Q (.bl (!o.isSome)) H2
def sDPut (td ty tv:TE):TS:=fun D σ H=>tv σ H fun v H1=>td σ H1 fun x H2=>ty σ H2 fun y H3=>∃ a H4,x = .ref a∧DPut H3 a y v H4∧D.nx σ H4
section
variable {X:Cx} {o i e value:Expr} {pos pos' tpos:Pos} {td ty tv:TE}
theorem pe_dget (hu:X.A.units + 1 < cLine) (ho:PE X o td) (hi:PE X i ty) (hs:NoSl i):PE X (.Subscript o i pos) (tDGet td ty):=by
  intro pins s σ H Q I h
  refine subD_of PySem.F.slot_dict_getitem.lookup hs (thn (ho pins s σ H _ I h) fun u s1 ⟨x,H1,I1,rx,q1⟩=>thn (hi pins s1 σ H1 _ I1 q1) fun iv s2 ⟨y,H2,I2,ry,a,v,ex,g,q2⟩=>?_)
  subst ex
  obtain rfl:u = Value.ref a:=rx
  exact ⟨dict_typeIs I2 g,d_getItem hu I2 g ry fun w' s3 I3 rw'=>⟨v,H2,I3,rw',q2⟩⟩
theorem pc_dnotin (hu:X.A.units + 1 < cLine) (hi:PE X i ty) (ho:PE X o td):PC X .NotIn i o (tDNotIn ty td):=by
  intro pins s σ H Q I h
  refine thn (hi pins s σ H _ I h) fun iv s1 ⟨y,H1,I1,ry,q1⟩=>thn (ho pins s1 σ H1 _ I1 q1) fun u s2 ⟨x,H2,I2,rx,a,ov,ex,g,q2⟩=>?_
  subst ex
  obtain rfl:u = Value.ref a:=rx
  exact d_notIn hu I2 g ry fun s3 I3=>⟨.bl (!ov.isSome),H2,I3,rfl,q2⟩
theorem ps_dput (hu:X.A.units + 1 < cLine) (ho:PE X o td) (hi:PE X i ty) (hv:PE X value tv) (hs:swapsWith value (some (.Subscript o i pos')) pos.line X.env = pure false) :
    PS X (.Assign [.Subscript o i pos'] value pos) (sDPut td ty tv):=by
  intro pins s σ H D I h
  refine wpAny_Assign_Subscript (thn (hv pins s σ H _ I h) fun r s1 ⟨v,H1,I1,rv,q1⟩=>thn (ho pins s1 σ H1 _ I1 q1) fun u s2 ⟨x,H2,I2,rx,q2⟩=>thn (hi pins s2 σ H2 _ I2 q2) fun iv s3 ⟨y,H3,I3,ry,a,H4,ex,g,q3⟩=>?_) hs
  subst ex
  obtain rfl:u = Value.ref a:=rx
  exact d_setItem hu I3 g ry rv fun s4 I4=>⟨σ,H4,I4,q3⟩
end
theorem dk_empty {P:Program} {w:World} {H:Hp} (h:Heap) (hb:sysModules < h.objs.size):ObjOk P w H (h.push { cls:=.type "dict", data:=.dict #[] }) h.objs.size (.dK []) :=
  ⟨Nat.zero_le _,beq_eq_false_iff_ne.mpr (Ne.symm (Nat.ne_of_lt hb)),[],.nil,Heap.DictOf.new h⟩
section
variable {X:Cx} {pos:Pos}
end
def tPairs:List (TE × TE)→St→Hp→(List (V × V)→Hp→Prop)→Prop
  | [],_,H,Q=>Q [] H
  | (tk,tv) :: r,σ,H,Q=>tk σ H fun x H1=>tv σ H1 fun y H2=>tPairs r σ H2 fun ps H3=>Q ((x,y) :: ps) H3
abbrev VV:List (V × V)→List (Value × Value)→Prop:=Paired fun p q=>RelV p.1 q.1∧RelV p.2 q.2
def PPs (X:Cx) (pos:Pos) (keys:List (Option Expr)) (values:List Expr) (trs:List (TE × TE)):Prop :=
  ∀ (pins:List (Addr × Obj)) (s:Shared) (σ:St) (H:Hp) (Q:List (V × V)→Hp→Prop),Inv X pins σ H s→tPairs trs σ H Q →
    wpAny (model X.prog X.w) X.A (evalPairs (pairTrees keys values X.env pos)) (fun vs s'=>∃ ps H',Inv X pins σ H' s'∧VV ps vs∧Q ps H') X.xe s
theorem pps_nil {X:Cx} {pos:Pos}:PPs X pos [] [] []:=fun pins s σ H Q I h=>pairTrees_nil_walk ⟨[],H,I,.nil,h⟩
theorem pps_cons {X:Cx} {pos:Pos} {k v:Expr} {ks:List (Option Expr)} {vs:List Expr} {tk tv:TE} {trs:List (TE × TE)} (hk:PE X k tk) (hv:PE X v tv) (hr:PPs X pos ks vs trs) :
    PPs X pos (some k :: ks) (v :: vs) ((tk,tv) :: trs):=fun pins s σ H Q I h =>
  pairTrees_cons_walk (thn (hk pins s σ H _ I h) fun u s1 ⟨x,H1,I1,rx,q1⟩=>thn (hv pins s1 σ H1 _ I1 q1) fun w2 s2 ⟨y,H2,I2,ry,q2⟩ =>
    thn (hr pins s2 σ H2 _ I2 q2) fun ws s3 ⟨ps,H3,I3,rel,q3⟩=>⟨(x,y) :: ps,H3,I3,.cons ⟨rx,ry⟩ rel,q3⟩)
def mergeK (kvs more:List (Key × V)):List (Key × V):=more.foldl (fun acc kv=>putK acc kv.1 kv.2) kvs
theorem KV.merge:∀ {more:List (Key × V)} {rs:List (Key × Value)} {kvs:List (Key × V)} {vs:List (Key × Value)},KV more rs→KV kvs vs→KV (mergeK kvs more) (merged vs rs):=by
  intro more rs kvs vs r
  unfold KV at r
  induction r generalizing kvs vs with
  | nil=>intro q; exact q
  | @cons p q ps qs h t ih =>
    intro r0
    have e:KV (putK kvs p.1 p.2) (stored vs q.1 q.2):=by
      have:=r0.put p.1 h.2
      rw [← h.1]; exact this
    exact ih e
theorem length_mergeK:∀ (more kvs:List (Key × V)),(mergeK kvs more).length≤kvs.length + more.length
  | [],kvs=>by show kvs.length≤kvs.length + 0; omega
  | p :: r,kvs=>by
    have h1:=length_mergeK r (putK kvs p.1 p.2)
    have h2:=length_putK kvs p.1 p.2
    show (mergeK (putK kvs p.1 p.2) r).length≤_
    rw [List.length_cons]; omega
theorem carries_of {P:Program} {w:World}:∀ {kvs:List (Key × V)} {ws:List (Value × Value)},VV (kvs.map fun kv=>(kV kv.1,kv.2)) ws→∃ rs,Carries (mixKind P w) ws rs∧KV kvs rs
  | [],_,r=>by rw [List.map_nil] at r; cases r; exact ⟨[],True.intro,.nil⟩
  | p :: kvs,_,r=>by
    rw [List.map_cons] at r
    cases r with
    | @cons a b as bs h t =>
      obtain ⟨rs,c,q⟩:=carries_of (P:=P) (w:=w) t
      obtain ⟨b1,b2⟩:=b
      exact ⟨(p.1,b2) :: rs,⟨kV_is h.1,rfl,c⟩,.cons ⟨rfl,h.2⟩ q⟩
def tDisp (trs:List (TE × TE)):TE:=fun σ H Q=>∀ p,H p = none→tPairs trs σ (upd H p (.dK [])) fun ps H2=>H2 p = some (.dK [])∧∃ kvs:List (Key × V),ps = kvs.map (fun kv=>(kV kv.1,kv.2))∧kvs.length≤15∧Q (.ref p) (upd H2 p (.dK (mergeK [] kvs)))
theorem pe_disp {X:Cx} {pos:Pos} {keys:List (Option Expr)} {values:List Expr} {trs:List (TE × TE)} (h:PPs X pos keys values trs) (hall:keys.all (·.isSome) = true) (hl:keys.length = values.length) (h0:keys≠[])
    (h15:keys.length≤15):PE X (.Dict keys values pos) (tDisp trs):=by
  intro pins s σ H Q I q
  have hn:=I.hok.fresh (Nat.le_refl s.heap.objs.size)
  have I1:=I.laid (a:=s.heap.objs.size) (o:=.dK []) (h':=s.heap.push { cls:=.type "dict", data:=.dict #[] }) (t':=s.toks) (fun _ _ q=>Heap.get?_push_of_some _ q) (Nat.le_refl _) (dk_empty s.heap I.big)
  refine wpAny_Dict_walk (knd:=mixKind X.prog X.w) hall hl h0 h15 (thn (h pins _ σ _ _ I1 (q _ hn)) fun ws s2 ⟨ps,H2,I2,rel,e,kvs,ep,lk,q2⟩=>?_)
  subst ep
  obtain ⟨rs,c,rk⟩:=carries_of (P:=X.prog) (w:=X.w) rel
  obtain ⟨z,hd,vs0,r0,dd⟩:=dk_of I2.hok e
  cases r0
  refine ⟨rs,c,dd,fun h' dd' hs=>⟨.ref s.heap.objs.size,_,?_,rfl,q2⟩⟩
  have hz:(mergeK [] kvs).length≤sizeLine:=by
    have h1:=length_mergeK kvs []
    rw [List.length_nil] at h1
    rw [sizeLine_eq]; omega
  have he:∃ q,h'.get? s.heap.objs.size = some q:=let ⟨q,_,_,hq,_⟩:=dd'; ⟨q,hq⟩
  exact d_write I2 (by rw [e]; exact True.intro) hs he (dk_new hz hd (rk.merge .nil) dd')
section
variable {X:Cx} {pins:List (Addr × Obj)} {σ:St} {H:Hp} {s:Shared} {a:Addr} {y d:V} {u r:Value} {o:Option V} {A:Around} {E:Value→Shared→Prop}
end
section
variable {X:Cx} {o e f:Expr} {apos cpos:Pos} {td ty tx:TE}
end
section
variable {X:Cx} {pins:List (Addr × Obj)} {σ:St} {H:Hp} {s:Shared} {a:Addr} {kvs:List (Key × V)} {A:Around} {E:Value→Shared→Prop}
end
section
variable {X:Cx} {pins:List (Addr × Obj)} {σ:St} {H:Hp} {s:Shared} {a:Addr} {y:V} {u:Value} {A:Around} {E:Value→Shared→Prop}
end
end L2
namespace L2
open PySem PySem.Spec PyProof.Rows
section
variable {κ:Type} [DecidableEq κ]
end
end L2
namespace L2
open PySem PySem.Spec PyProof.Rows
section
variable {X:Cx} {pins:List (Addr × Obj)} {σ:St} {H:Hp} {s:Shared}
end
section
variable {X:Cx}
end
end L2
namespace L2
open PySem PySem.Spec PyProof.Rows
section
variable {X:Cx}
theorem vals_get:∀ {xs:List V} {us:List Value},xs.length = us.length→(∀ (j:Nat) u,us[j]? = some u→∃ x,xs[j]? = some x∧RelV x u)→Vals xs us
  | [],[],_,_=>.nil
  | [],_ :: _,h,_=>by simp at h
  | _ :: _,[],h,_=>by simp at h
  | x :: xs,u :: us,hl,h=>by
    obtain ⟨x',e,r⟩:=h 0 u rfl
    cases e
    refine .cons r (vals_get (by simpa using hl) fun j v hv=>?_)
    obtain ⟨y,e,r⟩:=h (j + 1) v (by simpa using hv)
    exact ⟨y,by simpa using e,r⟩
end
end L2
namespace Bdd
abbrev Rm:=Option (Nat × Nat × Nat)
def lev (n:Nat) (rs:List Rm) (k:Nat):Nat:=match rs[k]? with
  | some (some (i,_,_))=>i
  | _=>n
structure Bk (n:Nat) (rs:List Rm):Prop where
  h0:rs[0]? = some none
  h1:rs[1]? = some none
  rm:∀ k,2≤k→k < rs.length→∃ i lo hi,rs[k]? = some (some (i,lo,hi))∧i < n∧lo < k∧hi < k∧lo≠hi∧i < lev n rs lo∧i < lev n rs hi
  uq:∀ (k l:Nat) (x:Nat × Nat × Nat),rs[k]? = some (some x)→rs[l]? = some (some x)→k = l
abbrev Row:=Nat→Bool
def put (r:Row) (i:Nat) (v:Bool):Row:=fun j=>if j = i then v else r j
def lead (rs:List Rm) (r:Row):Nat→Nat→Nat
  | 0,k=>k
  | f + 1,k=>match rs[k]? with
    | some (some (i,lo,hi))=>lead rs r f (if r i then hi else lo)
    | _=>k
theorem lead_fuel {n:Nat} {rs:List Rm} (B:Bk n rs) (r:Row):∀ (f g k:Nat),k≤f→k≤g→k < rs.length→lead rs r f k = lead rs r g k
  | 0,0,k,_,_,_=>rfl
  | 0,g + 1,k,h,_,_=>by
    have e:k = 0:=by omega
    subst e
    show 0 = lead rs r (g + 1) 0
    unfold lead
    rw [B.h0]
  | f + 1,0,k,_,h,_=>by
    have e:k = 0:=by omega
    subst e
    show lead rs r (f + 1) 0 = 0
    unfold lead
    rw [B.h0]
  | f + 1,g + 1,k,hf,hg,hk=>by
    by_cases h2:2≤k
    · obtain ⟨i,lo,hi,e,_,hlo,hhi,_⟩:=B.rm k h2 hk
      unfold lead
      rw [e]
      show lead rs r f (if r i then hi else lo) = lead rs r g (if r i then hi else lo)
      refine lead_fuel B r f g _ ?_ ?_ ?_ <;> (split <;> omega)
    · have:k = 0∨k = 1:=by omega
      rcases this with e | e <;> subst e <;> unfold lead
      · rw [B.h0]
      · rw [B.h1]
def yes (rs:List Rm) (k:Nat) (r:Row):Bool:=lead rs r k k == 1
section
variable {n:Nat} {rs:List Rm} (B:Bk n rs)
include B
theorem len2:2≤rs.length:=by
  have:=(List.getElem?_eq_some_iff.mp B.h1).1
  omega
theorem yes_no (r:Row):yes rs 0 r = false:=rfl
theorem yes_yes (r:Row):yes rs 1 r = true:=by
  unfold yes lead
  rw [B.h1]
  rfl
theorem lead_step {k i lo hi:Nat} (e:rs[k]? = some (some (i,lo,hi))) (r:Row):lead rs r k k = lead rs r (if r i then hi else lo) (if r i then hi else lo):=by
  have hk:=(List.getElem?_eq_some_iff.mp e).1
  have k2:2≤k:=by
    by_cases h:2≤k
    · exact h
    · exfalso
      have:k = 0∨k = 1:=by omega
      rcases this with z | z <;> subst z
      · rw [B.h0] at e; cases e
      · rw [B.h1] at e; cases e
  obtain ⟨i',lo',hi',e',_,hlo,hhi,_⟩:=B.rm k k2 hk
  rw [e] at e'
  cases e'
  obtain ⟨m,rfl⟩:∃ m,k = m + 1:=⟨k - 1,by omega⟩
  show (match rs[m + 1]? with | some (some (i,lo,hi))=>lead rs r m (if r i then hi else lo) | _=>m + 1) = _
  rw [e]
  show lead rs r m (if r i then hi else lo) = _
  refine lead_fuel B r _ _ _ ?_ (Nat.le_refl _) ?_ <;> (split <;> omega)
theorem yes_step {k i lo hi:Nat} (e:rs[k]? = some (some (i,lo,hi))) (r:Row):yes rs k r = if r i then yes rs hi r else yes rs lo r:=by
  unfold yes
  rw [lead_step B e r]
  split <;> rfl
theorem lev_of {k i lo hi:Nat} (e:rs[k]? = some (some (i,lo,hi))):lev n rs k = i:=by unfold lev; rw [e]
theorem lev_no:lev n rs 0 = n:=by unfold lev; rw [B.h0]
theorem lev_yes:lev n rs 1 = n:=by unfold lev; rw [B.h1]
theorem yes_congr:∀ (m k:Nat),k≤m→k < rs.length→∀ {r r':Row},(∀ i,lev n rs k≤i→i < n→r i = r' i)→yes rs k r = yes rs k r'
  | m,k,hm,hk,r,r',h=>by
    by_cases h2:2≤k
    · obtain ⟨i,lo,hi,e,hin,hlo,hhi,_,l1,l2⟩:=B.rm k h2 hk
      have lk:=lev_of B e
      rw [yes_step B e,yes_step B e,h i (by omega) hin]
      match m,hm with
      | 0,hm=>omega
      | m + 1,hm =>
        rw [yes_congr m hi (by omega) (by omega) fun j hj hjn=>h j (by omega) hjn,yes_congr m lo (by omega) (by omega) fun j hj hjn=>h j (by omega) hjn]
    · have:k = 0∨k = 1:=by omega
      rcases this with z | z <;> subst z
      · rfl
      · rw [yes_yes B,yes_yes B]
theorem yes_put {k i:Nat} (hk:k < rs.length) (h:i < lev n rs k) (r:Row) (v:Bool):yes rs k (put r i v) = yes rs k r:=by
  refine yes_congr B k k (Nat.le_refl _) hk fun j hj _=>?_
  unfold put
  rw [if_neg (by omega)]
theorem yes_lo {k i lo hi:Nat} (e:rs[k]? = some (some (i,lo,hi))) (hk:k < rs.length) (r:Row):yes rs k (put r i false) = yes rs lo r∧yes rs k (put r i true) = yes rs hi r:=by
  have k2:2≤k:=by
    by_cases h:2≤k
    · exact h
    · exfalso
      have:k = 0∨k = 1:=by omega
      rcases this with z | z <;> subst z
      · rw [B.h0] at e; cases e
      · rw [B.h1] at e; cases e
  obtain ⟨i',lo',hi',e',_,hlo,hhi,_,l1,l2⟩:=B.rm k k2 hk
  rw [e] at e'
  cases e'
  constructor
  · rw [yes_step B e]
    have z:put r i false i = false:=by unfold put; rw [if_pos rfl]
    rw [z,if_neg Bool.false_ne_true]
    exact yes_put B (by omega) l1 r false
  · rw [yes_step B e]
    have z:put r i true i = true:=by unfold put; rw [if_pos rfl]
    rw [z,if_pos rfl]
    exact yes_put B (by omega) l2 r true
theorem one_room:∀ (m k l:Nat),(k≤m∧l≤m)→k < rs.length→l < rs.length→(∀ r,yes rs k r = yes rs l r)→k = l
  | m,k,l,hm,hk,hl,h=>by
    by_cases k2:2≤k
    · obtain ⟨i,lo,hi,e,hin,hlo,hhi,hne,l1,l2⟩:=B.rm k k2 hk
      by_cases l2':2≤l
      · obtain ⟨j,lo',hi',e',hjn,hlo',hhi',hne',l1',l2''⟩:=B.rm l l2' hl
        match m,hm with
        | 0,hm=>omega
        | m + 1,hm =>
          rcases Nat.lt_trichotomy i j with q | q | q
          · exfalso
            refine hne (one_room m lo hi (by omega) (by omega) (by omega) fun r=>?_)
            have z:=yes_lo B e hk r
            rw [← z.1,← z.2,h,h,yes_put B hl (by rw [lev_of B e']; exact q),yes_put B hl (by rw [lev_of B e']; exact q)]
          · subst q
            have a1:lo = lo':=one_room m lo lo' (by omega) (by omega) (by omega) fun r=>by rw [← (yes_lo B e hk r).1,← (yes_lo B e' hl r).1,h]
            have a2:hi = hi':=one_room m hi hi' (by omega) (by omega) (by omega) fun r=>by rw [← (yes_lo B e hk r).2,← (yes_lo B e' hl r).2,h]
            subst a1 a2
            exact B.uq k l _ e e'
          · exfalso
            refine hne' (one_room m lo' hi' (by omega) (by omega) (by omega) fun r=>?_)
            have z:=yes_lo B e' hl r
            rw [← z.1,← z.2,← h,← h,yes_put B hk (by rw [lev_of B e]; exact q),yes_put B hk (by rw [lev_of B e]; exact q)]
      · exfalso
        match m,hm with
        | 0,hm=>omega
        | m + 1,hm =>
          have ll:lev n rs l = n:=by
            have:l = 0∨l = 1:=by omega
            rcases this with z | z <;> subst z
            · exact lev_no B
            · exact lev_yes B
          refine hne (one_room m lo hi (by omega) (by omega) (by omega) fun r=>?_)
          have z:=yes_lo B e hk r
          rw [← z.1,← z.2,h,h,yes_put B hl (by omega),yes_put B hl (by omega)]
    · by_cases l2':2≤l
      · exfalso
        obtain ⟨j,lo',hi',e',hjn,hlo',hhi',hne',l1',l2''⟩:=B.rm l l2' hl
        match m,hm with
        | 0,hm=>omega
        | m + 1,hm =>
          have ll:lev n rs k = n:=by
            have:k = 0∨k = 1:=by omega
            rcases this with z | z <;> subst z
            · exact lev_no B
            · exact lev_yes B
          refine hne' (one_room m lo' hi' (by omega) (by omega) (by omega) fun r=>?_)
          have z:=yes_lo B e' hl r
          rw [← z.1,← z.2,← h,← h,yes_put B hk (by omega),yes_put B hk (by omega)]
      · have a:k = 0∨k = 1:=by omega
        have b:l = 0∨l = 1:=by omega
        have z:=h fun _=>false
        rcases a with a | a <;> rcases b with b | b <;> subst a <;> subst b
        · rfl
        · rw [yes_no B,yes_yes B] at z; cases z
        · rw [yes_no B,yes_yes B] at z; cases z
        · rfl
end
theorem get_snoc {rs:List Rm} {x:Rm} {k:Nat} (h:k < rs.length):(rs ++ [x])[k]? = rs[k]?:=List.getElem?_append_left h
theorem lev_snoc {n:Nat} {rs:List Rm} {x:Rm} {k:Nat} (h:k < rs.length):lev n (rs ++ [x]) k = lev n rs k:=by
  unfold lev; rw [get_snoc h]
theorem Bk.snoc {n:Nat} {rs:List Rm} (B:Bk n rs) {i lo hi:Nat} (hin:i < n) (hlo:lo < rs.length) (hhi:hi < rs.length) (hne:lo≠hi) (l1:i < lev n rs lo) (l2:i < lev n rs hi) (new:some (i,lo,hi) ∉ rs):Bk n (rs ++ [some (i,lo,hi)]) where
  h0:=by rw [get_snoc (by have:=len2 B; omega)]; exact B.h0
  h1:=by rw [get_snoc (by have:=len2 B; omega)]; exact B.h1
  rm:=fun k h2 hk=>by
    rw [List.length_append,List.length_singleton] at hk
    by_cases hlt:k < rs.length
    · obtain ⟨i',lo',hi',e,a1,a2,a3,a4,a5,a6⟩:=B.rm k h2 hlt
      exact ⟨i',lo',hi',by rw [get_snoc hlt]; exact e,a1,a2,a3,a4,by rw [lev_snoc (by omega)]; exact a5,by rw [lev_snoc (by omega)]; exact a6⟩
    · have e:k = rs.length:=by omega
      subst e
      exact ⟨i,lo,hi,by simp,hin,hlo,hhi,hne,by rw [lev_snoc hlo]; exact l1,by rw [lev_snoc hhi]; exact l2⟩
  uq:=fun k l x hk hl=>by
    have lk:=(List.getElem?_eq_some_iff.mp hk).1
    have ll:=(List.getElem?_eq_some_iff.mp hl).1
    rw [List.length_append,List.length_singleton] at lk ll
    have last:∀ m,m = rs.length→(rs ++ [some (i,lo,hi)])[m]? = some (some x)→x = (i,lo,hi):=fun m hm h=>by
      subst hm
      simp at h
      exact h.symm
    by_cases h1:k < rs.length
    · by_cases h2:l < rs.length
      · rw [get_snoc h1] at hk
        rw [get_snoc h2] at hl
        exact B.uq k l x hk hl
      · exfalso
        have e:=last l (by omega) hl
        subst e
        rw [get_snoc h1] at hk
        exact new (List.mem_of_getElem? hk)
    · by_cases h2:l < rs.length
      · exfalso
        have e:=last k (by omega) hk
        subst e
        rw [get_snoc h2] at hl
        exact new (List.mem_of_getElem? hl)
      · omega
theorem lead_snoc {n:Nat} {rs:List Rm} (B:Bk n rs) {x:Rm} (r:Row):∀ (f k:Nat),k < rs.length→lead (rs ++ [x]) r f k = lead rs r f k
  | 0,_,_=>rfl
  | f + 1,k,hk=>by
    unfold lead
    rw [get_snoc hk]
    by_cases h2:2≤k
    · obtain ⟨i,lo,hi,e,_,hlo,hhi,_⟩:=B.rm k h2 hk
      rw [e]
      show lead (rs ++ [x]) r f (if r i then hi else lo) = lead rs r f (if r i then hi else lo)
      exact lead_snoc B r f _ (by split <;> omega)
    · have:k = 0∨k = 1:=by omega
      rcases this with z | z <;> subst z
      · rw [B.h0]
      · rw [B.h1]
theorem yes_snoc {n:Nat} {rs:List Rm} (B:Bk n rs) {x:Rm} {k:Nat} (hk:k < rs.length) (r:Row):yes (rs ++ [x]) k r = yes rs k r:=by
  unfold yes; rw [lead_snoc B r k k hk]
def Grown (rs rs':List Rm):Prop:=∃ xs,rs' = rs ++ xs
theorem Grown.refl (rs:List Rm):Grown rs rs:=⟨[],by simp⟩
theorem Grown.trans {a b c:List Rm} (h:Grown a b) (k:Grown b c):Grown a c:=by
  obtain ⟨x,rfl⟩:=h
  obtain ⟨y,rfl⟩:=k
  exact ⟨x ++ y,by rw [List.append_assoc]⟩
theorem Grown.len {a b:List Rm} (h:Grown a b):a.length≤b.length:=by
  obtain ⟨x,rfl⟩:=h
  rw [List.length_append]; omega
theorem Grown.get {a b:List Rm} (h:Grown a b) {k:Nat} (hk:k < a.length):b[k]? = a[k]?:=by
  obtain ⟨x,rfl⟩:=h
  exact List.getElem?_append_left hk
theorem Grown.snoc (rs:List Rm) (x:Rm):Grown rs (rs ++ [x]):=⟨[x],rfl⟩
theorem Grown.lev {n:Nat} {a b:List Rm} (h:Grown a b) {k:Nat} (hk:k < a.length):lev n b k = lev n a k:=by
  unfold Bdd.lev; rw [h.get hk]
theorem Grown.lead {n:Nat} {a b:List Rm} (B:Bk n a) (h:Grown a b) (r:Row):∀ (f k:Nat),k < a.length→lead b r f k = lead a r f k
  | 0,_,_=>rfl
  | f + 1,k,hk=>by
    unfold Bdd.lead
    rw [h.get hk]
    by_cases h2:2≤k
    · obtain ⟨i,lo,hi,e,_,hlo,hhi,_⟩:=B.rm k h2 hk
      rw [e]
      show Bdd.lead b r f (if r i then hi else lo) = Bdd.lead a r f (if r i then hi else lo)
      exact Grown.lead B h r f _ (by split <;> omega)
    · have:k = 0∨k = 1:=by omega
      rcases this with z | z <;> subst z
      · rw [B.h0]
      · rw [B.h1]
theorem Grown.yes {n:Nat} {a b:List Rm} (B:Bk n a) (h:Grown a b) {k:Nat} (hk:k < a.length) (r:Row):yes b k r = yes a k r:=by
  unfold Bdd.yes; rw [Grown.lead B h r k k hk]
end Bdd
namespace L2
end L2
namespace Sen
open PySem L2 Bdd
abbrev Foot:=Addr→Prop
def Away (F:Foot) (H H':Hp):Prop:=∀ x o,H x = some o→¬ F x→H' x = some o
def bookMeths:List Str:=["room", "size", "order", "enter", "worth_at", "below"]
structure BookLike (C:Addr) (B:Hp→Addr→List Str→List Rm→Foot→Prop):Prop where
  ins:∀ {H b os rs F},B H b os rs F→∃ dx fs,H b = some (.ins C dx fs)∧∀ m∈bookMeths,fs.lookup m = none
  frame:∀ {H H' b os rs F},B H b os rs F→(∀ x o,H x = some o→F x→H' x = some o)→Tups H H'→B H' b os rs F
  there:∀ {H b os rs F x},B H b os rs F→F x→H x≠none
  bk:∀ {H b os rs F},B H b os rs F→Bk os.length rs
  ord:∀ {H b os rs F},B H b os rs F→IsOrd os
theorem BookLike.same {C:Addr} {B:Hp→Addr→List Str→List Rm→Foot→Prop} (L:BookLike C B) {H H':Hp} {b:Addr} {os:List Str} {rs:List Rm} {F:Foot} (h:B H b os rs F) (g:Same H H'):B H' b os rs F :=
  L.frame h (fun x o e _=>g x o e) (Tups.of g)
theorem BookLike.fresh {C:Addr} {B:Hp→Addr→List Str→List Rm→Foot→Prop} (L:BookLike C B) {H:Hp} {b x:Addr} {os:List Str} {rs:List Rm} {F:Foot} (h:B H b os rs F) (e:H x = none):¬ F x:=fun q=>L.there h q e
def envR (os:List Str) (r:Row):Str→Bool:=fun x=>r (ix os x)
section
variable (B:Hp→Addr→List Str→List Rm→Foot→Prop) (K:PySem.W.Frag) (C:Addr)
def spBookInit:Sp:=fun vs H Q _=>∃ (b dx l:Addr) (os:List Str),vs = [.ref b,.ref l]∧H b = some (.ins C dx [])∧b≠dx∧SqL K H l (os.map V.str)∧IsOrd os ∧
  ∀ (H':Hp) (F:Foot),(∀ x o,H x = some o→x≠b→H' x = some o)→B H' b os [none,none] F→(∀ x,F x→x = b∨x = dx∨H x = none)→Q .non H'
def spBookOrder:Sp:=fun vs H Q _=>∃ (b:Addr) (os:List Str) (rs:List Rm) (F:Foot),vs = [.ref b]∧B H b os rs F∧∀ (l:Addr) (H':Hp),Same H H'→H l = none→H' l = some (.lst (os.map V.str))→Q (.ref l) H'
end
end Sen
namespace L2
open PySem PySem.Spec PyProof.Rows
end L2
namespace Bdd
open L2
end Bdd
namespace Sen
open PySem L2 Bdd
section
variable (B:Hp→Addr→List Str→List Rm→Foot→Prop)
end
end Sen
namespace Bdd
def Means (rs:List Rm) (k:Nat) (f:Row→Bool):Prop:=k < rs.length∧∀ r,yes rs k r = f r
end Bdd
namespace L2
open PySem
theorem cutK {X:Cx} {all rest:List Stmt} {D:Ends} {Tf:TS→TS} {Pre:St→Hp→Prop} (Mid:St→Hp→Prop) (h1:∀ t,PSs X rest t→PSs X all (Tf t)) (h:∀ u:TS,(∀ σ H,Mid σ H→u D σ H)→∀ σ H,Pre σ H→Tf u D σ H)
    (hr:∃ t,PSs X rest t∧∀ σ H,Mid σ H→t D σ H):∃ t,PSs X all t∧∀ σ H,Pre σ H→t D σ H :=
  let ⟨t,a,b⟩:=hr
  ⟨Tf t,h1 t a,h t b⟩
theorem cut0 {X:Cx} {all:List Stmt} {D:Ends} {σ:St} {H:Hp} (h:∃ t,PSs X all t∧∀ σ' H',(σ' = σ∧H' = H)→t D σ' H'):∃ t,PSs X all t∧t D σ H :=
  let ⟨t,a,b⟩:=h
  ⟨t,a,b _ _ ⟨rfl,rfl⟩⟩
end L2
namespace Sen
open PySem L2 Bdd
def wd:Bool→Bool→Bool→Bool→Str
  | false,false,false,false => "0000"
  | false,false,false,true => "0001"
  | false,false,true,false => "0010"
  | false,false,true,true => "0011"
  | false,true,false,false => "0100"
  | false,true,false,true => "0101"
  | false,true,true,false => "0110"
  | false,true,true,true => "0111"
  | true,false,false,false => "1000"
  | true,false,false,true => "1001"
  | true,false,true,false => "1010"
  | true,false,true,true => "1011"
  | true,true,false,false => "1100"
  | true,true,false,true => "1101"
  | true,true,true,false => "1110"
  | true,true,true,true => "1111"
def jn (a b c d:Bool) (x y:Bool):Bool:=if x then (if y then d else c) else (if y then b else a)
section
variable (B:Hp→Addr→List Str→List Rm→Foot→Prop)
end
section
variable {B:Hp→Addr→List Str→List Rm→Foot→Prop} {C:Addr} {H0:Hp} {b:Addr} {os:List Str} {n:Nat} {H:Hp} {rs:List Rm} {F:Foot}
end
end Sen
namespace Bdd
open Sen
def rowN (b:Nat):Row:=fun i=>b.testBit i
def bits (r:Row):Nat→Nat
  | 0=>0
  | n + 1=>if r n then bits r n + 2 ^ n else bits r n
theorem bits_lt (r:Row):∀ n,bits r n < 2 ^ n
  | 0=>Nat.zero_lt_one
  | n + 1=>by
    have ih:=bits_lt r n
    unfold bits
    rw [Nat.pow_succ]
    split <;> omega
theorem bits_bit (r:Row):∀ {n i:Nat},i < n→(bits r n).testBit i = r i
  | 0,i,h=>by omega
  | n + 1,i,h=>by
    have lt:=bits_lt r n
    have z:(bits r n).testBit n = false:=Nat.testBit_lt_two_pow lt
    unfold bits
    by_cases e:i = n
    · subst e
      cases hr:r i
      · rw [if_neg Bool.false_ne_true]; exact z
      · rw [if_pos rfl,tb_add_same,z]; rfl
    · have hi:i < n:=by omega
      split
      · rw [tb_add_lt hi]; exact bits_bit r hi
      · exact bits_bit r hi
theorem eq_bits {n a b:Nat} (ha:a < 2 ^ n) (hb:b < 2 ^ n) (h:∀ i,i < n→a.testBit i = b.testBit i):a = b :=
  Nat.eq_of_testBit_eq fun i=>by
    by_cases hi:i < n
    · exact h i hi
    · have:2 ^ n≤2 ^ i:=Nat.pow_le_pow_right (by decide) (by omega)
      rw [Nat.testBit_lt_two_pow (by omega),Nat.testBit_lt_two_pow (by omega)]
theorem bits_put {r:Row} {n i:Nat} (hi:i < n) (v:Bool):bits (put r i v) n = putBit (bits r n) i v:=by
  refine eq_bits (bits_lt _ _) (putBit_lt (bits_lt _ _) hi) fun j hj=>?_
  rw [bits_bit _ hj,putBit_bit,bits_bit _ hj]
  rfl
theorem bits_rowN {n b:Nat} (h:b < 2 ^ n):bits (rowN b) n = b:=eq_bits (bits_lt _ _) h fun i hi=>by rw [bits_bit _ hi]; rfl
theorem yes_bits {n:Nat} {rs:List Rm} (B:Bk n rs) {k:Nat} (hk:k < rs.length) (r:Row):yes rs k (rowN (bits r n)) = yes rs k r :=
  yes_congr B k k (Nat.le_refl _) hk fun i _ hi=>bits_bit r hi
theorem tab_inj {n N M:Nat} {f g:Nat→Bool} (h:IsTab n N f) (k:IsTab n M g) (e:∀ b,b < 2 ^ n→f b = g b):N = M :=
  Nat.eq_of_testBit_eq fun i=>by
    rw [h i,k i]
    by_cases hi:i < 2 ^ n
    · rw [e i hi]
    · rw [decide_eq_false hi]; rfl
theorem tab_val {n N:Nat} {f:Nat→Bool} (h:IsTab n N f) {b:Nat} (hb:b < 2 ^ n):N.testBit b = f b:=by rw [h b,decide_eq_true hb]; rfl
def Free (n:Nat) (f:Nat→Bool) (p:Nat):Prop:=∀ b,b < 2 ^ n→∀ v,f (putBit b p v) = f b
theorem putBit_self (b p:Nat):putBit b p (b.testBit p) = b:=by unfold putBit; rw [if_pos rfl]
theorem Free.of_flip {n p:Nat} {f:Nat→Bool} (h:∀ b,b < 2 ^ n→f (putBit b p (!b.testBit p)) = f b):Free n f p:=fun b hb v=>by
  by_cases e:v = b.testBit p
  · rw [e,putBit_self]
  · have:v = !b.testBit p:=by cases v <;> cases hh:b.testBit p <;> simp_all
    rw [this]; exact h b hb
theorem const_of_free {n:Nat} {f:Nat→Bool} (h:∀ p,p < n→Free n f p):∀ b,b < 2 ^ n→f b = f 0:=by
  have key:∀ m b,m≤n→b < 2 ^ n→(∀ i,m≤i→i < n→b.testBit i = false)→f b = f 0:=by
    intro m
    induction m with
    | zero =>
      intro b _ hb hz
      have:b = 0:=eq_bits hb (Nat.two_pow_pos n) fun i hi=>by rw [hz i (Nat.zero_le _) hi,Nat.zero_testBit]
      rw [this]
    | succ m ih =>
      intro b hm hb hz
      rw [← h m (by omega) b hb false]
      refine ih _ (by omega) (putBit_lt hb (by omega)) fun i hi hin=>?_
      rw [putBit_bit]
      by_cases e:i = m
      · rw [if_pos e]
      · rw [if_neg e]; exact hz i (by omega) hin
  exact fun b hb=>key n b (Nat.le_refl _) hb fun i hi hin=>by omega
theorem lev_gt {n:Nat} {rs:List Rm} (B:Bk n rs) {k p:Nat} (hk:k < rs.length) (hp:p < n) (h:∀ i,i≤p→∀ r v,yes rs k (put r i v) = yes rs k r):p < lev n rs k:=by
  by_cases k2:2≤k
  · obtain ⟨i,lo,hi,e,hin,hlo,hhi,hne,l1,l2⟩:=B.rm k k2 hk
    rw [lev_of B e]
    by_cases hip:i≤p
    · exfalso
      refine hne (one_room B (max lo hi) lo hi ⟨Nat.le_max_left _ _,Nat.le_max_right _ _⟩ (by omega) (by omega) fun r=>?_)
      have z:=yes_lo B e hk r
      rw [← z.1,← z.2,h i hip,h i hip]
    · omega
  · have:k = 0∨k = 1:=by omega
    rcases this with z | z <;> subst z
    · rw [lev_no B]; exact hp
    · rw [lev_yes B]; exact hp
theorem room_new {n m p k0 k1:Nat} {rs:List Rm} {f:Nat→Bool} (B:Bk n rs) (hp:p < n) (m0:k0 < rs.length) (m1:k1 < rs.length)
    (y0:∀ r,yes rs k0 r = f (putBit (bits r n) p false)) (y1:∀ r,yes rs k1 r = f (putBit (bits r n) p true)) (fr:∀ i,i < p→Free n f i)
    (dep:∃ b,b < 2 ^ n∧f (putBit b p false)≠f (putBit b p true)) (old:∀ j,j < m→¬ ∀ r,yes rs j r = f (bits r n)) (hl:∀ j,m≤j→j < rs.length→p < lev n rs j) :
    Bk n (rs ++ [some (p,k0,k1)])∧∀ r,yes (rs ++ [some (p,k0,k1)]) rs.length r = f (bits r n):=by
  have pb:∀ (r:Row) v,putBit (bits r n) p v < 2 ^ n:=fun r v=>putBit_lt (bits_lt _ _) hp
  have low:∀ (k:Nat) (w:Bool),k < rs.length→(∀ r,yes rs k r = f (putBit (bits r n) p w))→p < lev n rs k:=fun k w hk hy=>lev_gt B hk hp fun i hi r v=>by
    rw [hy,hy,bits_put (by omega)]
    by_cases e:i = p
    · subst e
      congr 1
      refine eq_bits (putBit_lt (putBit_lt (bits_lt _ _) hp) hp) (pb r w) fun j _=>?_
      rw [putBit_bit,putBit_bit,putBit_bit]
      by_cases e:j = i
      · rw [if_pos e,if_pos e]
      · rw [if_neg e,if_neg e,if_neg e]
    · rw [← fr i (by omega) _ (pb r w) v]
      congr 1
      refine eq_bits (putBit_lt (putBit_lt (bits_lt _ _) (by omega)) hp) (putBit_lt (pb r w) (by omega)) fun j _=>?_
      rw [putBit_bit,putBit_bit,putBit_bit,putBit_bit]
      by_cases e1:j = p
      · rw [if_pos e1,if_pos e1,if_neg (by omega)]
      · rw [if_neg e1,if_neg e1]
  have ne:k0≠k1:=fun e=>by
    subst e
    obtain ⟨b,hb,hne⟩:=dep
    refine hne ?_
    have a:=y0 (rowN b)
    have c:=y1 (rowN b)
    rw [bits_rowN hb] at a c
    exact a.symm.trans c
  have fin:∀ (R:List Rm) (k:Nat),Bk n R→R[k]? = some (some (p,k0,k1))→(∀ j,j < rs.length→∀ r,yes R j r = yes rs j r)→∀ r,yes R k r = f (bits r n):=fun R k BR e same r=>by
    rw [yes_step BR e,same _ m1,same _ m0,y0,y1]
    have hb:=bits_bit r hp
    cases hr:r p
    · rw [if_neg Bool.false_ne_true]
      rw [hr] at hb
      conv=>rhs; rw [← putBit_self (bits r n) p,hb]
    · rw [if_pos rfl]
      rw [hr] at hb
      conv=>rhs; rw [← putBit_self (bits r n) p,hb]
  have new:some (p,k0,k1) ∉ rs:=fun h=>by
    obtain ⟨j,hj,e⟩:=List.getElem_of_mem h
    have e':rs[j]? = some (some (p,k0,k1)):=by rw [List.getElem?_eq_getElem hj,e]
    by_cases hm:j < m
    · exact old j hm (fin rs j B e' fun _ _ _=>rfl)
    · have:=hl j (by omega) hj
      rw [lev_of B e'] at this
      omega
  have B':=B.snoc hp m0 m1 ne (low k0 false m0 y0) (low k1 true m1 y1) new
  refine ⟨B',fin _ _ B' (by simp) fun j hj r=>?_⟩
  exact yes_snoc B hj r
end Bdd
namespace Bdd
open Sen
structure Tabs (n:Nat) (rs:List Rm) (ts:List Nat):Prop where
  len:ts.length = rs.length
  tab:∀ (j t:Nat),ts[j]? = some t→IsTab n t (fun b=>yes rs j (rowN b))
theorem Tabs.snoc {n:Nat} {rs:List Rm} (B:Bk n rs) {ts:List Nat} {x:Rm} {t:Nat} (h:Tabs n rs ts) (k:IsTab n t (fun b=>yes (rs ++ [x]) rs.length (rowN b))):Tabs n (rs ++ [x]) (ts ++ [t]):=by
  refine ⟨by rw [List.length_append,List.length_append,h.len]; rfl,fun j u e=>?_⟩
  by_cases hj:j < ts.length
  · rw [List.getElem?_append_left hj] at e
    refine tab_congr (h.tab j u e) fun b _=>?_
    rw [yes_snoc B (by rw [← h.len]; exact hj)]
  · have lt:=(List.getElem?_eq_some_iff.mp e).1
    rw [List.length_append,List.length_singleton] at lt
    have ej:j = ts.length:=by omega
    subst ej
    simp at e
    subst e
    rw [h.len]
    exact k
theorem Tabs.find {n:Nat} {rs:List Rm} (B:Bk n rs) {ts:List Nat} (h:Tabs n rs ts) {j t:Nat} {f:Nat→Bool} (e:ts[j]? = some t) (tb:IsTab n t f) (r:Row):yes rs j r = f (bits r n):=by
  have hj:j < rs.length:=by rw [← h.len]; exact (List.getElem?_eq_some_iff.mp e).1
  rw [← yes_bits B hj,← tab_val tb (bits_lt r n),tab_val (h.tab j t e) (bits_lt r n)]
theorem Tabs.same {n:Nat} {rs:List Rm} {ts:List Nat} (h:Tabs n rs ts) {j t:Nat} {f:Nat→Bool} (hj:j < rs.length) (tb:IsTab n t f) (hy:∀ r,yes rs j r = f (bits r n)):ts[j]? = some t:=by
  have lt:j < ts.length:=by rw [h.len]; exact hj
  rw [List.getElem?_eq_getElem lt]
  congr 1
  refine tab_inj (h.tab j _ (List.getElem?_eq_getElem lt)) tb fun b hb=>?_
  show yes rs j (rowN b) = f b
  rw [hy,bits_rowN hb]
end Bdd
namespace Sen
open PySem L2 Bdd
structure Nums (ts:List Nat) (kvs:List (Key × V)):Prop where
  get:∀ (j t:Nat),ts[j]? = some t→valV kvs (Sum.inl (t:Int)) = some (.int (j:Nat))
  non:∀ t:Nat,t ∉ ts→valV kvs (Sum.inl (t:Int)) = none
  len:kvs.length≤ts.length
theorem Nums.snoc {ts:List Nat} {kvs:List (Key × V)} (h:Nums ts kvs) {t:Nat} (ht:t ∉ ts):Nums (ts ++ [t]) (putK kvs (Sum.inl (t:Int)) (.int (ts.length:Nat))):=by
  refine ⟨fun j u e=>?_,fun u hu=>?_,?_⟩
  · rw [valV_put]
    by_cases hj:j < ts.length
    · rw [List.getElem?_append_left hj] at e
      have hm:=List.mem_of_getElem? e
      rw [if_neg fun z=>?_]
      · exact h.get j u e
      · have:(u:Int) = (t:Int):=Sum.inl.inj z
        have:u = t:=by omega
        exact ht (this ▸ hm)
    · have lt:=(List.getElem?_eq_some_iff.mp e).1
      rw [List.length_append,List.length_singleton] at lt
      have ej:j = ts.length:=by omega
      subst ej
      simp at e
      subst e
      rw [if_pos rfl]
  · rw [valV_put,if_neg fun z=>?_]
    · exact h.non u fun z=>hu (List.mem_append_left _ z)
    · have:(u:Int) = (t:Int):=Sum.inl.inj z
      have:u = t:=by omega
      exact hu (this ▸ List.mem_append_right _ List.mem_cons_self)
  · have:=length_putK kvs (Sum.inl (t:Int)) (.int (ts.length:Nat))
    have:=h.len
    rw [List.length_append,List.length_singleton]
    omega
def roomT (n j:Nat):Rm→List V
  | none=>[.int (n:Nat),.int (j:Nat),.int (j:Nat)]
  | some (i,lo,hi)=>[.int (i:Nat),.int (lo:Nat),.int (hi:Nat)]
def bookFs (ml rl tl nd:Addr):List (Str × V):=[("marks", .ref ml),("rooms", .ref rl),("tables", .ref tl),("numbers", .ref nd)]
structure Parts (C:Addr) (H:Hp) (b:Addr) (os:List Str) (rs:List Rm) (F:Foot) (dx ml rl tl nd:Addr) (rv:List V) (ts:List Nat) (kvs:List (Key × V)):Prop where
  hb:H b = some (.ins C dx (bookFs ml rl tl nd))
  hm:H ml = some (.lst (os.map V.str))
  hr:H rl = some (.lst rv)
  ht:H tl = some (.lst (ts.map fun t=>V.int (t:Nat)))
  hd:H nd = some (.dK kvs)
  mr:ml≠rl
  mt:ml≠tl
  rt:rl≠tl
  ord:IsOrd os
  bk:Bk os.length rs
  len:rv.length = rs.length
  rm:∀ (j:Nat) x,rs[j]? = some x→∃ p,rv[j]? = some (.ref p)∧H p = some (.tup (roomT os.length j x))
  tabs:Tabs os.length rs ts
  nums:Nums ts kvs
  ft:∀ x,F x↔(x = b∨x = ml∨x = rl∨x = tl∨x = nd)
def BookAt (C:Addr) (H:Hp) (b:Addr) (os:List Str) (rs:List Rm) (F:Foot):Prop:=∃ dx ml rl tl nd rv ts kvs,Parts C H b os rs F dx ml rl tl nd rv ts kvs
theorem Parts.frame {C:Addr} {H H':Hp} {b:Addr} {os:List Str} {rs:List Rm} {F:Foot} {dx ml rl tl nd:Addr} {rv:List V} {ts:List Nat} {kvs:List (Key × V)} (h:Parts C H b os rs F dx ml rl tl nd rv ts kvs)
    (s:∀ x o,H x = some o→F x→H' x = some o) (t:Tups H H'):Parts C H' b os rs F dx ml rl tl nd rv ts kvs :=
  { h with
    hb:=s _ _ h.hb ((h.ft _).mpr (.inl rfl))
    hm:=s _ _ h.hm ((h.ft _).mpr (.inr (.inl rfl)))
    hr:=s _ _ h.hr ((h.ft _).mpr (.inr (.inr (.inl rfl))))
    ht:=s _ _ h.ht ((h.ft _).mpr (.inr (.inr (.inr (.inl rfl)))))
    hd:=s _ _ h.hd ((h.ft _).mpr (.inr (.inr (.inr (.inr rfl)))))
    rm:=fun j x e=>let ⟨p,a,c⟩:=h.rm j x e; ⟨p,a,t _ _ c⟩ }
theorem bookLike (C:Addr):BookLike C (BookAt C) where
  ins:=fun ⟨dx,ml,rl,tl,nd,rv,ts,kvs,h⟩=>⟨dx,_,h.hb,fun m hm=>by
    simp only [bookMeths,List.mem_cons,List.not_mem_nil,or_false] at hm
    rcases hm with z | z | z | z | z | z <;> subst z <;> rfl⟩
  frame:=fun ⟨dx,ml,rl,tl,nd,rv,ts,kvs,h⟩ s t=>⟨dx,ml,rl,tl,nd,rv,ts,kvs,h.frame s t⟩
  there:=fun ⟨dx,ml,rl,tl,nd,rv,ts,kvs,h⟩ hx=>by
    rcases (h.ft _).mp hx with z | z | z | z | z <;> subst z
    · rw [h.hb]; exact fun z=>by cases z
    · rw [h.hm]; exact fun z=>by cases z
    · rw [h.hr]; exact fun z=>by cases z
    · rw [h.ht]; exact fun z=>by cases z
    · rw [h.hd]; exact fun z=>by cases z
  bk:=fun ⟨_,_,_,_,_,_,_,_,h⟩=>h.bk
  ord:=fun ⟨_,_,_,_,_,_,_,_,h⟩=>h.ord
theorem Parts.more {C:Addr} {H H':Hp} {b:Addr} {os:List Str} {rs:List Rm} {F:Foot} {dx ml rl tl nd:Addr} {rv:List V} {ts:List Nat} {kvs:List (Key × V)} (h:Parts C H b os rs F dx ml rl tl nd rv ts kvs)
    {i lo hi t:Nat} {q:Addr} (t':Tups H H') (hb:H' b = H b) (hm:H' ml = H ml) (hr:H' rl = some (.lst (rv ++ [.ref q]))) (ht:H' tl = some (.lst (ts.map (fun t=>V.int (t:Nat)) ++ [.int (t:Nat)])))
    (hd:H' nd = some (.dK (putK kvs (Sum.inl (t:Int)) (.int (rs.length:Nat))))) (hq:H' q = some (.tup [.int (i:Nat),.int (lo:Nat),.int (hi:Nat)])) (B':Bk os.length (rs ++ [some (i,lo,hi)])) (hn:t ∉ ts) (tb:IsTab os.length t (fun b=>yes (rs ++ [some (i,lo,hi)]) rs.length (rowN b))) :
    Parts C H' b os (rs ++ [some (i,lo,hi)]) F dx ml rl tl nd (rv ++ [.ref q]) (ts ++ [t]) (putK kvs (Sum.inl (t:Int)) (.int (rs.length:Nat))) :=
  { hb:=by rw [hb]; exact h.hb
    hm:=by rw [hm]; exact h.hm
    hr:=hr
    ht:=by rw [ht,List.map_append]; rfl
    hd:=hd
    mr:=h.mr
    mt:=h.mt
    rt:=h.rt
    ord:=h.ord
    bk:=B'
    len:=by rw [List.length_append,List.length_append,h.len]; rfl
    rm:=fun j x e=>by
      by_cases hj:j < rs.length
      · rw [List.getElem?_append_left hj] at e
        obtain ⟨p,a,c⟩:=h.rm j x e
        exact ⟨p,by rw [List.getElem?_append_left (by rw [h.len]; exact hj)]; exact a,t' _ _ c⟩
      · have lt:=(List.getElem?_eq_some_iff.mp e).1
        rw [List.length_append,List.length_singleton] at lt
        have ej:j = rs.length:=by omega
        subst ej
        simp at e
        subst e
        exact ⟨q,by rw [← h.len]; simp,hq⟩
    tabs:=h.tabs.snoc h.bk tb
    nums:=by
      have z:=h.nums.snoc hn
      rw [h.tabs.len] at z
      exact z
    ft:=h.ft }
def spHeldAt:Sp:=fun vs H Q _=>∃ (N p n:Nat) (v:Bool) (f:Nat→Bool),vs = [.int N,.int p,.int (v.toNat:Nat),.int n]∧p < n∧n≤8∧IsTab n N f∧∀ R:Nat,IsTab n R (fun b=>f (putBit b p v))→Q (.int R) H
def spFirst:Sp:=fun vs H Q _=>∃ (N n:Nat) (f:Nat→Bool),vs = [.int N,.int n]∧n≤8∧IsTab n N f∧∀ p:Nat,p≤n→(∀ i,i < p→Free n f i)→(p < n→∃ b,b < 2 ^ n∧f (putBit b p false)≠f (putBit b p true))→Q (.int p) H
def spMustRoom (C:Addr):Sp:=fun vs H Q _=>∃ (b:Addr) (os:List Str) (rs:List Rm) (F:Foot) (k:Nat),vs = [.ref b,.int k]∧BookAt C H b os rs F∧k < rs.length∧Q .non H
def spTableAt (C:Addr):Sp:=fun vs H Q _=>∃ (b:Addr) (os:List Str) (rs:List Rm) (F:Foot) (k:Nat),vs = [.ref b,.int k]∧BookAt C H b os rs F∧k < rs.length∧∀ t:Nat,IsTab os.length t (fun b=>yes rs k (rowN b))→Q (.int t) H
def spHangs:Sp:=fun vs H Q _=>∃ (N p n:Nat) (f:Nat→Bool),vs = [.int N,.int p,.int n]∧p < n∧n≤8∧IsTab n N f∧∀ b:Bool,(b = false→Free n f p)→(b = true→∃ c,c < 2 ^ n∧f (putBit c p false)≠f (putBit c p true))→Q (.bl b) H
def spWithout:Sp:=fun vs H Q _=>∃ (N M n:Nat) (f g:Nat→Bool),vs = [.int N,.int M]∧IsTab n N f∧IsTab n M g∧∀ R:Nat,IsTab n R (fun b=>f b && !g b)→Q (.int R) H
def spChosen:Sp:=fun vs H Q _=>∃ (W L M n:Nat) (f g h:Nat→Bool),vs = [.int W,.int L,.int M]∧IsTab n W f∧IsTab n L g∧IsTab n M h∧∀ R:Nat,IsTab n R (fun b=>if f b then h b else g b)→Q (.int R) H
end Sen
namespace L2
open PySem PySem.Spec PyProof.Rows
def Its (x:Str):It:={ go:=fun i _=>i < x.cps.size,yld:=fun i H v H'=>H' = H∧∃ c,x.cps[i]? = some c∧v = .str ⟨#[c]⟩,stop:=fun i _=>i = x.cps.size }
theorem turn_str {P:Program} {w:World} {K:PySem.W.Frag} {tg:Expr} (it:Addr) (x:Str) (t:Tok):Turn P w K tg (Its x) [it] it (fun i h=>h.IsStrIter it "str_ascii_iterator" x t i) where
  mem:=by simp
  obj:=fun i h st b hb=>by
    have e:b = it:=by simpa using hb
    subst e
    obtain ⟨o,e,c,d⟩:=st
    exact ⟨o,e,fun v z=>by rw [d] at z; cases z⟩
  keep:=fun i h h' st k=>by
    obtain ⟨o,e,c,d⟩:=st
    exact ⟨o,k it (by simp) o e,c,d⟩
  item:=by
    intro X hP hw hK hc i pins s σ H E I hf st hg
    subst hP hw hK
    obtain ⟨f0,f1,f2,f3,f4,f5⟩:=hf it (by simp)
    have W:=Walks.strAscii (prog:=X.prog) (w:=X.w) (I.ok.hd hc) it x t
    refine W.item i s _ _ hg st fun v h' tk hv st' kk=>?_
    obtain ⟨c,u,hc',rfl⟩:=hv
    have I1:Inv X pins σ H { s with heap:=h',toks:=tk }:=I.turned (fun b o hb e=>kk b o (by simpa using hb) e) f0 f1 f3 f4 f5
    obtain ⟨o,e,cc,d⟩:=id st'
    exact ⟨_,rfl,go_of (s:={ s with heap:=h',toks:=tk }) e cc d (by decide) ⟨.str ⟨#[c]⟩,H,I1,⟨u,rfl⟩,⟨rfl,c,hc',rfl⟩,st',fun b hb=>(hf b hb).1⟩⟩
  done:=by
    intro X hP hw hK hc i pins s σ H E I hf st hg
    subst hP hw hK
    obtain ⟨f0,f1,f2,f3,f4,f5⟩:=hf it (by simp)
    have W:=Walks.strAscii (prog:=X.prog) (w:=X.w) (I.ok.hd hc) it x t
    have e:i = x.cps.size:=hg
    subst e
    exact W.done s _ _ st fun h' tk kk=>⟨rfl,I.turned (fun b o hb e=>kk b o (by simpa using hb) e) f0 f1 f3 f4 f5⟩
  self:=fun _ _ _ _ _ st h=>wpAny_pyIter_striter_ascii st h
section
variable {X:Cx} {tg:Expr}
def iStr (tl:TE):TI:=fun σ H R=>tl σ H fun x H1=>∃ z:Str,x = .str z∧(z.cps.all fun c=>decide (c < 128)) = true∧R (Its z) H1
theorem pi_str {l:Expr} {tl:TE} (hl:PE X l tl):PI X tg l (iStr tl):=by
  intro pins s σ H R I h
  refine thn (hl pins s σ H _ I h) fun v s1 ⟨x,H1,I1,r1,q1⟩=>?_
  obtain ⟨z,e,ha,q⟩:=q1
  subst e
  obtain ⟨t,rfl⟩:=r1
  refine wpAny_pyIter_ascii ha ?_
  refine ⟨s1.heap.objs.size,[s1.heap.objs.size],_,_,H1,rfl,I1.kept (t':=s1.toks) fun b o e=>Heap.get?_push_of_some _ e,turn_str _ z t,⟨_,Heap.get?_push_size _ rfl,rfl,rfl⟩,fun b hb=>?_,q⟩
  have e:b = s1.heap.objs.size:=by simpa using hb
  subst e
  exact I1.fpOk (Nat.le_refl _) (I1.hok.fresh (Nat.le_refl _))
end
section
variable {x:Str} {σ:St} {js:List Nat} {te:TE} {H:Hp} {Qf:Addr→Hp→List V→Prop}
theorem lc_str (f:Nat→V) (hz:x.cps.size≤sizeLine)
    (hs:∀ (i:Nat) c H',x.cps[i]? = some c→Same H H'→te (lcS σ js (some (.str ⟨#[c]⟩))) H' fun v H3=>v = f i∧Same H H3)
    (me:∀ σ H Q Q',(∀ v H1,Q v H1→Q' v H1)→te σ H Q→te σ H Q')
    (hd:∀ H' p,Same H H'→H' p = none→Qf p H' ((List.range x.cps.size).map f)) :
    ∃ W:Nat→Nat→List V→Hp→Prop,(∃ m,W 0 m [] H)∧∀ i m ys H,W i m ys H →
      ((Its x).stop i H∧∀ p,H p = none→Qf p H ys) ∨
      ((Its x).go i H∧ys.length < sizeLine∧∀ v H',(Its x).yld i H v H'→tYes (lcS σ js (some v)) H' fun b H2 =>
        if b = true then te (lcS σ js (some v)) H2 fun v H3=>∃ m',m' < m∧W (i + 1) m' (ys ++ [v]) H3 else ∃ m',m' < m∧W (i + 1) m' ys H2):=by
  refine ⟨fun i m ys H'=>m = x.cps.size - i∧i≤x.cps.size∧Same H H'∧ys = (List.range i).map f,⟨_,rfl,Nat.zero_le _,Same.refl _,rfl⟩,?_⟩
  rintro i m ys H1 ⟨rfl,hi,g,rfl⟩
  by_cases hlt:i < x.cps.size
  · refine .inr ⟨hlt,by rw [List.length_map,List.length_range]; omega,fun v H' y=>?_⟩
    obtain ⟨rfl,c,hc,rfl⟩:=y
    show te (lcS σ js (some (.str ⟨#[c]⟩))) _ _
    refine me _ _ _ _ (fun v H3 h3=>⟨_,by omega,rfl,hlt,h3.2,?_⟩) (hs i c _ hc g)
    rw [h3.1,List.range_succ,List.map_append]; rfl
  · have e:i = x.cps.size:=by omega
    subst e
    exact .inl ⟨rfl,fun p hp=>hd H1 p g hp⟩
end
end L2
namespace Bdd
end Bdd
namespace Sen
open PySem L2 Bdd
def chc (b:Bool):Nat:=if b then 49 else 48
theorem wd_cps (c0 c1 c2 c3:Bool):(wd c0 c1 c2 c3).cps = #[chc c0,chc c1,chc c2,chc c3]:=by
  cases c0 <;> cases c1 <;> cases c2 <;> cases c3 <;> rfl
theorem wd_len (c0 c1 c2 c3:Bool):(wd c0 c1 c2 c3).length = 4:=by unfold Str.length; rw [wd_cps]; rfl
theorem chc_in (b:Bool):inV (.str ⟨#[chc b]⟩) [.str "0", .str "1"] = true:=by cases b <;> decide +kernel
theorem chc_eq (b:Bool):decide (V.str ⟨#[chc b]⟩ = V.str "1") = b:=by cases b <;> decide +kernel
theorem wd_ascii (c0 c1 c2 c3:Bool):((wd c0 c1 c2 c3).cps.all fun c=>decide (c < 128)) = true:=by
  cases c0 <;> cases c1 <;> cases c2 <;> cases c3 <;> decide +kernel
theorem wd_mem {c0 c1 c2 c3:Bool} {i c:Nat} (h:(wd c0 c1 c2 c3).cps[i]? = some c):∃ b,c = chc b:=by
  rw [wd_cps] at h
  have hi:i < 4:=by
    have:=(Array.getElem?_eq_some_iff.mp h).1
    exact this
  match i,hi with
  | 0,_=>exact ⟨c0,(Option.some.inj h).symm⟩
  | 1,_=>exact ⟨c1,(Option.some.inj h).symm⟩
  | 2,_=>exact ⟨c2,(Option.some.inj h).symm⟩
  | 3,_=>exact ⟨c3,(Option.some.inj h).symm⟩
theorem wd_at0 (c0 c1 c2 c3:Bool):atI (wd c0 c1 c2 c3).cps.toList 0 = some (chc c0):=by rw [wd_cps]; rfl
theorem wd_at1 (c0 c1 c2 c3:Bool):atI (wd c0 c1 c2 c3).cps.toList 1 = some (chc c1):=by rw [wd_cps]; rfl
theorem wd_at2 (c0 c1 c2 c3:Bool):atI (wd c0 c1 c2 c3).cps.toList 2 = some (chc c2):=by rw [wd_cps]; rfl
theorem wd_at3 (c0 c1 c2 c3:Bool):atI (wd c0 c1 c2 c3).cps.toList 3 = some (chc c3):=by rw [wd_cps]; rfl
def spMustWord:Sp:=fun vs H Q _=>∃ c0 c1 c2 c3:Bool,vs = [.str (wd c0 c1 c2 c3)]∧∀ H',Same H H'→Q .non H'
def spJoinedBy:Sp:=fun vs H Q _=>∃ (c0 c1 c2 c3:Bool) (N M E n:Nat) (f g:Nat→Bool),vs = [.str (wd c0 c1 c2 c3),.int N,.int M,.int E]∧IsTab n N f∧IsTab n M g∧IsTab n E (fun _=>true)∧∀ R:Nat,IsTab n R (fun b=>jn c0 c1 c2 c3 (f b) (g b))→Q (.int R) H
theorem yes_at {n:Nat} {rs:List Rm} (B:Bk n rs) {k:Nat} {f:Row→Bool} (h:Means rs k f) (r:Row):yes rs k (rowN (bits r n)) = f r:=(yes_bits B h.1 r).trans (h.2 r)
end Sen
namespace Bdd
open Sen
section
variable {n:Nat} {rs:List Rm} (B:Bk n rs)
include B
end
end Bdd
namespace L2
open PySem PySem.Spec PyProof.Rows
section
variable {X:Cx} {sc osc:Scope} {xs:List Str} {js:List Nat} {tg:Expr} {g:TG} {elt iter:Expr} {px pos:Pos} {ifs:List Expr} {wi:TI} {tt:TT} {te:TE}
theorem pe_lcG (hosc:X.env.scope = osc) (L:LcOkG osc sc xs (js.map fun j=>X.N.getD j "")) (hc:X.calm = true) (hi:PI X tg iter wi) (hg:∀ (cl:List (Str × Addr)) (C:Addr) (s₂:Shared) (H₂:Hp) (fp:List Addr),PG (X.blk sc cl C (lcG X xs js) s₂ H₂ fp) tg g) (hjs:∀ j∈js,j < X.N.length)
    (ht:∀ (cl:List (Str × Addr)) (C:Addr) (s₂:Shared) (H₂:Hp) (fp:List Addr) (pins:List (Addr × Obj)) (s':Shared) (σ':St) (H':Hp) (Q:Bool→Hp→Prop),Inv (X.blk sc cl C (lcG X xs js) s₂ H₂ fp) pins σ' H' s'→tt σ' H' Q →
      wpAny (model X.prog X.w) X.A (lcTests ifs (compEnvC sc cl C X.env)) (TP (X.blk sc cl C (lcG X xs js) s₂ H₂ fp) pins σ' Q) (fun _ _=>False) s')
    (he:∀ (cl:List (Str × Addr)) (C:Addr) (s₂:Shared) (H₂:Hp) (fp:List Addr),PE (X.blk sc cl C (lcG X xs js) s₂ H₂ fp) elt te)
    (hs:∀ x,foldedSetIterable iter X.env x = pure x:=by intro _; rfl) :
    PE X (.ListComp elt [⟨tg,iter,ifs,0⟩] sc pos) (tLCG wi xs js g tt te):=by
  intro pins s σ H Q I h
  rw [eval_ListComp]
  refine lc_coreG (use:=none) (Fin:=fun ys H=>∀ p,H p = none→Q (.ref p) (upd H p (.lst ys))) hosc L hc hi hg hjs ht he hs I h fun D C s5 H5 ys its k m5 J oD oC hDC p1 vs z hn fin=>?_
  refine ⟨m5,hn,fun h' hsb=>?_⟩
  have J2:Inv X pins σ H5 { s5 with heap:=h',toks:=s5.toks }:=J.turned (it:=C) (fun b o hb e=>hsb.extBut b o hb e) oC.free oC.loc (.inr oC.new) oC.cel oC.pin
  have p1':h'.get? D = some (lstObj its k):=hsb.extBut _ _ hDC p1
  have J3:Inv X pins σ (upd H5 D (.lst ys)) { s5 with heap:=h',toks:=s5.toks }:=J2.track oD.free oD.loc oD.new oD.cel oD.pin ⟨z,its,k,vs,p1'⟩
  exact ⟨.ref D,_,J3,rfl,fin D oD.free⟩
end
end L2
namespace L2
open PySem PySem.Spec PyProof.Rows
theorem Inv.turnedM {X:Cx} {pins:List (Addr × Obj)} {σ:St} {H:Hp} {s:Shared} {h':Heap} {t':Nat} {fp:List Addr} (I:Inv X pins σ H s) (k:∀ b o,b ∉ fp→s.heap.get? b = some o→h'.get? b = some o) (hf:∀ b∈fp,FpOk X pins H b) :
    Inv X pins σ H { s with heap:=h',toks:=t' }:=by
  have nit:∀ b u,H b = some u→b ∉ fp:=fun b u e z=>by rw [(hf b z).1] at e; cases e
  refine I.step (g':=s.gens) (d':=s.drawn) (ch:=fp) (fun b hb=>⟨(hf b hb).2.2.2.1,(hf b hb).2.1,(hf b hb).2.2.2.2.1,(hf b hb).2.2.2.2.2⟩) (fun b o _ _ hc e _=>k b o hc e) (fun b o _ _ hc e _=>⟨o.slots,k b o hc e⟩) (fun _ _ _ _ n=>n)
    (fun b o hc e=>⟨o,k b o hc e⟩) (fun _ _ e=>e) (fun _ _ _ e=>e) (fun b ps e=>⟨#[],by rw [e]; simp⟩) (fun m hm=>?_) (fun b u e=>?_) I.bare
  · obtain ⟨o,es,ep,ho,r⟩:=hm
    exact ⟨o,es,ep,k _ o (fun z=>(hf _ z).2.1 rfl) ho,r⟩
  · refine (I.hok b u e).stay (fun c v hc q=>k c v ?_ q) (fun _ q=>q) fun _ _ q=>q
    rcases hc with z | z
    · rw [z]; exact nit b u e
    · exact nit c _ z
def Itz (K:PySem.W.Frag) (a b:Addr):It :=
  { go:=fun i H=>∃ xs ys x y,SqL K H a xs∧SqL K H b ys∧xs[i]? = some x∧ys[i]? = some y
    yld:=fun i H v H'=>∃ q x y,(∀ xs,SqL K H a xs→xs[i]? = some x)∧(∀ ys,SqL K H b ys→ys[i]? = some y)∧v = .ref q∧H q = none∧H' = upd H q (.tup [x,y])
    stop:=fun i H=>∃ xs ys,SqL K H a xs∧SqL K H b ys∧(xs.length≤i∨ys.length≤i) }
theorem turn_zip {P:Program} {w:World} {K:PySem.W.Frag} {els:List Expr} {x1} {pt:Pos} (a b z ti to i1 i2:Addr) (D:ZipApart z ti to i1 i2 a b):Turn P w K (.Tuple els x1 pt) (Itz K a b) [z,ti,to,i1,i2] z
    (fun i h=>IsZip h z ti to .none∧IsPair h ti (.ref i1) (.ref i2)∧(∃ u v,IsPair h to u v)∧h.IsListIter i1 a i∧h.IsListIter i2 b i) where
  mem:=by simp
  obj:=fun i h st c hc=>by
    obtain ⟨q1,q2,⟨u,v,q3⟩,⟨o4,q4,c4,d4⟩,⟨o5,q5,c5,d5⟩⟩:=st
    simp only [List.mem_cons,List.not_mem_nil,or_false] at hc
    rcases hc with e | e | e | e | e <;> subst e
    · exact ⟨_,q1,fun v hv=>by cases hv⟩
    · exact ⟨_,q2,fun v hv=>by cases hv⟩
    · exact ⟨_,q3,fun v hv=>by cases hv⟩
    · exact ⟨_,q4,fun v hv=>by rw [d4] at hv; cases hv⟩
    · exact ⟨_,q5,fun v hv=>by rw [d5] at hv; cases hv⟩
  keep:=fun i h h' st k=>by
    obtain ⟨q1,q2,⟨u,v,q3⟩,q4,q5⟩:=st
    exact ⟨k z (by simp) _ q1,k ti (by simp) _ q2,⟨u,v,k to (by simp) _ q3⟩,q4.at fun o e=>k i1 (by simp) o e,q5.at fun o e=>k i2 (by simp) o e⟩
  item:=by
    intro X hP hw hK hc i pins s σ H E I hf st hg
    subst hP hw hK
    obtain ⟨xs,ys,x,y,hq1,hq2,hx,hy⟩:=hg
    obtain ⟨q1,q2,⟨u0,v0,q3⟩,q4,q5⟩:=st
    obtain ⟨its1,rv1,pl1,hz1⟩:=I.list hq1
    obtain ⟨its2,rv2,pl2,hz2⟩:=I.list hq2
    obtain ⟨u,hu,ru⟩:=rv1.get hx
    obtain ⟨v,hv,rv⟩:=rv2.get hy
    refine wpAny_pyNext_zip_item D q1 q2 q3 q4 q5 pl1.isList pl2.isList (x:=u) (y:=v) (by simpa using hu) (by simpa using hv) fun h1 out pto it1 it2 tup sz k1=>?_
    refine ⟨.ref s.heap.objs.size,rfl,wpAny_letOwnedTupleGo_zip out fun h2 he2 sb=>?_⟩
    have ltz:=Heap.lt_size q1
    have ltf:∀ c∈[z,ti,to,i1,i2],c < s.heap.objs.size:=fun c hc=>by
      simp only [List.mem_cons,List.not_mem_nil,or_false] at hc
      rcases hc with e | e | e | e | e <;> subst e
      · exact ltz
      · exact Heap.lt_size q2
      · exact Heap.lt_size q3
      · obtain ⟨o,e,_⟩:=q4; exact Heap.lt_size e
      · obtain ⟨o,e,_⟩:=q5; exact Heap.lt_size e
    have k2:∀ c o,c ∉ [z,ti,to,i1,i2]→s.heap.get? c = some o→h2.get? c = some o:=fun c o hc q=>by
      simp only [List.mem_cons,List.not_mem_nil,or_false,not_or] at hc
      obtain ⟨c1,c2,c3,c4,c5⟩:=hc
      exact (sb.2 c c1).trans (k1 c o c1 c3 c4 c5 q)
    have it1':h2.IsListIter i1 a (i + 1):=it1.at fun o e=>(sb.2 i1 D.i1z).trans e
    have it2':h2.IsListIter i2 b (i + 1):=it2.at fun o e=>(sb.2 i2 D.i2z).trans e
    have hti:IsPair h2 ti (.ref i1) (.ref i2):=(sb.2 ti D.TIz).trans (k1 ti _ D.TIz D.TITO D.TIi1 D.TIi2 q2)
    have hto:IsPair h2 to u v:=(sb.2 to D.TOz).trans pto
    have J1:Inv X pins σ H { s with heap:=h2,toks:=s.toks }:=I.turnedL (fp:=[z,ti,to,i1,i2]) k2 (fun c hc=>by
      simp only [List.mem_cons,List.not_mem_nil,or_false] at hc
      rcases hc with e | e | e | e | e <;> subst e
      · exact ⟨_,he2⟩
      · exact ⟨_,hti⟩
      · exact ⟨_,hto⟩
      · obtain ⟨o,e,_⟩:=it1'; exact ⟨o,e⟩
      · obtain ⟨o,e,_⟩:=it2'; exact ⟨o,e⟩) hf
    have tup2:h2.get? s.heap.objs.size = some { cls:=.type "tuple", data:=.seq #[u,v] }:=(sb.2 _ (Nat.ne_of_gt ltz)).trans tup
    have ltc:∀ y c,X.env.cells.lookup y = some c→c≠s.heap.objs.size:=fun y c q=>by
      obtain ⟨v,o,z,_⟩:=I.cell y c q
      exact Nat.ne_of_lt (Heap.lt_size z)
    have ltp:∀ p∈X.pn ++ pins,p.1≠s.heap.objs.size:=fun p hp=>Nat.ne_of_lt (Heap.lt_size (I.pin p hp).1)
    have J2:=J1.track (a:=s.heap.objs.size) (o:=.tup [x,y]) I.fresh (Ne.symm (Nat.ne_of_lt I.lt)) I.sz ltc ltp ⟨by show 2≤sizeLine; decide,[u,v],.cons ru (.cons rv .nil),⟨_,tup2,rfl,_,rfl⟩⟩
    refine ⟨.ref s.heap.objs.size,_,J2,rfl,⟨_,x,y,fun zs hzs=>by rw [I.list_inj hzs hq1]; exact hx,fun zs hzs=>by rw [I.list_inj hzs hq2]; exact hy,rfl,I.fresh,rfl⟩,⟨he2,hti,⟨u,v,hto⟩,it1',it2'⟩,fun c hc=>?_⟩
    rw [upd_ne (Nat.ne_of_lt (ltf c hc))]
    exact (hf c hc).1
  done:=by
    intro X hP hw hK hc i pins s σ H E I hf st hg
    subst hP hw hK
    obtain ⟨xs,ys,hq1,hq2,hx⟩:=hg
    obtain ⟨q1,q2,⟨u0,v0,q3⟩,q4,q5⟩:=st
    obtain ⟨its1,rv1,pl1,hz1⟩:=I.list hq1
    obtain ⟨its2,rv2,pl2,hz2⟩:=I.list hq2
    have l1:=rv1.length
    have l2:=rv2.length
    refine wpAny_pyNext_zip_end (I.ok.hd hc) D q1 q2 q3 q4 q5 pl1.isList pl2.isList (by
      rcases hx with e | e
      · left; simp; omega
      · right; simp; omega) fun h' k=>⟨rfl,?_⟩
    refine I.turnedM (t':=s.toks) (fp:=[z,to,i1,i2]) (fun c o hc e=>?_) fun c hc=>hf c (by simp only [List.mem_cons,List.not_mem_nil,or_false] at hc ⊢; rcases hc with e | e | e | e <;> simp [e])
    simp only [List.mem_cons,List.not_mem_nil,or_false,not_or] at hc
    exact k c o hc.1 hc.2.1 hc.2.2.1 hc.2.2.2 e
  self:=fun _ _ _ _ _ st h=>wpAny_pyIter_zip st.1 h
section
variable {X:Cx}
def iZip (K:PySem.W.Frag) (ta:TA):TI:=fun σ H R=>ta σ H fun vs H1=>∃ a b xs ys,vs = [.ref a,.ref b]∧SqL K H1 a xs∧SqL K H1 b ys∧R (Itz K a b) H1
theorem pi_zip {l m:Expr} {ta:TA} {p pos:Pos} {els:List Expr} {x1} {pt:Pos} (hg:Gl X "zip") (hm:X.mg "zip" = none) (ha:PA X [l,m] ta) (hs:starEach [l,m] X.env = [(false,eval l X.env),(false,eval m X.env)]:=by rfl) (hs2:starEach [m] X.env = [(false,eval m X.env)]:=by rfl) :
    PI X (.Tuple els x1 pt) (.Call (.Name "zip" p) [l,m] [] pos) (iZip X.K ta):=by
  intro pins s σ H R I h
  refine Call_ (ld_blt I hg hm boot_zip (PyProof.Rows.callWith_type1 (thn (ha pos pins s σ H _ I h) fun us s1 ⟨vs,H1,I1,r1,q1⟩=>?_) (by rw [hs,hs2]) (by rw [hs2]; rfl)))
  obtain ⟨a,b,xs,ys,e,hq1,hq2,q⟩:=q1
  subst e
  obtain ⟨u,v,rfl,ru,rv⟩:=vals2 r1
  cases ru
  cases rv
  obtain ⟨its1,rv1,pl1,hz1⟩:=I1.list hq1
  obtain ⟨its2,rv2,pl2,hz2⟩:=I1.list hq2
  obtain ⟨o1,e1,_⟩:=id pl1.isList
  obtain ⟨o2,e2,_⟩:=id pl2.isList
  refine call_zip_2 pl1.isList pl2.isList fun h' hz hti hto it1 it2 hsz hk=>?_
  have J:Inv X pins σ H1 { s1 with heap:=h',toks:=s1.toks }:=I1.kept hk
  refine wpAny_pyIter_zip hz ?_
  refine ⟨s1.heap.objs.size + 4,[s1.heap.objs.size + 4,s1.heap.objs.size + 2,s1.heap.objs.size + 3,s1.heap.objs.size,s1.heap.objs.size + 1],_,_,H1,rfl,J,turn_zip a b _ _ _ _ _ (zipApart_new (Heap.lt_size e1) (Heap.lt_size e2)),⟨hz,hti,⟨_,_,hto⟩,it1,it2⟩,fun c hc=>?_,q⟩
  have gc:s1.heap.objs.size≤c:=by
    simp only [List.mem_cons,List.not_mem_nil,or_false] at hc
    rcases hc with z | z | z | z | z <;> rw [z] <;> omega
  exact I1.fpOk gc (I1.hok.fresh gc)
end
section
variable {X:Cx}
end
end L2
namespace L2
open PySem
section
variable {K:PySem.W.Frag} {a:Addr} {xs:List V} {σ:St} {js:List Nat} {te:TE} {H:Hp} {Qf:Addr→Hp→List V→Prop}
theorem lc_idxL (R:Nat→V→Prop) (hq:SqL K H a xs) (hz:xs.length≤sizeLine)
    (hs:∀ (i:Nat) x H',xs[i]? = some x→Same H H'→te (lcS σ js (some x)) H' fun v H3=>R i v∧Same H H3)
    (me:∀ σ H Q Q',(∀ v H1,Q v H1→Q' v H1)→te σ H Q→te σ H Q')
    (hd:∀ ys H' p,ys.length = xs.length→(∀ (i:Nat) y,ys[i]? = some y→R i y)→Same H H'→H' p = none→Qf p H' ys) :
    ∃ W:Nat→Nat→List V→Hp→Prop,(∃ m,W 0 m [] H)∧∀ i m ys H,W i m ys H →
      ((Itl K a).stop i H∧∀ p,H p = none→Qf p H ys) ∨
      ((Itl K a).go i H∧ys.length < sizeLine∧∀ x H',(Itl K a).yld i H x H'→tYes (lcS σ js (some x)) H' fun b H2 =>
        if b = true then te (lcS σ js (some x)) H2 fun v H3=>∃ m',m' < m∧W (i + 1) m' (ys ++ [v]) H3 else ∃ m',m' < m∧W (i + 1) m' ys H2):=by
  refine lc_list (fun i ys H'=>Same H H'∧ys.length = i∧∀ (j:Nat) y,ys[j]? = some y→R j y) ⟨Same.refl _,rfl,fun j y e=>by simp at e⟩ hz ?_ ?_ (fun _ _ _ _ h q=>h _ _ q) me ?_
  · rintro i ys H' hi ⟨g,e,r⟩
    exact ⟨g.seq hq,by omega⟩
  · rintro i x ys H' hx ⟨g,e,r⟩
    show te (lcS σ js (some x)) H' fun v H3=>Same H H3∧(ys ++ [v]).length = i + 1∧∀ (j:Nat) y,(ys ++ [v])[j]? = some y→R j y
    refine me _ _ _ _ (fun v H3 h3=>⟨h3.2,by rw [List.length_append,e]; rfl,fun j y ey=>?_⟩) (hs i x H' hx g)
    by_cases hj:j < ys.length
    · rw [List.getElem?_append_left hj] at ey
      exact r j y ey
    · have lt:=(List.getElem?_eq_some_iff.mp ey).1
      rw [List.length_append,List.length_singleton] at lt
      have ej:j = ys.length:=by omega
      subst ej
      simp at ey
      subst ey
      rw [e]
      exact h3.1
  · rintro ys H' p ⟨g,e,r⟩ hp
    exact hd ys H' p e r g hp
end
section
variable {X:Cx} {K:PySem.W.Frag}
end
end L2
namespace Bdd
end Bdd
namespace Sen
open PySem L2 Bdd
end Sen
namespace Sen
open PySem L2 Bdd
end Sen
namespace Bdd
end Bdd
namespace L2
open PySem
theorem pg_pair {X:Cx} {x y:Str} {px py pt:Pos} {x1:Nat} (hc:X.calm = true) (hN:X.N.Nodup) (h0:X.N[0]? = some x) (h1:X.N[1]? = some y) (hx:X.env.scope.names.lookup x = some .local) (hy:X.env.scope.names.lookup y = some .local):PG X (.Tuple [.Name x px,.Name y py] x1 pt) (gTup X.K 2 (gCons (gName 0) (gCons (gName 1) gNil))) :=
  pg_tup hc (pgs_cons (pg_name hN h0 (.inl hx) (.inr hx)) (pgs_cons (pg_name hN h1 (.inl hy) (.inr hy)) pgs_nil))
end L2
namespace L2
open PySem PySem.Spec PyProof.Rows
structure LcOkP (osc sc:Scope) (x y:Str) (fv:List Str):Prop where
  g:LcOkG osc sc [x,y] fv
  hx:sc.names.lookup x = some .local
  hy:sc.names.lookup y = some .local
  nd:([x,y] ++ fv).Nodup
end L2
namespace L2
open PySem PySem.Spec PyProof.Rows
section
variable {X:Cx} {K:PySem.W.Frag}
end
end L2
namespace Sen
open PySem L2 Bdd
def cellF (ns:List Int) (i:Nat):Int:=(ns[i]?).getD 0
def spCellF (K:PySem.W.Frag):Sp:=fun vs H Q _=>∃ (l:Addr) (ns:List Int) (i:Nat),vs = [.ref l,.int i]∧SqL K H l (ns.map V.int)∧Q (.int (cellF ns i)) H
end Sen
namespace Bdd
end Bdd
namespace Bdd
end Bdd
namespace Sen
open PySem L2 Bdd
end Sen
namespace L2
theorem tyes {σ:St} {H:Hp} {Q:Bool→Hp→Prop} (h:Q true H):tYes σ H Q:=h
end L2
namespace L2
open PySem PySem.Spec PyProof.Rows
section
variable {prog:Program} {w:World} {A:Around} {E:Value→Shared→Prop}
end
section
variable {X:Cx}
end
end L2
namespace Bdd
end Bdd
namespace Sen
open PySem L2 Bdd
theorem Sn.count_depth:∀ s:Sn,s.count + 1≤2 ^ s.depth:=by
  have key:∀ (d:Nat) (s:Sn),s.depth≤d→s.count + 1≤2 ^ d:=by
    intro d
    induction d with
    | zero=>intro s h; have:=Sn.depth_pos s; omega
    | succ d ih =>
      intro s h
      have hp:=Sn.count_parts s
      have hl:=Sn.parts_le s
      have hd:=Sn.depth_parts s
      have hc:∀ t∈s.parts,t.count + 1≤2 ^ d:=fun t ht=>ih t (by have:=hd t ht; omega)
      have p1:1≤2 ^ d:=Nat.one_le_two_pow
      rw [Nat.pow_succ,hp]
      match hs:s.parts,hl with
      | [],_=>simp; omega
      | [a],_ =>
        have:=hc a (by rw [hs]; simp)
        simp; omega
      | [a,b],_ =>
        have h1:=hc a (by rw [hs]; simp)
        have h2:=hc b (by rw [hs]; simp)
        simp; omega
      | a :: b :: c :: r,h=>simp at h
  exact fun s=>key _ s (Nat.le_refl _)
end Sen
namespace Bdd
open Sen
end Bdd
namespace Sen
open PySem L2 Bdd
end Sen
namespace Sen
open PySem L2 Bdd
end Sen
namespace L2
open PySem
end L2
namespace Sen
open PySem L2 Bdd
end Sen
namespace Sen
open PySem L2 Bdd
end Sen
namespace Sen
open PySem L2 Bdd
end Sen
namespace L2
open PySem PySem.Spec PyProof.Rows
section
variable {X:Cx} {sc osc:Scope} {x:Str} {js:List Nat}
end
section
variable {X:Cx} {sc osc:Scope} {x:Str} {js:List Nat} {elt iter:Expr} {px pos:Pos} {ifs:List Expr} {wi:TI} {tt:TT} {te:TE}
end
end L2
namespace PySem.SeqAt
open AutoSeq1 (wpAny_loadPart')
open MeetsSeq MeetsSeq2 MeetsSeq3 SeqRoads2
section
variable {A:Around} {s:Shared}
end
end PySem.SeqAt
namespace L2
open PySem PySem.Spec PyProof.Rows
section
variable {X:Cx} {pins:List (Addr × Obj)} {σ:St} {H:Hp} {s:Shared}
end
namespace L2
open PySem PySem.Spec PyProof.Rows
end L2
section
variable {prog:Program} {w:World} {A:Around} {R:Result→Shared→Prop} {I:Addr} {fp wr:List Addr} {n:Nat} {V:Nat→Value→Prop} {St:Nat→Heap→Prop} {G:Shared→Prop} {kw:List (Str × Value)}
end
section
variable {X:Cx} {pins:List (Addr × Obj)} {σ:St} {H:Hp} {s:Shared}
end
end L2
namespace L2
open PySem PySem.Spec PyProof.Rows
section
variable {X:Cx} {pins:List (Addr × Obj)} {σ:St} {H:Hp} {s:Shared}
end
section
variable {X:Cx} {x:Str} {p pos kpos:Pos} {e d:Expr} {t:TA} {td:TE}
end
end L2
namespace Bdd
open PySem
end Bdd
namespace Sen
open PySem L2 Bdd
end Sen
namespace L2
open PySem
end L2
namespace Sen
open PySem L2 Bdd
end Sen
namespace L2
open PySem PySem.Spec PyProof.Rows
theorem iteNe {x:V} {p q:Prop} (h:q):if (!decide (x = x)) = true then p else q:=by
  rw [decide_eq_true rfl]
  exact h
theorem iteNe2 {x y:V} {p q:Prop} (e:x = y) (h:q):if (!decide (x = y)) = true then p else q:=by
  subst e
  exact iteNe h
section
variable {X:Cx}
end
end L2
namespace Bdd
open Sen
def anyB (n:Nat) (f:Nat→Bool):Bool:=(List.range (2 ^ n)).any f
theorem anyB_iff {n:Nat} {f:Nat→Bool}:anyB n f = true↔∃ b,b < 2 ^ n∧f b = true:=by
  unfold anyB
  rw [List.any_eq_true]
  exact ⟨fun ⟨b,h,e⟩=>⟨b,List.mem_range.mp h,e⟩,fun ⟨b,h,e⟩=>⟨b,List.mem_range.mpr h,e⟩⟩
theorem tab_zero {n N:Nat} {f:Nat→Bool} (h:IsTab n N f):decide (N = 0) = !anyB n f:=by
  by_cases e:N = 0
  · subst e
    rw [decide_eq_true rfl]
    cases hb:anyB n f with
    | false=>rfl
    | true =>
      obtain ⟨b,hb,e⟩:=anyB_iff.mp hb
      have:=tab_val h hb
      rw [e,Nat.zero_testBit] at this
      cases this
  · rw [decide_eq_false e]
    cases hb:anyB n f with
    | true=>rfl
    | false =>
      exfalso
      refine e (Nat.eq_of_testBit_eq fun i=>?_)
      rw [h i,Nat.zero_testBit]
      by_cases hi:i < 2 ^ n
      · cases hf:f i with
        | false=>rw [Bool.and_false]
        | true=>rw [anyB_iff.mpr ⟨i,hi,hf⟩] at hb; cases hb
      · rw [decide_eq_false hi]; rfl
def fvP (n:Nat):(Nat→Bool)→List Nat→List Bool
  | _,[]=>[]
  | f,p :: ps=>(!anyB n fun b=>f (putBit b p false)) :: fvP n (fun b=>f (putBit b p (!anyB n fun b=>f (putBit b p false)))) ps
end Bdd
namespace Sen
open PySem L2 Bdd
def spFirstValues (K:PySem.W.Frag):Sp:=fun vs H Q _=>∃ (N n:Nat) (f:Nat→Bool) (pl:Addr) (ps:List Nat),vs = [.int N,.ref pl,.int n]∧n≤8∧IsTab n N f∧SqL K H pl (ps.map fun p=>V.int (p:Nat))∧(∀ p∈ps,p < n)∧ps.length≤1000 ∧
  ∀ (l:Addr) (H':Hp),Same H H'→H l = none→H' l = some (.lst (rowV (fvP n f ps)))→Q (.ref l) H'
section
variable (C:Addr) (K:PySem.W.Frag)
end
end Sen
namespace L2
open PySem PySem.Spec PyProof.Rows
section
variable {X:Cx}
end
end L2
namespace Sen
open PySem L2 Bdd PyProof.Rows
section
variable (C:Addr) (K:PySem.W.Frag)
end
section
variable {C:Addr} {K:PySem.W.Frag} {sc:Addr} {ns:List Int} {H1:Hp} {ol bk p1 p2:Addr} {os:List Str} {s1 s2:Sn} {k1 k2 N:Nat} {H:Hp} {rs:List Rm} {F:Foot}
end
end Sen
namespace L2
open PySem PySem.Spec PyProof.Rows PySem.Builtin PySem.Builtin.Str
section
variable {X:Cx}
end
end L2
namespace L2
open PySem PySem.Spec PyProof.Rows
section
variable {X:Cx}
end
end L2
namespace Bdd
open PySem Sen
end Bdd
namespace Sen
open PySem L2 Bdd
end Sen
namespace Bdd
open PySem Sen L2
end Bdd
namespace Bdd
open PySem Sen
def upR (n:Nat) (x:Rm):Bool:=match x with | some (i,_,_)=>decide (i + 2 < n) | none=>false
def hiN (n:Nat) (rs:List Rm):Nat:=(rs.filter (upR n)).length
theorem hi_snoc {n:Nat} {rs:List Rm} {p lo hi:Nat}:hiN n (rs ++ [some (p,lo,hi)]) = hiN n rs + if p + 2 < n then 1 else 0:=by
  unfold hiN
  rw [List.filter_append,List.length_append]
  congr 1
  by_cases h:p + 2 < n
  · rw [if_pos h,List.filter_cons_of_pos (show upR n (some (p,lo,hi)) = true from decide_eq_true h)]
    rfl
  · rw [if_neg h,List.filter_cons_of_neg (show ¬ upR n (some (p,lo,hi)) = true from fun z=>h (of_decide_eq_true z))]
    rfl
def sig4 (n:Nat) (rs:List Rm) (k:Nat):Bool × Bool × Bool × Bool :=
  (yes rs k (fun i=>if i + 1 = n then false else false),yes rs k (fun i=>if i + 1 = n then true else false),yes rs k (fun i=>if i + 1 = n then false else true),yes rs k (fun i=>if i + 1 = n then true else true))
theorem sig_inj {n:Nat} {rs:List Rm} (B:Bk n rs) {j k:Nat} (hj:j < rs.length) (hk:k < rs.length) (lj:n≤lev n rs j + 2) (lk:n≤lev n rs k + 2) (e:sig4 n rs j = sig4 n rs k):j = k:=by
  unfold sig4 at e
  rw [Prod.mk.injEq,Prod.mk.injEq,Prod.mk.injEq] at e
  obtain ⟨e0,e1,e2,e3⟩:=e
  have key:∀ {m:Nat},m < rs.length→n≤lev n rs m + 2→∀ r:Row,yes rs m r = yes rs m (fun i=>if i + 1 = n then r (n - 1) else r (n - 2)):=fun {m} hm lm r=>by
    refine yes_congr B m m (Nat.le_refl _) hm fun i h1 h2=>?_
    by_cases h:i + 1 = n
    · rw [if_pos h,show i = n - 1 by omega]
    · rw [if_neg h,show i = n - 2 by omega]
  refine one_room B (max j k) j k ⟨Nat.le_max_left _ _,Nat.le_max_right _ _⟩ hj hk fun r=>?_
  rw [key hj lj r,key hk lk r]
  cases r (n - 1) <;> cases r (n - 2)
  · exact e0
  · exact e2
  · exact e1
  · exact e3
def all4:List (Bool × Bool × Bool × Bool):=[false,true].flatMap fun a=>[false,true].flatMap fun b=>[false,true].flatMap fun c=>[false,true].map fun d=>(a,b,c,d)
theorem all4_mem:∀ x:Bool × Bool × Bool × Bool,x∈all4:=by
  rintro ⟨a,b,c,d⟩
  cases a <;> cases b <;> cases c <;> cases d <;> decide
theorem filt_idx {α:Type} (f:α→Bool) (d:α):∀ l:List α,(l.filter f).length = ((List.range l.length).filter fun i=>f (l.getD i d)).length
  | []=>rfl
  | a :: l=>by
    have ih:=filt_idx f d l
    rw [List.length_cons,List.range_succ_eq_map,List.filter_cons,List.filter_cons,List.filter_map,]
    have e:((List.range l.length).filter ((fun i=>f ((a :: l).getD i d)) ∘ Nat.succ)) = ((List.range l.length).filter fun i=>f (l.getD i d)):=rfl
    rw [e]
    show (if f a = true then a :: l.filter f else l.filter f).length = (if f a = true then 0 :: _ else _).length
    cases f a
    · rw [if_neg Bool.false_ne_true,if_neg Bool.false_ne_true,List.length_map]
      exact ih
    · rw [if_pos rfl,if_pos rfl,List.length_cons,List.length_cons,List.length_map,ih]
theorem filt_both {α:Type} (f:α→Bool):∀ l:List α,l.length = (l.filter f).length + (l.filter fun a=>!f a).length
  | []=>rfl
  | a :: l=>by
    have ih:=filt_both f l
    cases h:f a
    · rw [List.filter_cons_of_neg (by rw [h]; exact Bool.false_ne_true),List.filter_cons_of_pos (p:=fun a=>!f a) (by rw [h]; rfl),List.length_cons,List.length_cons]
      omega
    · rw [List.filter_cons_of_pos h,List.filter_cons_of_neg (p:=fun a=>!f a) (by rw [h]; exact Bool.false_ne_true),List.length_cons,List.length_cons]
      omega
theorem hi_len {n:Nat} {rs:List Rm} (B:Bk n rs):rs.length≤hiN n rs + 16:=by
  have e1:=filt_both (fun i=>upR n (rs.getD i none)) (List.range rs.length)
  rw [List.length_range,← filt_idx] at e1
  have e2:((List.range rs.length).filter fun i=>!upR n (rs.getD i none)).length≤16:=by
    have nd:(((List.range rs.length).filter fun i=>!upR n (rs.getD i none)).map (sig4 n rs)).Nodup:=by
      have h:=(List.nodup_range (n:=rs.length)).filter (fun i=>!upR n (rs.getD i none))
      show List.Pairwise _ _
      rw [List.pairwise_map]
      refine List.Pairwise.imp_of_mem (fun {j k} hj hk ne e=>ne ?_) h
      obtain ⟨j1,j2⟩:=List.mem_filter.mp hj
      obtain ⟨k1,k2⟩:=List.mem_filter.mp hk
      have lv:∀ m,m < rs.length→(!upR n (rs.getD m none)) = true→n≤lev n rs m + 2:=fun m hm hu=>by
        unfold lev
        rw [List.getD_eq_getElem?_getD] at hu
        cases hx:rs[m]? with
        | none=>show n≤n + 2; omega
        | some x =>
          rw [hx] at hu
          cases x with
          | none=>show n≤n + 2; omega
          | some t =>
            obtain ⟨i,lo,hi⟩:=t
            have:¬ i + 2 < n:=fun z=>by
              have:upR n (some (i,lo,hi)) = true:=decide_eq_true z
              simp [this] at hu
            show n≤i + 2
            omega
      exact sig_inj B (List.mem_range.mp j1) (List.mem_range.mp k1) (lv j (List.mem_range.mp j1) j2) (lv k (List.mem_range.mp k1) k2) e
    have:=nodup_le nd (ys:=all4) fun x _=>all4_mem x
    rw [List.length_map] at this
    exact this
  unfold hiN
  omega
def bH (n u:Nat):Nat:=2 ^ (n - 2 - u) - 1
theorem bH_step {n u p:Nat} (h:u≤p):bH n (p + 1) + bH n (p + 1) + (if p + 2 < n then 1 else 0)≤bH n u:=by
  unfold bH
  by_cases hp:p + 2 < n
  · rw [if_pos hp]
    have e:n - 2 - p = (n - 2 - (p + 1)) + 1:=by omega
    have m:2 ^ (n - 2 - p)≤2 ^ (n - 2 - u):=Nat.pow_le_pow_right (by decide) (by omega)
    have p1:1≤2 ^ (n - 2 - (p + 1)):=Nat.one_le_two_pow
    rw [e,Nat.pow_succ] at m
    omega
  · rw [if_neg hp,show n - 2 - (p + 1) = 0 by omega]
    show 1 - 1 + (1 - 1) + 0≤_
    omega
theorem bH_8 {n:Nat} (h:n≤8):bH n 0≤63:=by
  have:2 ^ (n - 2 - 0)≤2 ^ 6:=Nat.pow_le_pow_right (by decide) (by omega)
  have e:2 ^ 6 = 64:=rfl
  unfold bH
  omega
end Bdd
namespace Sen
open PySem L2 Bdd
section
variable (C:Addr) (K:PySem.W.Frag)
def spRoomWithH (d:Nat):Sp:=fun vs H Q _=>∃ (b:Addr) (os:List Str) (rs:List Rm) (F:Foot) (t u:Nat) (f:Nat→Bool),vs = [.ref b,.int t]∧BookAt C H b os rs F∧rs.length + 2 ^ d≤9000000∧u≤os.length∧os.length + 1≤u + d∧IsTab os.length t f∧(∀ i,i < u→Free os.length f i) ∧
  ∀ (k:Nat) (rs':List Rm) (H':Hp),Away F H H'→Tups H H'→BookAt C H' b os rs' F→Grown rs rs'→k < rs'.length→(∀ r,yes rs' k r = f (bits r os.length))→rs'.length + 1≤rs.length + 2 ^ d→(∀ j,rs.length≤j→j < rs'.length→u≤lev os.length rs' j)→hiN os.length rs'≤hiN os.length rs + bH os.length u→Q (.int (k:Nat)) H'
def GrowH (b:Addr) (os:List Str) (H:Hp) (rs:List Rm) (F:Foot) (f:Row→Bool) (Q:VK):Prop:=∀ (k:Nat) (rs':List Rm) (H':Hp),Away F H H'→Tups H H'→BookAt C H' b os rs' F→Grown rs rs'→Means rs' k f→hiN os.length rs'≤hiN os.length rs + 63→Q (.int (k:Nat)) H'
def spEnterH:Sp:=fun vs H Q _=>∃ (b p:Addr) (os:List Str) (rs:List Rm) (F:Foot) (s:Sn),vs = [.ref b,.ref p]∧BookAt C H b os rs F∧rs.length≤8000000∧IsS H s p∧s.inO os∧s.count≤200∧s.depth≤24∧GrowH C b os H rs F (fun r=>s.val (envR os r)) Q
def spJoinedH:Sp:=fun vs H Q _=>∃ (b:Addr) (os:List Str) (rs:List Rm) (F:Foot) (c0 c1 c2 c3:Bool) (i j:Nat) (f g:Row→Bool),vs = [.ref b,.str (wd c0 c1 c2 c3),.int (i:Nat),.int (j:Nat)]∧BookAt C H b os rs F∧rs.length≤8000000∧Means rs i f∧Means rs j g∧GrowH C b os H rs F (fun r=>jn c0 c1 c2 c3 (f r) (g r)) Q
end
theorem roomWith_growH {C b:Addr} {os:List Str} {H H1:Hp} {rs:List Rm} {F:Foot} {fm:Row→Bool} {Q:VK} {t:Nat} {f:Nat→Bool} (g1:Same H H1) (hB:BookAt C H1 b os rs F) (hl:rs.length≤8000000) (tb:IsTab os.length t f) (ef:∀ r,f (bits r os.length) = fm r)
    (q:GrowH C b os H rs F fm Q):spRoomWithH C 9 [.ref b,.int t] H1 Q (fun _ _ _=>False):=by
  have ho:=(bookLike C).ord hB
  refine ⟨b,os,rs,F,t,0,f,rfl,hB,by show rs.length + 512≤9000000; omega,Nat.zero_le _,by have:=ho.le; omega,tb,fun i hi=>absurd hi (Nat.not_lt_zero _),fun j rs' H' aw tu hB' gr lt y ln _ hh=>?_⟩
  exact q j rs' H' (fun x o e nf=>aw x o (g1 _ _ e) nf) (fun x xs e=>tu _ _ (g1 _ _ e)) hB' gr ⟨lt,fun r=>(y r).trans (ef r)⟩ (Nat.le_trans hh (Nat.add_le_add_left (bH_8 ho.le) _))
structure LedH (C:Addr) (H0:Hp) (b:Addr) (os:List Str) (m:Nat) (H:Hp) (rs:List Rm) (F:Foot):Prop where
  same:Same H0 H
  away:∀ x,F x→H0 x = none
  bk:BookAt C H b os rs F
  hi:hiN os.length rs≤m
section
variable {C:Addr} {H0:Hp} {b:Addr} {os:List Str} {m:Nat} {H:Hp} {rs:List Rm} {F:Foot}
theorem LedH.len (h:LedH C H0 b os m H rs F):rs.length≤m + 16:=Nat.le_trans (hi_len ((bookLike C).bk h.bk)) (Nat.add_le_add_right h.hi _)
theorem LedH.new (h:LedH C H0 b os m H rs F) {H':Hp} (g:Same H H'):LedH C H0 b os m H' rs F:=⟨h.same.trans g,h.away,(bookLike C).same h.bk g,h.hi⟩
theorem LedH.grow (h:LedH C H0 b os m H rs F) {H':Hp} {rs':List Rm} (aw:Away F H H') (hB:BookAt C H' b os rs' F) (hh:hiN os.length rs'≤hiN os.length rs + 63):LedH C H0 b os (m + 63) H' rs' F :=
  ⟨fun x o e=>aw x o (h.same _ _ e) fun z=>(by have:=h.away x z; rw [this] at e; cases e),h.away,hB,Nat.le_trans hh (Nat.add_le_add_right h.hi _)⟩
end
theorem LedH.up {C:Addr} {H0:Hp} {b:Addr} {os:List Str} {m m':Nat} {H:Hp} {rs:List Rm} {F:Foot} (h:LedH C H0 b os m H rs F) (hm:m≤m'):LedH C H0 b os m' H rs F:=⟨h.same,h.away,h.bk,Nat.le_trans h.hi hm⟩
section
variable {C:Addr} {K:PySem.W.Frag} {sc:Addr} {ns:List Int} {H1:Hp} {ol bk:Addr} {os:List Str} {sl rl p0 p1 p2:Addr} {s0 s1 s2:Sn} {k1 k2 m:Nat} {H:Hp} {rs:List Rm} {F:Foot}
end
end Sen
namespace L2
open PySem PySem.Spec PyProof.Rows PySem.W
section
variable {prog:Program} {w:World} {A:Around} {E:Value→Shared→Prop} {κ:SortKind} {it:Array Keyed}
end
section
variable {prog:Program} {w:World} {A:Around} {E:Value→Shared→Prop} {s:Shared}
end
section
variable {A:Around} {s:Shared}
end
section
variable {X:Cx}
end
end L2
namespace L2
open PySem
section
variable {X:Cx}
end
end L2
namespace Bdd
open PySem
end Bdd
namespace Sen
open PySem L2 Bdd
end Sen
namespace Bdd
open PySem
end Bdd
namespace Bdd
open PySem
section
variable {n:Nat} {rs:List Rm} (B:Bk n rs)
include B
end
end Bdd
namespace Sen
open PySem L2 Bdd
section
variable {us vs:List Str} {x y:Str}
end
section
variable (C:Addr) (K:PySem.W.Frag)
end
end Sen
namespace L2
open PySem PySem.Spec PyProof.Rows
theorem for_zip {K:PySem.W.Frag} {a b:Addr} {xs ys:List V} {g:TG} {tb:TS} {D:Ends} {σ:St} {H:Hp} (hlen:xs.length = ys.length) (Pv:Nat→St→Hp→Prop) (h0:Pv 0 σ H) (hl:∀ i σ H,i≤xs.length→Pv i σ H→SqL K H a xs∧SqL K H b ys)
    (hs:∀ i x y σ H p,xs[i]? = some x→ys[i]? = some y→Pv i σ H→H p = none→g (.ref p) σ (upd H p (.tup [x,y])) fun σ2 H2=>tb { D with nx:=Pv (i + 1),ct:=Pv (i + 1),bk:=D.nx } σ2 H2) (hd:∀ σ H,Pv xs.length σ H→D.nx σ H) :
    ∃ W:Nat→Nat→St→Hp→Prop,(∃ m,W 0 m σ H)∧∀ i m σ H,W i m σ H →
      ((Itz K a b).stop i H∧D.nx σ H)∨((Itz K a b).go i H∧∃ N:St→Hp→Prop,(∀ σ' H',N σ' H'→∃ m',m' < m∧W (i + 1) m' σ' H')∧∀ x H',(Itz K a b).yld i H x H'→g x σ H' fun σ2 H2=>tb { D with nx:=N,ct:=N,bk:=D.nx } σ2 H2):=by
  refine ⟨fun i m σ H=>m = xs.length - i∧i≤xs.length∧Pv i σ H,⟨xs.length,by simp,Nat.zero_le _,h0⟩,?_⟩
  rintro i m σ H ⟨rfl,hi,p⟩
  obtain ⟨q,q'⟩:=hl i σ H hi p
  by_cases hlt:i < xs.length
  · refine .inr ⟨⟨xs,ys,_,_,q,q',List.getElem?_eq_getElem hlt,List.getElem?_eq_getElem (l:=ys) (i:=i) (by omega)⟩,Pv (i + 1),fun σ' H' p'=>⟨xs.length - (i + 1),by omega,rfl,hlt,p'⟩,fun x H' y=>?_⟩
    obtain ⟨pp,u,v,hu,hv,rfl,hn,rfl⟩:=y
    exact hs i u v σ H pp (hu xs q) (hv ys q') p hn
  · have e:i = xs.length:=by omega
    subst e
    exact .inl ⟨⟨xs,ys,q,q',.inl (Nat.le_refl _)⟩,hd σ H p⟩
section
variable {X:Cx} {K:PySem.W.Frag} {o e:Expr} {es:List Expr} {to:TE} {t:TA} {name:Str} {apos cpos:Pos} {T id:String} {r:V→List V→Hp→VK→Prop}
theorem pe_bmK (hK:X.K = K) (pa:PlainAttrs T) (slot:Slot T name id) (hty:typeOf (.builtin id) = pure (.type "method_descriptor")) (hm:MtR X id r) (ho:PE X o to) (ha:PA X (e :: es) t)
    (hbase:attributeBase o name X.env (eval o X.env) = eval o X.env:=by rfl)
    (hfew:((backTo cpos (starEach (e :: es) X.env)).all (fun x=>!x.1) && (backToKw cpos (keywordEach [] X.env)).all (fun x=>x.1.isSome)
      && decide ((e :: es).length + ([]:List Keyword).length + (if ([]:List Keyword).isEmpty then 0 else 1) < 30)) = true:=by rfl)
    (hline:(apos.endLine == cpos.line) = true:=by rfl) (hs:starEach (e :: es) X.env = (false,eval e X.env) :: starEach es X.env:=by rfl) (hplain:(backTo cpos (starEach es X.env)).any (·.1) = false:=by rfl) :
    PE X (.Call (.Attribute o name apos) (e :: es) [] cpos) (tBM K T r to t):=by
  subst hK
  exact pe_bm pa slot hty hm ho ha hbase hfew hline hs hplain
theorem mt_indexK (hK:X.K = K):MtR X "list.index" (rIndex K):=by subst hK; exact mt_index
end
theorem pe_lcP1 {X:Cx} {sc osc:Scope} {x y:Str} {js:List Nat} {elt iter c:Expr} {px py pt pos:Pos} {x1:Nat} {wi:TI} {te:TE} {tt:TT} (hosc:X.env.scope = osc) (L:LcOkP osc sc x y (js.map fun j=>X.N.getD j "")) (hc:X.calm = true) (hi:PI X (.Tuple [.Name x px,.Name y py] x1 pt) iter wi) (hjs:∀ j∈js,j < X.N.length)
    (ht:∀ (cl:List (Str × Addr)) (C:Addr) (s₂:Shared) (H₂:Hp) (fp:List Addr),PT (X.blk sc cl C (lcG X [x,y] js) s₂ H₂ fp) c tt)
    (he:∀ (cl:List (Str × Addr)) (C:Addr) (s₂:Shared) (H₂:Hp) (fp:List Addr),PE (X.blk sc cl C (lcG X [x,y] js) s₂ H₂ fp) elt te)
    (hs:∀ x,foldedSetIterable iter X.env x = pure x:=by intro _; rfl) :
    PE X (.ListComp elt [⟨.Tuple [.Name x px,.Name y py] x1 pt,iter,[c],0⟩] sc pos) (tLCG wi [x,y] js (gTup X.K 2 (gCons (gName 0) (gCons (gName 1) gNil))) tt te) :=
  pe_lcG hosc L.g hc hi (fun cl C s₂ H₂ fp=>pg_pair (X:=X.blk sc cl C (lcG X [x,y] js) s₂ H₂ fp) hc L.nd rfl rfl (lookup_relabel_local L.hx) (lookup_relabel_local L.hy)) hjs (fun cl C s₂ H₂ fp pins s' σ' H' Q I h=>wpAny_tests_one (ht cl C s₂ H₂ fp pins s' σ' H' Q I h)) he hs
theorem lc_pairs {K:PySem.W.Frag} {a:Addr} {xs:List V} {σ:St} {js:List Nat} {tt:TT} {te:TE} {H:Hp} {Qf:Addr→Hp→List V→Prop} {x y:Str} (Pv:Nat→List V→Hp→Prop) (h0:Pv 0 [] H) (hz:xs.length≤sizeLine)
    (hl:∀ i ys H,i≤xs.length→Pv i ys H→SqT K H a xs∧ys.length≤i)
    (hs:∀ i v ys H,xs[i]? = some v→Pv i ys H→∃ (p:Addr) (u w:V),v = .ref p∧SqT K H p [u,w]∧tt (lcT σ js [some u,some w]) H fun b H2=>if b = true then te (lcT σ js [some u,some w]) H2 fun z H3=>Pv (i + 1) (ys ++ [z]) H3 else Pv (i + 1) ys H2)
    (mt:∀ σ H Q Q',(∀ b H1,Q b H1→Q' b H1)→tt σ H Q→tt σ H Q') (me:∀ σ H Q Q',(∀ v H1,Q v H1→Q' v H1)→te σ H Q→te σ H Q')
    (hd:∀ ys H p,Pv xs.length ys H→H p = none→Qf p H ys) :
    ∃ W:Nat→Nat→List V→Hp→Prop,(∃ m,W 0 m [] H)∧∀ i m zs H,W i m zs H →
      ((Itt K a).stop i H∧∀ p,H p = none→Qf p H zs) ∨
      ((Itt K a).go i H∧zs.length < sizeLine∧∀ v H',(Itt K a).yld i H v H'→∀ o0:List (Option V),o0.length = [x,y].length→gTup K 2 (gCons (gName 0) (gCons (gName 1) gNil)) v (lcT σ js o0) H' fun σ2 H1=>∃ o1,σ2 = lcT σ js o1∧o1.length = [x,y].length∧tt σ2 H1 fun b H2 =>
        if b = true then te σ2 H2 fun v H3=>∃ m',m' < m∧W (i + 1) m' (zs ++ [v]) H3 else ∃ m',m' < m∧W (i + 1) m' zs H2):=by
  refine ⟨fun i m ys H=>m = xs.length - i∧i≤xs.length∧Pv i ys H,⟨xs.length,by simp,Nat.zero_le _,h0⟩,?_⟩
  rintro i m ys H ⟨rfl,hi,p⟩
  obtain ⟨q,hy⟩:=hl i ys H hi p
  by_cases hlt:i < xs.length
  · refine .inr ⟨⟨xs,xs[i],q,by simp [hlt]⟩,by omega,fun v H' y o0 l0=>?_⟩
    obtain ⟨e,y⟩:=y
    subst e
    obtain ⟨pp,u,w,rfl,hp,ht⟩:=hs i v ys _ (y xs q) p
    have eσ:((lcT σ js o0).set 0 (some u)).set 1 (some w) = lcT σ js [some u,some w]:=by
      match o0,l0 with
      | [a0,a1],_=>rfl
    refine ⟨pp,[u,w],rfl,hp,rfl,u,[w],rfl,w,[],rfl,rfl,[some u,some w],eσ,rfl,?_⟩
    rw [eσ]
    refine mt _ _ _ _ (fun b H2 h2=>?_) ht
    cases b with
    | true =>
      rw [if_pos rfl] at h2 ⊢
      exact me _ _ _ _ (fun v H3 h3=>⟨_,by omega,rfl,hlt,h3⟩) h2
    | false =>
      rw [if_neg Bool.false_ne_true] at h2 ⊢
      exact ⟨_,by omega,rfl,hlt,h2⟩
  · have e:i = xs.length:=by omega
    subst e
    exact .inl ⟨⟨xs,q,Nat.le_refl _⟩,fun r hr=>hd _ _ r p hr⟩
end L2
namespace Sen
open PySem L2 Bdd
def anyW:List Nat→(Nat→Bool)→Nat→Bool
  | [],f=>f
  | p :: ps,f=>anyW ps fun c=>f c || f (putBit c p (!c.testBit p))
theorem anyW_snoc (p:Nat):∀ (ps:List Nat) (f:Nat→Bool),anyW (ps ++ [p]) f = fun c=>anyW ps f c || anyW ps f (putBit c p (!c.testBit p))
  | [],_=>rfl
  | q :: ps,f=>by show anyW (ps ++ [p]) _ = _; rw [anyW_snoc p ps]; rfl
def movW:List (Nat × Nat)→(Nat→Bool)→Nat→Bool
  | [],f=>f
  | pq :: r,f=>movW r fun c=>if c.testBit pq.2 then f (putBit c pq.1 true) else f (putBit c pq.1 false)
theorem movW_snoc (pq:Nat × Nat):∀ (r:List (Nat × Nat)) (f:Nat→Bool),movW (r ++ [pq]) f = fun c=>if c.testBit pq.2 then movW r f (putBit c pq.1 true) else movW r f (putBit c pq.1 false)
  | [],_=>rfl
  | q :: r,f=>by show movW (r ++ [pq]) _ = _; rw [movW_snoc pq r]; rfl
def natW (ps:List Nat):List V:=ps.map fun p=>V.int (p:Nat)
def spForAny (K:PySem.W.Frag):Sp:=fun vs H Q _=>∃ (N n:Nat) (f:Nat→Bool) (l:Addr) (ps:List Nat),vs = [.int N,.ref l,.int n]∧n≤8∧IsTab n N f∧SqL K H l (natW ps)∧(∀ p∈ps,p < n)∧∀ R:Nat,IsTab n R (anyW ps f)→Q (.int R) H
def spMoved (K:PySem.W.Frag):Sp:=fun vs H Q _=>∃ (N n:Nat) (f:Nat→Bool) (l m:Addr) (ps qs:List Nat),vs = [.int N,.ref l,.ref m,.int n]∧n≤8∧IsTab n N f∧SqL K H l (natW ps)∧SqL K H m (natW qs)∧ps.length = qs.length∧ps.length≤8∧(∀ p∈ps,p < n)∧(∀ p∈qs,p < n)∧∀ (R:Nat) (H':Hp),Same H H'→IsTab n R (movW (ps.zip qs) f)→Q (.int R) H'
def prs:List (Str × Str):=[("a", "e"),("b", "f"),("c", "g"),("d", "h")]
def nowM (os:List Str):List Str:=(prs.filter fun p=>os.contains p.1).map (·.1)
def thenM (os:List Str):List Str:=(prs.filter fun p=>os.contains p.2).map (·.2)
def spNowMarks (C:Addr):Sp:=fun vs H Q _=>∃ (b:Addr) (os:List Str) (rs:List Rm) (F:Foot),vs = [.ref b]∧BookAt C H b os rs F∧∀ (l:Addr) (H':Hp),Same H H'→H l = none→H' l = some (.lst ((nowM os).map V.str))→Q (.ref l) H'
def spThenMarks (C:Addr):Sp:=fun vs H Q _=>∃ (b:Addr) (os:List Str) (rs:List Rm) (F:Foot),vs = [.ref b]∧BookAt C H b os rs F∧∀ (l:Addr) (H':Hp),Same H H'→H l = none→H' l = some (.lst ((thenM os).map V.str))→Q (.ref l) H'
def spNowPlaces (C:Addr):Sp:=fun vs H Q _=>∃ (b:Addr) (os:List Str) (rs:List Rm) (F:Foot),vs = [.ref b]∧BookAt C H b os rs F∧∀ (l:Addr) (H':Hp),Same H H'→H l = none→H' l = some (.lst (natW ((nowM os).map (ix os))))→Q (.ref l) H'
def spThenPlaces (C:Addr):Sp:=fun vs H Q _=>∃ (b:Addr) (os:List Str) (rs:List Rm) (F:Foot),vs = [.ref b]∧BookAt C H b os rs F∧∀ (l:Addr) (H':Hp),Same H H'→H l = none→H' l = some (.lst (natW ((thenM os).map (ix os))))→Q (.ref l) H'
theorem inV_has {os:List Str} {x:Str}:inV (.str x) (os.map V.str) = os.contains x:=by
  unfold inV
  rw [List.any_map]
  induction os with
  | nil=>rfl
  | cons a l ih =>
    rw [List.any_cons,List.contains_cons,ih]
    show ((a == x) || l.contains x) = ((x == a) || l.contains x)
    rw [Bool.beq_comm]
theorem nowM_mem {os:List Str} {x:Str} (h:x∈nowM os):x∈os:=by
  obtain ⟨p,hp,e⟩:=List.mem_map.mp h
  rw [← e]
  exact List.contains_iff_mem.mp (List.mem_filter.mp hp).2
theorem thenM_mem {os:List Str} {x:Str} (h:x∈thenM os):x∈os:=by
  obtain ⟨p,hp,e⟩:=List.mem_map.mp h
  rw [← e]
  exact List.contains_iff_mem.mp (List.mem_filter.mp hp).2
def IsWorld (os:List Str):Prop:=∀ p∈prs,os.contains p.1 = os.contains p.2
theorem IsWorld.len {os:List Str} (h:IsWorld os):(nowM os).length = (thenM os).length:=by
  unfold nowM thenM
  rw [List.length_map,List.length_map,List.filter_congr fun p hp=>h p hp]
theorem nowM_len (os:List Str):(nowM os).length≤4:=by
  show ((prs.filter _).map _).length≤4
  rw [List.length_map]
  exact List.length_filter_le _ _
def nowP (os:List Str):List Nat:=(nowM os).map (ix os)
def thenP (os:List Str):List Nat:=(thenM os).map (ix os)
theorem nowP_lt {os:List Str}:∀ p∈nowP os,p < os.length:=fun p hp=>by
  obtain ⟨x,hx,e⟩:=List.mem_map.mp hp
  rw [← e]
  exact (ix_spec (nowM_mem hx)).2.1
theorem thenP_lt {os:List Str}:∀ p∈thenP os,p < os.length:=fun p hp=>by
  obtain ⟨x,hx,e⟩:=List.mem_map.mp hp
  rw [← e]
  exact (ix_spec (thenM_mem hx)).2.1
def aftB (os:List Str) (t f:Nat→Bool):Nat→Bool:=movW ((thenP os).zip (nowP os)) (anyW (nowP os) fun b=>f b && t b)
def befB (os:List Str) (t f:Nat→Bool):Nat→Bool:=anyW (thenP os) fun b=>movW ((nowP os).zip (thenP os)) f b && t b
def spAfter (C:Addr):Sp:=fun vs H Q _=>∃ (b:Addr) (os:List Str) (rs:List Rm) (F:Foot) (k N:Nat) (f:Nat→Bool),vs = [.ref b,.int (k:Nat),.int (N:Nat)]∧BookAt C H b os rs F∧k < rs.length∧IsWorld os∧IsTab os.length N f∧∀ (R:Nat) (H':Hp),Same H H'→IsTab os.length R (aftB os (fun b=>yes rs k (rowN b)) f)→Q (.int R) H'
def spBefore (C:Addr):Sp:=fun vs H Q _=>∃ (b:Addr) (os:List Str) (rs:List Rm) (F:Foot) (k N:Nat) (f:Nat→Bool),vs = [.ref b,.int (k:Nat),.int (N:Nat)]∧BookAt C H b os rs F∧k < rs.length∧IsWorld os∧IsTab os.length N f∧∀ (R:Nat) (H':Hp),Same H H'→IsTab os.length R (befB os (fun b=>yes rs k (rowN b)) f)→Q (.int R) H'
def spMustWorld (C:Addr):Sp:=fun vs H Q _=>∃ (b:Addr) (os:List Str) (rs:List Rm) (F:Foot),vs = [.ref b]∧BookAt C H b os rs F∧IsWorld os∧∀ H',Same H H'→Q .non H'
def OfNow (os:List Str) (rs:List Rm) (k:Nat):Prop:=k < rs.length∧∀ p∈thenP os,Free os.length (fun b=>yes rs k (rowN b)) p
def spMustNow (C:Addr):Sp:=fun vs H Q _=>∃ (b:Addr) (os:List Str) (rs:List Rm) (F:Foot) (k:Nat),vs = [.ref b,.int (k:Nat)]∧BookAt C H b os rs F∧OfNow os rs k∧∀ H',Same H H'→Q .non H'
def spMustWith (C:Addr) (K:PySem.W.Frag):Sp:=fun vs H Q _=>∃ (b l:Addr) (os:List Str) (rs:List Rm) (F:Foot) (k:Nat) (ks:List Nat),vs = [.ref b,.int (k:Nat),.ref l]∧BookAt C H b os rs F∧IsWorld os∧k < rs.length∧SqL K H l (natW ks)∧(∀ j∈ks,OfNow os rs j)∧∀ H',Same H H'→Q .non H'
def spImage (C:Addr):Sp:=fun vs H Q _=>∃ (b:Addr) (os:List Str) (rs:List Rm) (F:Foot) (k j:Nat),vs = [.ref b,.int (k:Nat),.int (j:Nat)]∧BookAt C H b os rs F∧rs.length≤8000000∧IsWorld os∧k < rs.length∧OfNow os rs j∧GrowH C b os H rs F (fun r=>aftB os (fun c=>yes rs k (rowN c)) (fun c=>yes rs j (rowN c)) (bits r os.length)) Q
def spPreimage (C:Addr):Sp:=fun vs H Q _=>∃ (b:Addr) (os:List Str) (rs:List Rm) (F:Foot) (k j:Nat),vs = [.ref b,.int (k:Nat),.int (j:Nat)]∧BookAt C H b os rs F∧rs.length≤8000000∧IsWorld os∧k < rs.length∧OfNow os rs j∧GrowH C b os H rs F (fun r=>befB os (fun c=>yes rs k (rowN c)) (fun c=>yes rs j (rowN c)) (bits r os.length)) Q
end Sen
namespace Sen
open PySem L2 Bdd
theorem nat_ext {a b:Nat} (h:∀ i,a.testBit i = b.testBit i):a = b:=Nat.eq_of_testBit_eq h
theorem anyW_iff:∀ (ps:List Nat) (f:Nat→Bool) (c:Nat),anyW ps f c = true↔∃ d,(∀ i,i ∉ ps→d.testBit i = c.testBit i)∧f d = true
  | [],f,c=>by
    constructor
    · exact fun h=>⟨c,fun _ _=>rfl,h⟩
    · rintro ⟨d,h1,h2⟩
      have e:d = c:=nat_ext fun i=>h1 i (by simp)
      rw [e] at h2
      exact h2
  | p :: ps,f,c=>by
    show anyW ps _ c = true↔_
    rw [anyW_iff ps]
    constructor
    · rintro ⟨d,h1,h2⟩
      rcases (Bool.or_eq_true _ _).mp h2 with z | z
      · exact ⟨d,fun i hi=>h1 i (fun y=>hi (List.mem_cons_of_mem _ y)),z⟩
      · refine ⟨_,fun i hi=>?_,z⟩
        rw [putBit_bit,if_neg (fun y=>hi (by rw [y]; exact List.mem_cons_self))]
        exact h1 i (fun y=>hi (List.mem_cons_of_mem _ y))
    · rintro ⟨d,h1,h2⟩
      refine ⟨putBit d p (c.testBit p),fun i hi=>?_,?_⟩
      · rw [putBit_bit]
        by_cases e:i = p
        · rw [if_pos e,e]
        · rw [if_neg e]
          exact h1 i (fun y=>(List.mem_cons.mp y).elim e hi)
      · refine (Bool.or_eq_true _ _).mpr ?_
        by_cases e:c.testBit p = d.testBit p
        · left
          rw [e,putBit_self]
          exact h2
        · right
          have e':putBit (putBit d p (c.testBit p)) p (!(putBit d p (c.testBit p)).testBit p) = d:=nat_ext fun i=>by
            rw [putBit_bit,putBit_bit,putBit_bit]
            by_cases y:i = p
            · rw [if_pos y,if_pos rfl,y]
              cases hc:c.testBit p <;> cases hd:d.testBit p <;> rw [hc,hd] at e <;> first | rfl | exact absurd rfl e
            · rw [if_neg y,if_neg y]
          rw [e']
          exact h2
def mv:List (Nat × Nat)→Nat→Nat
  | [],c=>c
  | pq :: r,c=>putBit (mv r c) pq.1 ((mv r c).testBit pq.2)
theorem movW_eq:∀ (r:List (Nat × Nat)) (f:Nat→Bool) (c:Nat),movW r f c = f (mv r c)
  | [],_,_=>rfl
  | pq :: r,f,c=>by
    show movW r _ c = _
    rw [movW_eq r]
    show (if (mv r c).testBit pq.2 = true then _ else _) = f (putBit (mv r c) pq.1 ((mv r c).testBit pq.2))
    cases (mv r c).testBit pq.2 <;> simp
theorem mv_bit:∀ (r:List (Nat × Nat)) (c:Nat),(r.map (·.1)).Nodup→(∀ x∈r,∀ y∈r,x.2≠y.1)→(∀ x∈r,(mv r c).testBit x.1 = c.testBit x.2)∧∀ i,i ∉ r.map (·.1)→(mv r c).testBit i = c.testBit i
  | [],c,_,_=>⟨fun x hx=>by simp at hx,fun _ _=>rfl⟩
  | pq :: r,c,nd,dj=>by
    rw [List.map_cons,List.nodup_cons] at nd
    obtain ⟨h1,h2⟩:=mv_bit r c nd.2 fun x hx y hy=>dj x (List.mem_cons_of_mem _ hx) y (List.mem_cons_of_mem _ hy)
    have e2:(mv r c).testBit pq.2 = c.testBit pq.2:=h2 _ fun h=>by
      obtain ⟨y,hy,e⟩:=List.mem_map.mp h
      exact dj pq List.mem_cons_self y (List.mem_cons_of_mem _ hy) e.symm
    constructor
    · intro x hx
      show (putBit (mv r c) pq.1 ((mv r c).testBit pq.2)).testBit x.1 = _
      rw [putBit_bit]
      rcases List.mem_cons.mp hx with z | z
      · rw [z,if_pos rfl,e2]
      · rw [if_neg (fun y=>nd.1 (by rw [← y]; exact List.mem_map.mpr ⟨x,z,rfl⟩))]
        exact h1 x z
    · intro i hi
      show (putBit (mv r c) pq.1 ((mv r c).testBit pq.2)).testBit i = _
      rw [putBit_bit,if_neg (fun y=>hi (by rw [List.map_cons,y]; exact List.mem_cons_self))]
      exact h2 i fun y=>hi (by rw [List.map_cons]; exact List.mem_cons_of_mem _ y)
end Sen
namespace L2
open PySem PySem.Spec PyProof.Rows PySem.W
section
variable {prog:Program} {w:World} {A:Around} {E:Value→Shared→Prop} {κ:SortKind} {it:Array Keyed} {s:Shared}
variable {lt:Nat→Nat→Bool} {N:Nat}
end
section
variable {prog:Program} {w:World} {A:Around} {E:Value→Shared→Prop} {κ:SortKind} {it:Array Keyed} {s:Shared}
variable {lt:Nat→Nat→Bool} {N:Nat}
end
section
variable {prog:Program} {w:World} {A:Around} {E:Value→Shared→Prop} {κ:SortKind} {it:Array Keyed} {s:Shared}
variable {lt:Nat→Nat→Bool} {N:Nat}
end
section
variable {prog:Program} {w:World} {A:Around} {E:Value→Shared→Prop} {κ:SortKind} {it:Array Keyed} {s:Shared}
variable {lt:Nat→Nat→Bool}
end
section
variable {prog:Program} {w:World} {A:Around} {E:Value→Shared→Prop} {κ:SortKind} {it:Array Keyed} {s:Shared}
variable {lt:Nat→Nat→Bool}
end
section
variable {prog:Program} {w:World} {A:Around} {E:Value→Shared→Prop} {s:Shared}
end
section
variable {prog:Program} {w:World} {A:Around} {E:Value→Shared→Prop} {κ:SortKind} {it:Array Keyed} {s:Shared}
end
end L2
namespace Bdd
open L2
end Bdd
namespace L2
open PySem PySem.Spec PyProof.Rows PySem.W
section
variable {X:Cx}
end
section
variable {X:Cx}
end
end L2
namespace L2
open PySem
end L2
namespace Sen
open PySem L2 Bdd
section
variable (C:Addr) (K:PySem.W.Frag)
end
noncomputable def outF (F:Foot) (H:Hp):Hp:=fun x=>open Classical in if F x then none else H x
theorem outF_same (F:Foot) (H:Hp):Same (outF F H) H:=fun x o e=>by
  unfold outF at e
  by_cases h:F x
  · rw [if_pos h] at e; cases e
  · rw [if_neg h] at e; exact e
theorem outF_out {F:Foot} {H:Hp} {x:Addr} (h:¬ F x):outF F H x = H x:=by unfold outF; rw [if_neg h]
theorem outF_in {F:Foot} {H:Hp} {x:Addr} (h:F x):outF F H x = none:=by unfold outF; rw [if_pos h]
section
variable {B:Hp→Addr→List Str→List Rm→Foot→Prop} {C:Addr} {H0 H H':Hp} {b:Addr} {os:List Str} {n:Nat} {rs rs':List Rm} {F F':Foot}
end
section
variable (C:Addr) (K:PySem.W.Frag)
end
end Sen
namespace L2
open PySem PySem.Spec PyProof.Rows PySem.W
section
variable {prog:Program} {w:World} {A:Around} {E:Value→Shared→Prop} {κ:SortKind} {it:Array Keyed} {s:Shared}
variable {lt:Nat→Nat→Bool} {N:Nat}
end
section
variable {lt:Nat→Nat→Bool} {N:Nat}
variable {X Y O:List Nat} {ia ib:Nat}
end
section
variable {prog:Program} {w:World} {A:Around} {E:Value→Shared→Prop} {κ:SortKind} {it:Array Keyed} {s:Shared}
variable {lt:Nat→Nat→Bool} {N:Nat}
end
section
variable {lt:Nat→Nat→Bool} {N:Nat}
variable {X Y O:List Nat} {na nb:Nat}
end
section
variable {prog:Program} {w:World} {A:Around} {E:Value→Shared→Prop} {κ:SortKind} {it:Array Keyed} {s:Shared}
variable {lt:Nat→Nat→Bool} {N:Nat}
end
section
variable {prog:Program} {w:World} {A:Around} {E:Value→Shared→Prop} {κ:SortKind} {it:Array Keyed} {s:Shared}
variable {lt:Nat→Nat→Bool} {N:Nat}
end
section
variable {prog:Program} {w:World} {A:Around} {E:Value→Shared→Prop} {κ:SortKind} {it:Array Keyed} {s:Shared}
variable {lt:Nat→Nat→Bool} {N:Nat}
end
end L2
namespace L2
open PySem PySem.Spec PyProof.Rows PySem.W
section
variable {prog:Program} {w:World} {A:Around} {E:Value→Shared→Prop} {s:Shared}
end
section
variable {X:Cx}
end
end L2
namespace Bdd
open PySem L2
end Bdd
namespace Bdd
open Sen
section
variable {n d p:Nat} {f c:Nat→Bool}
end
end Bdd
namespace Sen
open PySem L2 Bdd
section
variable (C:Addr)
end
end Sen
namespace Sen
open PySem L2 Bdd
end Sen
namespace Bdd
open L2
end Bdd
namespace Sen
open PySem L2 Bdd
end Sen
namespace Bdd
open PySem Sen
section
variable {n:Nat} {rs:List Rm} (B:Bk n rs)
include B
end
end Bdd
namespace Sen
open PySem L2 Bdd
end Sen
namespace Sen
open PySem L2 Bdd
end Sen
namespace L2
open PySem PySem.Spec PyProof.Rows
section
variable {prog:Program} {w:World} {A:Around} {E:Value→Shared→Prop} {s:Shared}
end
section
variable {X:Cx}
end
end L2
namespace Bdd
section
variable {n:Nat} {rs:List Rm} (B:Bk n rs)
include B
end
end Bdd
namespace Sen
open PySem L2 Bdd
end Sen
namespace L2
open PySem PySem.Spec PyProof.Rows
section
variable {prog:Program} {w:World} {κ:Type} [DecidableEq κ] {knd:KeyKind prog w κ} {A:Around} {E:Value→Shared→Prop} {s:Shared}
end
section
variable {prog:Program} {w:World} {κ:Type} [DecidableEq κ] {knd:KeyKind prog w κ} {A:Around} {E:Value→Shared→Prop} {s:Shared}
end
theorem pd_ext {α β:Type} {R:α→β→Prop}:∀ {xs:List α} {ys:List β},xs.length = ys.length→(∀ (j:Nat) x y,xs[j]? = some x→ys[j]? = some y→R x y)→Paired R xs ys
  | [],[],_,_=>.nil
  | [],_ :: _,e,_=>by cases e
  | _ :: _,[],e,_=>by cases e
  | x :: xs,y :: ys,e,h=>.cons (h 0 x y rfl rfl) (pd_ext (Nat.succ.inj e) fun j a b h1 h2=>h (j + 1) a b h1 h2)
section
variable {X:Cx}
end
end L2
namespace PySem
open Sem (wp)
section
variable {prog:Program} {w:World} {A:Around} {E:Value→Shared→Prop} {h:Heap} {g:Array GenState} {d:Drawn} {t:Nat} {os:OsState} {a:Addr} {its:Array Value} {n:Nat} {sl:Array (Option Value)}
end
section
variable {prog:Program} {w:World} {κ:Type} [DecidableEq κ] {knd:KeyKind prog w κ} {A:Around} {E:Value→Shared→Prop}
end
end PySem
namespace L2
open PySem PySem.Spec PyProof.Rows
section
variable {X:Cx}
end
end L2
namespace L2
open PySem PySem.Spec PyProof.Rows
section
variable {X:Cx}
end
end L2
namespace Bdd
section
variable {n:Nat} {rs:List Rm} (B:Bk n rs)
include B
end
end Bdd
namespace Sen
open PySem L2 Bdd
section
variable (C:Addr)
end
end Sen
namespace L2
open PySem PySem.Spec PyProof.Rows
section
variable {X:Cx} {pins:List (Addr × Obj)} {σ:St} {H:Hp} {s:Shared}
end
section
variable {X:Cx} {tg:Expr}
end
end L2
namespace L2
open PySem PySem.Spec PyProof.Rows
section
variable {prog:Program} {w:World} {A:Around} {E:Value→Shared→Prop} {s:Shared} {d it:Addr} {es:Array DictEntry} {ep i:Nat}
end
section
variable {X:Cx}
end
end L2
namespace L2
open PySem PySem.Spec PyProof.Rows
section
variable {X:Cx}
def rSlS:V→Option Int→Option Int→Hp→VK→Prop:=fun x lo hi H Q=>∃ z:Str,x = .str z∧z.length≤sizeLine∧Q (.str (Txt.slice z lo hi)) H
theorem sl_str:SlR X rSlS:=by
  intro pins s σ H x v vl vu lo hi sl Q I rx hs pl pu h
  obtain ⟨z,rfl,hz,q⟩:=h
  obtain ⟨t,rfl⟩:=rx
  refine ⟨"str", _,PySem.F.slot_str_getitem.lookup,typeIs_str _ _ _,?_⟩
  have fin:∀ (t':Tok) (k:Nat),EP X pins σ Q (.str (Txt.slice z lo hi) t') { s with toks:=k }:=fun t' k=>⟨.str (Txt.slice z lo hi),H,I.tok _,⟨t',rfl⟩,q⟩
  cases pl with
  | none=>cases pu with
    | none=>exact wpAny_getItem_str_slice (l:=none) (u:=none) (st:=none) hs rfl (post_val_or_str ⟨Nat.le_trans (Txt.slice_le z _ _) hz,fin⟩)
    | int j uj=>exact wpAny_getItem_str_slice (l:=none) (u:=some (j,uj)) (st:=none) hs rfl (post_val_or_str ⟨Nat.le_trans (Txt.slice_le z _ _) hz,fin⟩)
  | int i ui=>cases pu with
    | none=>exact wpAny_getItem_str_slice (l:=some (i,ui)) (u:=none) (st:=none) hs rfl (post_val_or_str ⟨Nat.le_trans (Txt.slice_le z _ _) hz,fin⟩)
    | int j uj=>exact wpAny_getItem_str_slice (l:=some (i,ui)) (u:=some (j,uj)) (st:=none) hs rfl (post_val_or_str ⟨Nat.le_trans (Txt.slice_le z _ _) hz,fin⟩)
def rSIndex:V→List V→Hp→VK→Prop:=fun x vs H Q=>∃ (y z:Str) (i:Nat) (rest:List Nat),x = .str y∧vs = [.str z]∧Builtin.Str.occurrences y z 0 y.length 1 = i :: rest∧Q (.int (i:Nat)) H
theorem mt_sIndex:MtM X "str.index" rSIndex:=by
  intro pins s σ H x vs v us Q I rx rv h
  obtain ⟨y,z,i,rest,rfl,rfl,ho,q⟩:=h
  obtain ⟨t,rfl⟩:=rx
  obtain ⟨u,rfl,ru⟩:=rv.one
  obtain ⟨t',rfl⟩:=ru
  exact SC.index ho ⟨.int (i:Nat),H,I.tok _,⟨_,rfl⟩,q⟩
end
section
variable {x:Str} {σ:St} {js:List Nat} {tt:TT} {te:TE} {H:Hp} {Qf:Addr→Hp→List V→Prop}
theorem lc_strT (Pv:Nat→List V→Hp→Prop) (h0:Pv 0 [] H) (hz:x.cps.size≤sizeLine) (hl:∀ i ys H,Pv i ys H→ys.length≤i)
    (hs:∀ (i:Nat) c ys H',x.cps[i]? = some c→Pv i ys H'→tt (lcS σ js (some (.str ⟨#[c]⟩))) H' fun b H2=>if b = true then te (lcS σ js (some (.str ⟨#[c]⟩))) H2 fun v H3=>Pv (i + 1) (ys ++ [v]) H3 else Pv (i + 1) ys H2)
    (mt:∀ σ H Q Q',(∀ b H1,Q b H1→Q' b H1)→tt σ H Q→tt σ H Q') (me:∀ σ H Q Q',(∀ v H1,Q v H1→Q' v H1)→te σ H Q→te σ H Q')
    (hd:∀ ys H' p,Pv x.cps.size ys H'→H' p = none→Qf p H' ys) :
    ∃ W:Nat→Nat→List V→Hp→Prop,(∃ m,W 0 m [] H)∧∀ i m ys H,W i m ys H →
      ((Its x).stop i H∧∀ p,H p = none→Qf p H ys) ∨
      ((Its x).go i H∧ys.length < sizeLine∧∀ v H',(Its x).yld i H v H'→tt (lcS σ js (some v)) H' fun b H2 =>
        if b = true then te (lcS σ js (some v)) H2 fun v H3=>∃ m',m' < m∧W (i + 1) m' (ys ++ [v]) H3 else ∃ m',m' < m∧W (i + 1) m' ys H2):=by
  refine ⟨fun i m ys H'=>m = x.cps.size - i∧i≤x.cps.size∧Pv i ys H',⟨_,rfl,Nat.zero_le _,h0⟩,?_⟩
  rintro i m ys H1 ⟨rfl,hi,hp⟩
  by_cases hlt:i < x.cps.size
  · have:=hl _ _ _ hp
    refine .inr ⟨hlt,by omega,fun v H' y=>?_⟩
    obtain ⟨rfl,c,hc,rfl⟩:=y
    refine mt _ _ _ _ (fun b H2 h2=>?_) (hs i c ys _ hc hp)
    cases b with
    | true =>
      rw [if_pos rfl] at h2 ⊢
      exact me _ _ _ _ (fun v H3 h3=>⟨_,by omega,rfl,hlt,h3⟩) h2
    | false =>
      rw [if_neg Bool.false_ne_true] at h2 ⊢
      exact ⟨_,by omega,rfl,hlt,h2⟩
  · have e:i = x.cps.size:=by omega
    subst e
    exact .inl ⟨rfl,fun p h=>hd ys H1 p hp h⟩
end
end L2
namespace Sen
open PySem L2 Bdd
def sg (c:Nat):Str:=⟨#[c]⟩
theorem sg_inj {a b:Nat} (h:sg a = sg b):a = b:=by
  have e:=congrArg (fun s:Str=>s.cps.toList) h
  have e:[a] = [b]:=e
  injection e
def nowS (i:Nat):Str:=sg (97 + i)
def latS (i:Nat):Str:=sg (101 + i)
def nmS (is:List Nat):Str:=⟨(is.map fun i=>97 + i).toArray⟩
theorem nmS_at {is:List Nat} {k i:Nat} (h:is[k]? = some i):atI (nmS is).cps.toList (k:Int) = some (97 + i):=by
  refine atI_nat ?_
  show ((is.map fun i=>97 + i).toArray.toList)[k]? = _
  rw [List.getElem?_map,h]; rfl
theorem nmS_len (is:List Nat):(nmS is).length = is.length:=by
  show (is.map fun i=>97 + i).toArray.size = _
  rw [List.size_toArray,List.length_map]
theorem abcd_index {i:Nat} (h:i < 4):∃ rest,Builtin.Str.occurrences (Str.ofString "abcd") (sg (97 + i)) 0 (Str.ofString "abcd").length 1 = i :: rest:=by
  match i,h with
  | 0,_=>exact ⟨[],by decide +kernel⟩
  | 1,_=>exact ⟨[],by decide +kernel⟩
  | 2,_=>exact ⟨[],by decide +kernel⟩
  | 3,_=>exact ⟨[],by decide +kernel⟩
theorem efgh_at {i:Nat} (h:i < 4):atI (Str.ofString "efgh").cps.toList (i:Int) = some (101 + i):=by
  match i,h with
  | 0,_=>decide +kernel
  | 1,_=>decide +kernel
  | 2,_=>decide +kernel
  | 3,_=>decide +kernel
theorem prs_at {i:Nat} (h:i < 4):prs[i]? = some (nowS i,latS i):=by
  match i,h with
  | 0,_=>decide +kernel
  | 1,_=>decide +kernel
  | 2,_=>decide +kernel
  | 3,_=>decide +kernel
theorem prs_mem {p:Str × Str} (h:p∈prs):∃ i,i < 4∧p = (nowS i,latS i):=by
  obtain ⟨i,hi⟩:=List.getElem?_of_mem h
  have h4:i < 4:=(List.getElem?_eq_some_iff.mp hi).1
  rw [prs_at h4] at hi
  exact ⟨i,h4,(Option.some.inj hi).symm⟩
theorem nowS_lett {i:Nat} (h:i < 4):nowS i∈letts:=by
  match i,h with
  | 0,_=>decide +kernel
  | 1,_=>decide +kernel
  | 2,_=>decide +kernel
  | 3,_=>decide +kernel
theorem latS_lett {i:Nat} (h:i < 4):latS i∈letts:=by
  match i,h with
  | 0,_=>decide +kernel
  | 1,_=>decide +kernel
  | 2,_=>decide +kernel
  | 3,_=>decide +kernel
theorem now_ne_lat {i j:Nat} (h:i < 4):nowS i≠latS j:=fun e=>by have:=sg_inj e; omega
def Mks (is:List Nat) (os:List Str):Prop:=os.Nodup∧∀ x,x∈os↔∃ i∈is,x = nowS i∨x = latS i
theorem Mks.has {is:List Nat} {os:List Str} (h:Mks is os) (h4:∀ i∈is,i < 4) {j:Nat} (hj:j < 4):(nowS j∈os↔j∈is)∧(latS j∈os↔j∈is):=by
  refine ⟨⟨fun z=>?_,fun z=>(h.2 _).mpr ⟨j,z,.inl rfl⟩⟩,⟨fun z=>?_,fun z=>(h.2 _).mpr ⟨j,z,.inr rfl⟩⟩⟩
  · obtain ⟨i,hi,e | e⟩:=(h.2 _).mp z
    · have:=sg_inj e
      have:j = i:=by omega
      rw [this]; exact hi
    · exact absurd e (now_ne_lat hj)
  · obtain ⟨i,hi,e | e⟩:=(h.2 _).mp z
    · exact absurd e.symm (now_ne_lat (h4 i hi))
    · have:=sg_inj e
      have:j = i:=by omega
      rw [this]; exact hi
theorem contains_iff {os:List Str} {x:Str}:os.contains x = decide (x∈os):=List.contains_eq_mem ..
theorem Mks.world {is:List Nat} {os:List Str} (h:Mks is os) (h4:∀ i∈is,i < 4) (ne:is≠[]):IsOrd os∧IsWorld os∧0 < (nowM os).length:=by
  obtain ⟨i0,hi0⟩:∃ i,i∈is:=by
    match is,ne with
    | a :: r,_=>exact ⟨a,List.mem_cons_self⟩
  have m0:nowS i0∈os:=(h.2 _).mpr ⟨i0,hi0,.inl rfl⟩
  refine ⟨⟨h.1,fun x hx=>?_,List.length_pos_of_mem m0⟩,fun p hp=>?_,?_⟩
  · obtain ⟨i,hi,e | e⟩:=(h.2 x).mp hx
    · rw [e]; exact nowS_lett (h4 i hi)
    · rw [e]; exact latS_lett (h4 i hi)
  · obtain ⟨j,hj,rfl⟩:=prs_mem hp
    obtain ⟨a,b⟩:=h.has h4 hj
    rw [contains_iff,contains_iff]
    exact decide_eq_decide.mpr (a.trans b.symm)
  · refine List.length_pos_of_mem (a:=nowS i0) ?_
    unfold nowM
    exact List.mem_map.mpr ⟨(nowS i0,latS i0),List.mem_filter.mpr ⟨List.mem_of_getElem? (prs_at (h4 _ hi0)),by rw [contains_iff]; exact decide_eq_true m0⟩,rfl⟩
theorem mem_mid {α:Type} {x y:α} {os:List α} {j:Nat}:x∈os.take j ++ y :: os.drop j↔x = y∨x∈os:=by
  have e:List.Perm (os.take j ++ y :: os.drop j) (y :: os):=(List.perm_middle).trans (by rw [List.take_append_drop])
  rw [e.mem_iff,List.mem_cons]
theorem nodup_mid {α:Type} {y:α} {os:List α} {j:Nat} (nd:os.Nodup) (h:y ∉ os):(os.take j ++ y :: os.drop j).Nodup:=by
  refine List.perm_middle.nodup_iff.mpr (List.nodup_cons.mpr ⟨?_,?_⟩)
  · rw [List.take_append_drop]; exact h
  · rw [List.take_append_drop]; exact nd
theorem len_mid {α:Type} {y:α} {os:List α} {j:Nat}:(os.take j ++ y :: os.drop j).length = os.length + 1:=by
  rw [List.length_append,List.length_cons,List.length_take,List.length_drop]
  omega
structure SenP (os:List Str) (H:Hp) (s:Sn) (p:Addr):Prop where
  is_:IsS H s p
  inO:s.inO os
  ct:s.count≤200
  dp:s.depth≤24
theorem SenP.mono {os:List Str} {H H':Hp} {s:Sn} {p:Addr} (h:SenP os H s p) (t:Tups H H'):SenP os H' s p:=⟨h.is_.mono t,h.inO,h.ct,h.dp⟩
theorem inO_sub {os ps:List Str} (h:∀ x∈os,x∈ps):∀ {s:Sn},s.inO os→s.inO ps:=fun {s} e=>(Sn.inO_iff s).mpr fun x hx=>h x ((Sn.inO_iff s).mp e x hx)
section
variable (K:PySem.W.Frag)
def spWorld:Sp:=fun vs H Q _=>∃ c:Int,vs = [.int c]∧∀ (l:Addr) (H':Hp) (os:List Str),Same H H'→H' l = some (.lst (os.map V.str))→IsOrd os→IsWorld os→0 < (nowM os).length→Q (.ref l) H'
def spNowL:Sp:=fun vs H Q _=>∃ (ol:Addr) (os:List Str),vs = [.ref ol]∧SqL K H ol (os.map V.str)∧∀ (l:Addr) (H':Hp),Same H H'→H l = none→H' l = some (.lst ((nowM os).map V.str))→Q (.ref l) H'
def spCounting:Sp:=fun vs H Q _=>∃ (ol:Addr) (os:List Str),vs = [.ref ol]∧SqL K H ol (os.map V.str)∧IsWorld os∧∀ (p:Addr) (H':Hp) (s:Sn),Same H H'→SenP os H' s p→Q (.ref p) H'
def spSingle:Sp:=fun vs H Q _=>∃ (ol:Addr) (os:List Str) (c:Int),vs = [.ref ol,.int c]∧SqL K H ol (os.map V.str)∧∀ (p:Addr) (H':Hp) (s:Sn),Same H H'→SenP (nowM os) H' s p→Q (.ref p) H'
def spBoth:Sp:=fun vs H Q _=>∃ (sc:Addr) (ns:List Int),vs = [.ref sc]∧SqL K H sc (ns.map V.int)∧∀ (t ol p:Addr) (H':Hp) (os:List Str) (s:Sn),Same H H'→H' t = some (.tup [.ref ol,.ref p])→H' ol = some (.lst (os.map V.str))→IsOrd os→IsWorld os→0 < (nowM os).length→SenP os H' s p→Q (.ref t) H'
def spToldPlace:Sp:=fun vs H Q _=>∃ (sc ol:Addr) (ns:List Int) (t:Nat) (os:List Str),vs = [.ref sc,.int (t:Nat),.ref ol]∧SqL K H sc (ns.map V.int)∧SqL K H ol (os.map V.str)∧os.length≤8∧0 < (nowM os).length∧t≤40∧∀ (p:Addr) (H':Hp) (s:Sn),Same H H'→SenP (nowM os) H' s p→Q (.ref p) H'
end
section
variable (os:List Str) (t:Nat→Bool)
def rnd (f:Nat→Bool):Nat→(Nat→Bool) × (Nat→Bool)
  | 0=>(f,fun _=>false)
  | i + 1=>(fun b=>aftB os t (rnd f i).1 b && !((rnd f i).2 b || (rnd f i).1 b),fun b=>(rnd f i).2 b || (rnd f i).1 b)
structure Rnds (f:Nat→Bool) (Ns:List Nat):Prop where
  tab:∀ (i N:Nat),Ns[i]? = some N→IsTab os.length N (rnd os t f i).1∧N≠0
  fin:IsTab os.length 0 (rnd os t f Ns.length).1
end
section
variable {os:List Str} {t:Nat→Bool}
theorem Rnds.eq {f:Nat→Bool} {Ns Ms:List Nat} (a:Rnds os t f Ns) (b:Rnds os t f Ms):Ns = Ms:=by
  have key:∀ {Ns Ms:List Nat},Rnds os t f Ns→Rnds os t f Ms→Ns.length≤Ms.length:=fun {Ns Ms} a b=>by
    rcases Nat.lt_or_ge Ms.length Ns.length with z | z
    · exfalso
      obtain ⟨x,y⟩:=a.tab Ms.length Ns[Ms.length] (List.getElem?_eq_getElem z)
      exact y (tab_inj x b.fin fun _ _=>rfl)
    · exact z
  have el:Ns.length = Ms.length:=Nat.le_antisymm (key a b) (key b a)
  refine List.ext_getElem? fun i=>?_
  rcases Nat.lt_or_ge i Ns.length with z | z
  · rw [List.getElem?_eq_getElem z,List.getElem?_eq_getElem (by omega:i < Ms.length)]
    exact congrArg some (tab_inj (a.tab i _ (List.getElem?_eq_getElem z)).1 (b.tab i _ (List.getElem?_eq_getElem (by omega:i < Ms.length))).1 fun _ _=>rfl)
  · rw [List.getElem?_eq_none z,List.getElem?_eq_none (by omega)]
theorem rnd_apart (f:Nat→Bool) (i b:Nat) (h:(rnd os t f i).1 b = true):(rnd os t f i).2 b = false:=by
  cases i with
  | zero=>rfl
  | succ i =>
    have h:(aftB os t (rnd os t f i).1 b && !((rnd os t f i).2 b || (rnd os t f i).1 b)) = true:=h
    show ((rnd os t f i).2 b || (rnd os t f i).1 b) = false
    cases e:((rnd os t f i).2 b || (rnd os t f i).1 b) with
    | false=>rfl
    | true=>rw [e,Bool.not_true,Bool.and_false] at h; cases h
theorem filt_lt {α:Type} {p q:α→Bool}:∀ {l:List α},(∀ a,p a = true→q a = true)→(∃ a∈l,q a = true∧p a = false)→(l.filter p).length < (l.filter q).length
  | [],_,h=>by obtain ⟨a,ha,_⟩:=h; cases ha
  | x :: l,hpq,h=>by
    have le:(l.filter p).length≤(l.filter q).length:=by
      clear h
      induction l with
      | nil=>exact Nat.le_refl _
      | cons y l ih =>
        rw [List.filter_cons,List.filter_cons]
        by_cases c:p y = true
        · rw [if_pos c,if_pos (hpq y c),List.length_cons,List.length_cons]; omega
        · rw [if_neg c]
          split
          · rw [List.length_cons]; omega
          · exact ih
    rw [List.filter_cons,List.filter_cons]
    by_cases c:p x = true
    · rw [if_pos c,if_pos (hpq x c),List.length_cons,List.length_cons]
      obtain ⟨a,ha,h1,h2⟩:=h
      rcases List.mem_cons.mp ha with e | e
      · rw [e,c] at h2; cases h2
      · have:=filt_lt (l:=l) hpq ⟨a,e,h1,h2⟩
        omega
    · rw [if_neg c]
      by_cases d:q x = true
      · rw [if_pos d,List.length_cons]; omega
      · rw [if_neg d]
        obtain ⟨a,ha,h1,h2⟩:=h
        rcases List.mem_cons.mp ha with e | e
        · rw [e] at h1; exact absurd h1 d
        · exact filt_lt (l:=l) hpq ⟨a,e,h1,h2⟩
def cntT (os:List Str) (t f:Nat→Bool) (i:Nat):Nat:=((List.range (2 ^ os.length)).filter (rnd os t f i).2).length
theorem cntT_le (f:Nat→Bool) (i:Nat):cntT os t f i≤2 ^ os.length:=Nat.le_trans (List.length_filter_le _ _) (by rw [List.length_range]; exact Nat.le_refl _)
theorem cntT_lt {f:Nat→Bool} {i N:Nat} (h:IsTab os.length N (rnd os t f i).1) (ne:N≠0):cntT os t f i < cntT os t f (i + 1):=by
  unfold cntT
  refine filt_lt (fun a ha=>by show ((rnd os t f i).2 a || (rnd os t f i).1 a) = true; rw [ha]; rfl) ?_
  have hb:∃ b,N.testBit b = true:=by
    refine Classical.byContradiction fun no=>ne (Nat.eq_of_testBit_eq fun b=>?_)
    rw [Nat.zero_testBit]
    cases e:N.testBit b with
    | false=>rfl
    | true=>exact absurd ⟨b,e⟩ no
  obtain ⟨b,hb⟩:=hb
  have z:=h b
  rw [hb] at z
  have z1:b < 2 ^ os.length:=by
    by_cases c:b < 2 ^ os.length
    · exact c
    · rw [decide_eq_false c,Bool.false_and] at z; cases z
  rw [decide_eq_true z1,Bool.true_and] at z
  refine ⟨b,List.mem_range.mpr z1,?_,rnd_apart f i b z.symm⟩
  show ((rnd os t f i).2 b || (rnd os t f i).1 b) = true
  rw [← z,Bool.or_true]
theorem or_tab {n N M:Nat} {f g:Nat→Bool} (a:IsTab n N f) (b:IsTab n M g):IsTab n (N ||| M) fun c=>f c || g c:=fun c=>by
  rw [Nat.testBit_or,a c,b c]
  cases decide (c < 2 ^ n) <;> rfl
def TabR (n:Nat) (rs:List Rm) (j N:Nat):Prop:=j < rs.length∧IsTab n N fun b=>yes rs j (rowN b)
theorem TabR.grown {n:Nat} {rs rs':List Rm} (B:Bk n rs) (g:Grown rs rs') {j N:Nat} (a:TabR n rs j N):TabR n rs' j N:=⟨Nat.lt_of_lt_of_le a.1 g.len,fun b=>by rw [a.2 b]; show (_ && yes rs j (rowN b)) = (_ && yes rs' j (rowN b)); rw [g.yes B a.1]⟩
theorem TabR.of {n:Nat} {rs:List Rm} {j N:Nat} {g:Nat→Bool} (m:Means rs j fun r=>g (bits r n)) (h:IsTab n N g):TabR n rs j N:=⟨m.1,fun b=>by
  rw [h b]
  by_cases c:b < 2 ^ n
  · show (_ && g b) = (_ && yes rs j (rowN b))
    rw [m.2]
    show (_ && g b) = (_ && g (bits (rowN b) n))
    rw [bits_rowN c]
  · rw [decide_eq_false c]; rfl⟩
theorem nowM_sub {os:List Str} {x:Str} (h:x∈nowM os):x∈os∧∃ i,i < 4∧x = nowS i:=by
  refine ⟨nowM_mem h,?_⟩
  obtain ⟨p,hp,rfl⟩:=List.mem_map.mp h
  obtain ⟨i,hi,rfl⟩:=prs_mem (List.mem_filter.mp hp).1
  exact ⟨i,hi,rfl⟩
theorem thenM_sub {os:List Str} {x:Str} (h:x∈thenM os):x∈os∧∃ i,i < 4∧x = latS i:=by
  refine ⟨thenM_mem h,?_⟩
  obtain ⟨p,hp,rfl⟩:=List.mem_map.mp h
  obtain ⟨i,hi,rfl⟩:=prs_mem (List.mem_filter.mp hp).1
  exact ⟨i,hi,rfl⟩
theorem ix_inj' {os:List Str} {x y:Str} (hx:x∈os) (hy:y∈os) (e:ix os x = ix os y):x = y:=(ix_inj hy hx).mp e
theorem thenM_nd (os:List Str):(thenM os).Nodup:=by
  unfold thenM
  have e:(prs.map (·.2)).Nodup:=by decide +kernel
  exact List.Nodup.sublist (List.Sublist.map _ (List.filter_sublist)) e
theorem thenP_nd {os:List Str} (ho:IsOrd os):(thenP os).Nodup:=by
  unfold thenP
  refine List.pairwise_map.mpr ((thenM_nd os).imp_of_mem fun {a b} ha hb ne e=>ne ?_)
  exact ix_inj' (thenM_sub ha).1 (thenM_sub hb).1 e
theorem now_then_ne {os:List Str} (ho:IsOrd os) {i j:Nat} (hi:i∈nowP os) (hj:j∈thenP os):i≠j:=fun e=>by
  obtain ⟨x,hx,rfl⟩:=List.mem_map.mp hi
  obtain ⟨y,hy,rfl⟩:=List.mem_map.mp hj
  obtain ⟨h1,a,ha,rfl⟩:=nowM_sub hx
  obtain ⟨h2,b,hb,rfl⟩:=thenM_sub hy
  exact now_ne_lat ha (ix_inj' h1 h2 e)
theorem free_aft (ho:IsOrd os) (hW:IsWorld os) (f:Nat→Bool):∀ p∈thenP os,Free os.length (aftB os t f) p:=by
  intro p hp b hb v
  unfold aftB
  rw [movW_eq,movW_eq]
  congr 1
  have e1:((thenP os).zip (nowP os)).map (·.1) = thenP os:=List.map_fst_zip (by unfold thenP nowP; rw [List.length_map,List.length_map,hW.len]; exact Nat.le_refl _)
  have nd:(((thenP os).zip (nowP os)).map (·.1)).Nodup:=by rw [e1]; exact thenP_nd ho
  have ap:∀ x∈(thenP os).zip (nowP os),∀ y∈(thenP os).zip (nowP os),x.2≠y.1:=fun x hx y hy=>now_then_ne ho (List.of_mem_zip hx).2 (List.of_mem_zip hy).1
  obtain ⟨a1,a2⟩:=mv_bit _ (putBit b p v) nd ap
  obtain ⟨b1,b2⟩:=mv_bit _ b nd ap
  refine nat_ext fun i=>?_
  by_cases c:i∈((thenP os).zip (nowP os)).map (·.1)
  · obtain ⟨x,hx,rfl⟩:=List.mem_map.mp c
    rw [a1 x hx,b1 x hx,putBit_bit,if_neg]
    exact fun e=>now_then_ne ho (List.of_mem_zip hx).2 hp e
  · rw [a2 i c,b2 i c,putBit_bit,if_neg]
    exact fun e=>c (by rw [e1,e]; exact hp)
theorem rnd_free (ho:IsOrd os) (hW:IsWorld os) {f:Nat→Bool} (hf:∀ p∈thenP os,Free os.length f p):∀ i,∀ p∈thenP os,Free os.length (rnd os t f i).1 p∧Free os.length (rnd os t f i).2 p
  | 0,p,hp=>⟨hf p hp,fun _ _ _=>rfl⟩
  | i + 1,p,hp=>by
    obtain ⟨a,b⟩:=rnd_free ho hW hf i p hp
    refine ⟨fun c hc v=>?_,fun c hc v=>?_⟩
    · show (aftB os t (rnd os t f i).1 (putBit c p v) && !((rnd os t f i).2 (putBit c p v) || (rnd os t f i).1 (putBit c p v))) = _
      rw [free_aft ho hW _ p hp c hc v,a c hc v,b c hc v]
      rfl
    · show ((rnd os t f i).2 (putBit c p v) || (rnd os t f i).1 (putBit c p v)) = _
      rw [a c hc v,b c hc v]
      rfl
theorem ofNow_of {rs:List Rm} {j:Nat} {g:Nat→Bool} (m:Means rs j fun r=>g (bits r os.length)) (h:∀ p∈thenP os,Free os.length g p):OfNow os rs j:=⟨m.1,fun p hp b hb v=>by
  have pl:=thenP_lt p hp
  show yes rs j (rowN (putBit b p v)) = yes rs j (rowN b)
  rw [m.2,m.2]
  show g (bits (rowN (putBit b p v)) os.length) = g (bits (rowN b) os.length)
  rw [bits_rowN hb,bits_rowN (putBit_lt hb pl)]
  exact h p hp b hb v⟩
theorem OfNow.grown {rs rs':List Rm} (B:Bk os.length rs) (g:Grown rs rs') {j:Nat} (h:OfNow os rs j):OfNow os rs' j:=⟨Nat.lt_of_lt_of_le h.1 g.len,fun p hp b hb v=>by
  show yes rs' j _ = yes rs' j _
  rw [g.yes B h.1,g.yes B h.1]; exact h.2 p hp b hb v⟩
theorem ofNow_sen {rs:List Rm} (ho:IsOrd os) {j:Nat} {s:Sn} (hs:s.inO (nowM os)) (m:Means rs j fun r=>s.val (envR os r)):OfNow os rs j:=⟨m.1,fun p hp b hb v=>by
  show yes rs j _ = yes rs j _
  rw [m.2,m.2]
  refine Sn.val_congr s hs fun x hx=>?_
  show rowN (putBit b p v) (ix os x) = rowN b (ix os x)
  unfold rowN
  rw [putBit_bit,if_neg]
  exact fun e=>now_then_ne ho (List.mem_map_of_mem hx) hp e⟩
theorem natW_b {x:List Nat} {j:Nat} {v:V} (h:(natW x)[j]? = some v):∃ b,x[j]? = some b∧v = .int (b:Nat):=by
  unfold natW at h
  rw [List.getElem?_map] at h
  cases hx:x[j]? with
  | none=>rw [hx] at h; cases h
  | some b=>rw [hx] at h; exact ⟨b,rfl,(Option.some.inj h).symm⟩
theorem natW_len (x:List Nat):(natW x).length = x.length:=List.length_map _
end
section
variable (C:Addr) (K:PySem.W.Frag)
def tB (rs:List Rm) (k:Nat):Nat→Bool:=fun b=>yes rs k (rowN b)
def spRoundTables:Sp:=fun vs H Q _=>∃ (b:Addr) (os:List Str) (rs:List Rm) (F:Foot) (k j:Nat),vs = [.ref b,.int (k:Nat),.int (j:Nat)]∧BookAt C H b os rs F∧IsWorld os∧k < rs.length∧j < rs.length ∧
  ∀ (l:Addr) (H':Hp) (Ns:List Nat),Same H H'→H l = none→H' l = some (.lst (natW Ns))→Rnds os (tB rs k) (tB rs j) Ns→Ns.length≤256→Q (.ref l) H'
def spRounds:Sp:=fun vs H Q _=>∃ (b:Addr) (os:List Str) (rs:List Rm) (F:Foot) (k j:Nat),vs = [.ref b,.int (k:Nat),.int (j:Nat)]∧BookAt C H b os rs F∧rs.length≤6000000∧IsWorld os∧k < rs.length∧OfNow os rs j ∧
  ∀ (l:Addr) (H':Hp) (rs':List Rm) (js Ns:List Nat),Away F H H'→Tups H H'→BookAt C H' b os rs' F→Grown rs rs'→hiN os.length rs'≤hiN os.length rs + 16128→H l = none→¬ F l→H' l = some (.lst (natW js))→Paired (TabR os.length rs') js Ns→(∀ j∈js,OfNow os rs' j)→Rnds os (tB rs k) (tB rs j) Ns→Ns.length≤256→Q (.ref l) H'
end
theorem tB_grown {n:Nat} {rs rs':List Rm} (B:Bk n rs) (g:Grown rs rs') {k:Nat} (h:k < rs.length):tB rs' k = tB rs k:=funext fun b=>g.yes B h _
theorem LedH.rise {C:Addr} {H0:Hp} {b:Addr} {os:List Str} {m n:Nat} {H:Hp} {rs:List Rm} {F:Foot} (h:LedH C H0 b os m H rs F) {H':Hp} {rs':List Rm} (aw:Away F H H') (hB:BookAt C H' b os rs' F) (hh:hiN os.length rs'≤hiN os.length rs + n):LedH C H0 b os (m + n) H' rs' F :=
  ⟨fun x o e=>aw x o (h.same _ _ e) fun z=>(by have:=h.away x z; rw [this] at e; cases e),h.away,hB,Nat.le_trans hh (Nat.add_le_add_right h.hi _)⟩
structure Wst (C:Addr) (K:PySem.W.Frag) (sc:Addr) (ns:List Int) (H1:Hp) (ol bk:Addr) (os:List Str) (m:Nat) (H:Hp) (rs:List Rm) (F:Foot) (k0 k1 k2:Nat):Prop where
  led:LedH C H1 bk os m H rs F
  hS:SqL K H1 sc (ns.map V.int)
  hol:H1 ol = some (.lst (os.map V.str))
  ho:IsOrd os
  hW:IsWorld os
  hn:0 < (nowM os).length
  k0l:k0 < rs.length
  n1:OfNow os rs k1
  n2:OfNow os rs k2
section
variable {C:Addr} {K:PySem.W.Frag} {sc:Addr} {ns:List Int} {H1:Hp} {ol bk:Addr} {os:List Str} {m:Nat} {H H':Hp} {rs rs':List Rm} {F:Foot} {k0 k1 k2:Nat} {dl tl:Addr} {ds Ns js:List Nat}
theorem Wst.new (h:Wst C K sc ns H1 ol bk os m H rs F k0 k1 k2) (g:Same H H'):Wst C K sc ns H1 ol bk os m H' rs F k0 k1 k2:=⟨h.led.new g,h.hS,h.hol,h.ho,h.hW,h.hn,h.k0l,h.n1,h.n2⟩
theorem Wst.up {m':Nat} (h:Wst C K sc ns H1 ol bk os m H rs F k0 k1 k2) (g:m≤m'):Wst C K sc ns H1 ol bk os m' H rs F k0 k1 k2:=⟨h.led.up g,h.hS,h.hol,h.ho,h.hW,h.hn,h.k0l,h.n1,h.n2⟩
theorem Wst.B (h:Wst C K sc ns H1 ol bk os m H rs F k0 k1 k2):Bk os.length rs:=(bookLike C).bk h.led.bk
theorem Wst.grow {n:Nat} (h:Wst C K sc ns H1 ol bk os m H rs F k0 k1 k2) (aw:Away F H H') (hB:BookAt C H' bk os rs' F) (g:Grown rs rs') (hh:hiN os.length rs'≤hiN os.length rs + n):Wst C K sc ns H1 ol bk os (m + n) H' rs' F k0 k1 k2 :=
  ⟨h.led.rise aw hB hh,h.hS,h.hol,h.ho,h.hW,h.hn,Nat.lt_of_lt_of_le h.k0l g.len,h.n1.grown h.B g,h.n2.grown h.B g⟩
end
end Sen
namespace PySem
namespace F
theorem no_len_lri:typeLookup (.type "list_reverseiterator") "__len__" = pure none:=by rw [typeLookup_type,builtinLookup_eq_fast]; kernel_rfl
theorem hint_lri:typeLookup (.type "list_reverseiterator") "__length_hint__" = pure (some (.builtin "list_reverseiterator.__length_hint__")):=by rw [typeLookup_type,builtinLookup_eq_fast]; kernel_rfl
end F
end PySem
namespace L2
open PySem PySem.W PySem.Spec PyProof.Rows PySem.Calls PyProof.V
section
variable {prog:Program} {w:World} {A:Around} {E:Value→Shared→Prop} {s:Shared} {r l:Addr} {items:Array Value}
theorem rev_hint {Q:Bool→Shared→Prop} (hT:s.TypeIs (.ref r) "list_reverseiterator") (h:Q false s):wpAny (model prog w) A (Builtin.List.listLengthHint (.ref r)) Q E s:=by
  unfold Builtin.List.listLengthHint
  refine wpAny_bind (wpAny_specialOf hT PySem.F.no_len_lri ?_)
  refine wpAny_ite_split (fun hab=>absurd hab (by decide)) (fun _=>?_)
  refine wpAny_ite_split (fun hab=>absurd hab (by decide)) (fun _=>?_)
  refine wpAny_bind (wpAny_specialOf hT PySem.F.hint_lri ?_)
  generalize hid:("list_reverseiterator.__length_hint__" : String) = id0
  wp_delta
  rw [show splitId id0 = some ("list_reverseiterator", "__length_hint__") from by subst hid; decide +kernel]
  subst hid
  refine wpAny_bind (wpAny_isInstance (T := "list_reverseiterator") (b:=true) hT (by rw [isSubtype_type]; kernel_rfl) ?_)
  refine wpAny_ite_split (fun hab=>absurd hab (by decide)) (fun _=>?_)
  refine wpAny_ite_split (fun _=>?_) (fun hab=>absurd (by decide +kernel) hab)
  refine wpAny_ite_split (fun hab=>absurd hab (by decide +kernel)) (fun _=>?_)
  exact wpAny_pure h
theorem rev_extend {R:Result→Shared→Prop} (hh:A.handled = none) (hne:l≠r) (hit:s.heap.IsRevIter r l ((items.size:Int) - 1)) (hl:s.heap.IsList l items) (S:Addr) (hSr:S≠r) (hSl:S≠l) (res:Value) (c₀:Nat) (hS:s.heap.get? S = some { cls:=.type "list", data:=.seq #[] c₀ })
    (hR:∀ h' tk acc' c',(∀ b o,b≠S→b≠r→s.heap.get? b = some o→h'.get? b = some o)→h'.get? S = some { cls:=.type "list", dict:=none,data:=.seq acc' c',slots:=#[] }→ItemsOf (fun i v=>items[items.size - 1 - i]? = some v) acc' items.size→R (.ok (.ret res)) { s with heap:=h',toks:=tk }) (hn:items.size≤sizeLine) :
    wpAny (model prog w) A.in1 (Builtin.List.listExtendWith (.ref S) (.ref r) res)
      (fun fin s'=>match fin with | .done f=>R (.ok f) s' | .again c'=>c'.quiet = true∧codeAny (model prog w) A c' R s') (fun e s'=>R (.error e) s') s:=by
  have hSf:S ∉ [r,l]:=by simp only [List.mem_cons,List.not_mem_nil,or_false,not_or]; exact ⟨hSr,hSl⟩
  have W:=Walks.listRev (prog:=prog) (w:=w) (A:=A.in1) hh r l hne items
  have st0:(0≤items.size∧s.heap.IsRevIter r l ((items.size:Int) - 1 - ((0:Nat):Int))∧s.heap.IsList l items):=⟨Nat.zero_le _,by rw [show (items.size:Int) - 1 - ((0:Nat):Int) = (items.size:Int) - 1 by omega]; exact hit,hl⟩
  unfold Builtin.List.listExtendWith
  refine wpAny_bind (wpAny_typeOf (T := "list_reverseiterator") hit.typeIs ?_)
  have h1:Builtin.List.listSameRef (.ref S) (.ref r) = false:=by simp [Builtin.List.listSameRef,hSr]
  have h2:(Value.type "list_reverseiterator" == Value.type "list") = false:=by decide
  have h3:(Value.type "list_reverseiterator" == Value.type "tuple") = false:=by decide
  simp only [h1,h2,h3,Bool.or_false,Bool.false_eq_true,if_false]
  refine wpAny_bind (wpAny_pyIter_revIter hit ?_)
  refine wpAny_bind (wpAny_holding (rev_hint hit.typeIs ?_))
  refine wpAny_ite_split (fun hab=>absurd hab Bool.false_ne_true) (fun _=>wpAny_pure ⟨plainId_quiet PySem.F.plain_extend_loop _,?_⟩)
  refine codeAny_extend_loopS W.toS hn S hSf res items.size 0 _ #[] c₀ rfl (Nat.zero_le _) st0 hS (ItemsOf.nil _) fun s' acc' c' hm hS' hacc=>?_
  rw [Moved.eq_with hm]
  refine hR s'.heap s'.toks acc' c' (fun b o hb hbr e=>hm.heap b o (fun hmem=>?_) e) hS' hacc
  rcases List.mem_cons.mp hmem with e' | hmem
  · exact hb e'
  · exact hbr (List.mem_singleton.mp hmem)
theorem rev_call {Q:Value→Shared→Prop} (hh:A.handled = none) (hne:l≠r) (hit:s.heap.IsRevIter r l ((items.size:Int) - 1)) (hl:s.heap.IsList l items) (hn:items.size≤sizeLine)
    (hQ:∀ h' tk acc' c',(∀ b o,b≠r→s.heap.get? b = some o→h'.get? b = some o)→h'.get? s.heap.objs.size = some { cls:=.type "list", dict:=none,data:=.seq acc' c',slots:=#[] }→ItemsOf (fun i v=>items[items.size - 1 - i]? = some v) acc' items.size→Q (.ref s.heap.objs.size) { s with heap:=h',toks:=tk }) :
    wpAny (model prog w) A (call (.type "list") [.ref r]) Q E s:=by
  refine callType_codes (Q₁:=fun obj s₁=>obj = .ref s.heap.objs.size∧s₁ = { s with heap:=s.heap.push { cls:=.type "list", data:=.seq #[] } }) PySem.F.called_list (PySem.F.typeCall_list_1 _) PySem.F.entry_list_init
    (code_list_new _ ⟨rfl,rfl⟩) fun obj s₁ h₁=>?_
  obtain ⟨rfl,rfl⟩:=h₁
  have hS:(s.heap.push { cls:=.type "list", data:=.seq #[] }).get? s.heap.objs.size = some { cls:=.type "list", data:=.seq #[] }:=Heap.get?_push_size _ rfl
  obtain ⟨o1,ho1,_⟩:=id hit
  obtain ⟨o2,ho2,_⟩:=id hl
  have lr:r < s.heap.objs.size:=Heap.lt_size ho1
  have ll:l < s.heap.objs.size:=Heap.lt_size ho2
  refine ⟨⟨_,hS,rfl⟩,PySem.F.args_list_init_2 _ _,?_⟩
  show wpAny _ _ (do let old ← Builtin.List.listItems (.ref s.heap.objs.size); Builtin.List.listUpdate (.ref s.heap.objs.size) (fun _=>#[]); letGo old.toList.reverse; Builtin.List.listExtendWith (.ref s.heap.objs.size) (.ref r) .none) _ _ _
  refine wpAny_bind ?_
  unfold Builtin.List.listItems
  refine wpAny_bind (wpAny_seqItems hS rfl (wpAny_pure ?_))
  show wpAny _ _ (updateSeq s.heap.objs.size (fun _=>#[]) >>= fun _=>letGo (#[]:Array Value).toList.reverse >>= fun _=>Builtin.List.listExtendWith (.ref s.heap.objs.size) (.ref r) .none) _ _ _
  refine wpAny_bind (wpAny_updateSeq hS rfl ?_)
  have hS₂:=Heap.get?_update_self (Obj.mapSeq (fun _=>(#[]:Array Value))) hS rfl
  have oth:∀ b o,b≠s.heap.objs.size→s.heap.get? b = some o→((s.heap.push { cls:=.type "list", data:=.seq #[] }).update s.heap.objs.size (Obj.mapSeq (fun _=>(#[]:Array Value)))).get? b = some o :=
    fun b o hb e=>(Heap.get?_update_other _ _ (Ne.symm hb)).trans (Heap.get?_push_of_some _ e)
  refine wpAny_bind (wpAny_letGo ?_)
  refine rev_extend (A:=A.in1) hh hne (hit.at fun o e=>oth r o (Nat.ne_of_lt lr) e) (hl.at fun o e=>oth l o (Nat.ne_of_lt ll) e) s.heap.objs.size (Nat.ne_of_gt lr) (Nat.ne_of_gt ll) .none _ hS₂ (fun h' tk acc' c' hk hS' hacc=>?_) hn
  exact ⟨rfl,hQ h' tk acc' c' (fun b o hbr e=>hk b o (Nat.ne_of_lt (Heap.lt_size e)) hbr (oth b o (Nat.ne_of_lt (Heap.lt_size e)) e)) hS' hacc⟩
end
section
variable {X:Cx}
def tLRev (K:PySem.W.Frag) (ta:TA):TE:=fun σ H Q=>ta σ H fun vs H1=>∃ (a:Addr) (xs:List V),vs = [.ref a]∧SqL K H1 a xs∧∀ l,H1 l = none→Q (.ref l) (upd H1 l (.lst xs.reverse))
theorem pe_listRev {e:Expr} {ta:TA} {p p2 pos pos2:Pos} (hc:X.calm = true) (hg:Gl X "list") (hm:X.mg "list" = none) (hg2:Gl X "reversed") (hm2:X.mg "reversed" = none) (ha:PA X [e] ta)
    (hs:starEach [e] X.env = [(false,eval e X.env)]:=by rfl)
    (hs2:starEach [.Call (.Name "reversed" p2) [e] [] pos2] X.env = [(false,eval (.Call (.Name "reversed" p2) [e] [] pos2) X.env)]:=by rfl) :
    PE X (.Call (.Name "list" p) [.Call (.Name "reversed" p2) [e] [] pos2] [] pos) (tLRev X.K ta):=by
  intro pins s σ H Q I h
  refine wpAny_Call_Name_kw (ld_blt I hg hm bt_list ?_ (by decide) (by decide))
  refine PyProof.Rows.callWith_type1 ?_ hs2 rfl
  rw [hs2]
  show wpAny _ _ (spliced ((false,eval (.Call (.Name "reversed" p2) [e] [] pos2) X.env) :: [])) _ _ s
  refine Calls.spliced_cons ?_
  refine Call_ (ld_blt I hg2 hm2 (by rfl) (PyProof.Rows.callWith_type1 (thn (ha pos2 pins s σ H _ I h) fun us s1 ⟨vs,H1,I1,r1,q1⟩=>?_) hs rfl))
  obtain ⟨a,xs,e1,hq,q⟩:=q1
  subst e1
  obtain ⟨u,rfl,ru⟩:=vals1 r1
  cases ru
  obtain ⟨its,rv,pl,hz⟩:=I1.list hq
  have hlen:=rv.length
  refine call_reversed_list pl.isList (Calls.spliced_nil ?_)
  obtain ⟨oa,hoa,_⟩:=id pl.isList
  have la:a < s1.heap.objs.size:=Heap.lt_size hoa
  have es:(s1.heap.push (revObj a ((its.toArray.size:Int) - 1))).objs.size = s1.heap.objs.size + 1:=Heap.size_push ..
  refine rev_call (s:={ s1 with heap:=s1.heap.push (revObj a ((its.toArray.size:Int) - 1)) }) (l:=a) (items:=its.toArray) (I1.ok.hd hc) (Nat.ne_of_lt la) ⟨_,Heap.get?_push_size _ rfl,rfl,rfl⟩ (pl.isList.at fun o e=>Heap.get?_push_of_some _ e) (by rw [List.size_toArray]; omega) fun h' tk acc c kp hD hacc=>?_
  have kk:∀ b o,s1.heap.get? b = some o→h'.get? b = some o:=fun b o e=>kp b o (Nat.ne_of_lt (Heap.lt_size e)) (Heap.get?_push_of_some _ e)
  show EP X pins σ Q (.ref (s1.heap.push (revObj a ((its.toArray.size:Int) - 1))).objs.size) { s1 with heap:=h',toks:=tk }
  rw [es] at hD ⊢
  refine ⟨.ref (s1.heap.objs.size + 1),_,I1.laid (t':=tk) (o:=.lst xs.reverse) kk (Nat.le_succ _) ?_,rfl,q _ (I1.hok.fresh (Nat.le_succ _))⟩
  refine ⟨by rw [List.length_reverse]; exact hz,acc.toList,c,?_,by simpa using hD⟩
  have hsz:acc.size = xs.length:=by rw [hacc.1,List.size_toArray]; omega
  refine vals_get (by rw [List.length_reverse]; simp; omega) fun j v hv=>?_
  have hjl:j < xs.length:=by
    have:=(List.getElem?_eq_some_iff.mp hv).1
    rw [Array.length_toList] at this
    omega
  have hx:=hacc.2 j v (by rw [← Array.getElem?_toList]; exact hv)
  rw [List.size_toArray,List.getElem?_toArray] at hx
  obtain ⟨y,hy⟩:∃ y,xs[xs.length - 1 - j]? = some y:=⟨_,List.getElem?_eq_getElem (by omega)⟩
  obtain ⟨u2,hu2,ru2⟩:=rv.get hy
  rw [← hlen,hu2] at hx
  cases hx
  exact ⟨y,by rw [List.getElem?_reverse hjl]; exact hy,ru2⟩
end
end L2
namespace Sen
open PySem L2 Bdd
theorem add_or:∀ (a b:Nat),a &&& b = 0→a + b = a ||| b:=by
  intro a
  induction a using Nat.strongRecOn with
  | _ a ih =>
    intro b h
    by_cases z:a = 0
    · subst z; simp
    have h2:a / 2 &&& b / 2 = 0:=by
      have:=congrArg (· / 2) h
      simpa [Nat.and_div_two] using this
    have e:=ih (a / 2) (by omega) (b / 2) h2
    have d:(a ||| b) / 2 = a / 2 ||| b / 2:=Nat.or_div_two
    have t0:(a.testBit 0 && b.testBit 0) = false:=by
      rw [← Nat.testBit_and,h]; simp
    have t1:(a ||| b).testBit 0 = (a.testBit 0 || b.testBit 0):=Nat.testBit_or a b 0
    rw [Nat.testBit_zero,Nat.testBit_zero] at t0
    rw [Nat.testBit_zero,Nat.testBit_zero,Nat.testBit_zero] at t1
    have t1':(a ||| b) % 2 = 1↔(a % 2 = 1∨b % 2 = 1):=by rw [← Bool.decide_or] at t1; exact decide_eq_decide.mp t1
    have t0':¬ (a % 2 = 1∧b % 2 = 1):=by rw [← Bool.decide_and] at t0; exact of_decide_eq_false t0
    have m:(a ||| b) % 2 = a % 2 + b % 2:=by omega
    omega
section
variable {os:List Str}
theorem aft_iff (t f:Nat→Bool) (b:Nat):aftB os t f b = true↔∃ d,(∀ i,i ∉ nowP os→d.testBit i = (mv ((thenP os).zip (nowP os)) b).testBit i)∧f d = true∧t d = true:=by
  unfold aftB
  rw [movW_eq,anyW_iff]
  simp only [Bool.and_eq_true]
theorem bef_iff (t f:Nat→Bool) (b:Nat):befB os t f b = true↔∃ e,(∀ i,i ∉ thenP os→e.testBit i = b.testBit i)∧f (mv ((nowP os).zip (thenP os)) e) = true∧t e = true:=by
  unfold befB
  rw [anyW_iff]
  simp only [Bool.and_eq_true,movW_eq]
theorem bool_or {a b c:Bool} (h:a = true↔b = true∨c = true):a = (b || c):=by
  rw [Bool.eq_iff_iff,Bool.or_eq_true]; exact h
theorem aft_or (t f g:Nat→Bool) (b:Nat):aftB os t (fun c=>f c || g c) b = (aftB os t f b || aftB os t g b):=by
  refine bool_or ?_
  rw [aft_iff,aft_iff,aft_iff]
  constructor
  · rintro ⟨d,h1,h2,h3⟩
    rcases (Bool.or_eq_true _ _).mp h2 with z | z
    · exact .inl ⟨d,h1,z,h3⟩
    · exact .inr ⟨d,h1,z,h3⟩
  · rintro (⟨d,h1,h2,h3⟩ | ⟨d,h1,h2,h3⟩)
    · exact ⟨d,h1,(Bool.or_eq_true _ _).mpr (.inl h2),h3⟩
    · exact ⟨d,h1,(Bool.or_eq_true _ _).mpr (.inr h2),h3⟩
theorem aft_steps (t s f:Nat→Bool) (b:Nat):aftB os (fun c=>t c || s c) f b = (aftB os t f b || aftB os s f b):=by
  refine bool_or ?_
  rw [aft_iff,aft_iff,aft_iff]
  constructor
  · rintro ⟨d,h1,h2,h3⟩
    rcases (Bool.or_eq_true _ _).mp h3 with z | z
    · exact .inl ⟨d,h1,h2,z⟩
    · exact .inr ⟨d,h1,h2,z⟩
  · rintro (⟨d,h1,h2,h3⟩ | ⟨d,h1,h2,h3⟩)
    · exact ⟨d,h1,h2,(Bool.or_eq_true _ _).mpr (.inl h3)⟩
    · exact ⟨d,h1,h2,(Bool.or_eq_true _ _).mpr (.inr h3)⟩
theorem aft_none (t:Nat→Bool) (b:Nat):aftB os t (fun _=>false) b = false:=by
  cases e:aftB os t (fun _=>false) b with
  | false=>rfl
  | true =>
    obtain ⟨d,_,h,_⟩:=(aft_iff _ _ _).mp e
    cases h
theorem lt_bits {n b:Nat} (h:∀ i,n≤i→b.testBit i = false):b < 2 ^ n:=Nat.lt_pow_two_of_testBit b h
theorem bits_lt {n b i:Nat} (h:b < 2 ^ n) (hi:n≤i):b.testBit i = false:=Nat.testBit_lt_two_pow (Nat.lt_of_lt_of_le h (Nat.pow_le_pow_right (by decide) hi))
theorem free_eq {n:Nat}:∀ (ps:List Nat) {f:Nat→Bool},(∀ p∈ps,p < n∧Free n f p)→∀ {b c:Nat},b < 2 ^ n→c < 2 ^ n→(∀ i,i ∉ ps→b.testBit i = c.testBit i)→f b = f c
  | [],f,_,b,c,_,_,h=>by rw [nat_ext fun i=>h i (by simp)]
  | p :: ps,f,hf,b,c,hb,hc,h=>by
    obtain ⟨pn,fr⟩:=hf p List.mem_cons_self
    rw [← fr b hb (c.testBit p)]
    refine free_eq ps (fun q hq=>hf q (List.mem_cons_of_mem _ hq)) (putBit_lt hb pn) hc fun i hi=>?_
    rw [putBit_bit]
    by_cases e:i = p
    · rw [if_pos e,e]
    · rw [if_neg e]; exact h i fun y=>(List.mem_cons.mp y).elim e hi
section
variable (ho:IsOrd os) (hW:IsWorld os)
include ho hW
theorem nowM_nd:(nowM os).Nodup:=by
  have e:(prs.map (·.1)).Nodup:=by decide +kernel
  exact List.Nodup.sublist (List.Sublist.map _ (List.filter_sublist)) e
theorem nowP_nd:(nowP os).Nodup:=by
  unfold nowP
  refine List.pairwise_map.mpr ((nowM_nd ho hW).imp_of_mem fun {a b} ha hb ne e=>ne ?_)
  exact ix_inj' (nowM_sub ha).1 (nowM_sub hb).1 e
theorem mvT (b:Nat):(∀ x∈(thenP os).zip (nowP os),(mv ((thenP os).zip (nowP os)) b).testBit x.1 = b.testBit x.2)∧∀ i,i ∉ thenP os→(mv ((thenP os).zip (nowP os)) b).testBit i = b.testBit i:=by
  have e1:((thenP os).zip (nowP os)).map (·.1) = thenP os:=List.map_fst_zip (by unfold thenP nowP; rw [List.length_map,List.length_map,hW.len]; exact Nat.le_refl _)
  have z:=mv_bit ((thenP os).zip (nowP os)) b (by rw [e1]; exact thenP_nd ho) fun x hx y hy=>now_then_ne ho (List.of_mem_zip hx).2 (List.of_mem_zip hy).1
  rw [e1] at z
  exact z
theorem mvN (b:Nat):(∀ x∈(nowP os).zip (thenP os),(mv ((nowP os).zip (thenP os)) b).testBit x.1 = b.testBit x.2)∧∀ i,i ∉ nowP os→(mv ((nowP os).zip (thenP os)) b).testBit i = b.testBit i:=by
  have e1:((nowP os).zip (thenP os)).map (·.1) = nowP os:=List.map_fst_zip (by unfold thenP nowP; rw [List.length_map,List.length_map,hW.len]; exact Nat.le_refl _)
  have z:=mv_bit ((nowP os).zip (thenP os)) b (by rw [e1]; exact nowP_nd ho hW) fun x hx y hy=>Ne.symm (now_then_ne ho (List.of_mem_zip hy).1 (List.of_mem_zip hx).2)
  rw [e1] at z
  exact z
theorem zip_then {i:Nat} (h:i∈thenP os):∃ j,(i,j)∈(thenP os).zip (nowP os):=by
  obtain ⟨m,hm,e⟩:=List.mem_iff_getElem.mp h
  have l:m < (nowP os).length:=by
    have:(nowP os).length = (thenP os).length:=by unfold thenP nowP; rw [List.length_map,List.length_map,hW.len]
    omega
  refine ⟨(nowP os)[m],List.mem_iff_getElem.mpr ⟨m,by rw [List.length_zip]; omega,?_⟩⟩
  rw [List.getElem_zip,e]
theorem zip_now {i:Nat} (h:i∈nowP os):∃ j,(i,j)∈(nowP os).zip (thenP os):=by
  obtain ⟨m,hm,e⟩:=List.mem_iff_getElem.mp h
  have l:m < (thenP os).length:=by
    have:(nowP os).length = (thenP os).length:=by unfold thenP nowP; rw [List.length_map,List.length_map,hW.len]
    omega
  refine ⟨(thenP os)[m],List.mem_iff_getElem.mpr ⟨m,by rw [List.length_zip]; omega,?_⟩⟩
  rw [List.getElem_zip,e]
theorem zip_turn {i j:Nat}:(i,j)∈(thenP os).zip (nowP os)↔(j,i)∈(nowP os).zip (thenP os):=by
  constructor
  · intro h
    obtain ⟨m,hm,e⟩:=List.mem_iff_getElem.mp h
    rw [List.length_zip] at hm
    rw [List.getElem_zip,Prod.mk.injEq] at e
    refine List.mem_iff_getElem.mpr ⟨m,by rw [List.length_zip]; omega,?_⟩
    rw [List.getElem_zip,e.1,e.2]
  · intro h
    obtain ⟨m,hm,e⟩:=List.mem_iff_getElem.mp h
    rw [List.length_zip] at hm
    rw [List.getElem_zip,Prod.mk.injEq] at e
    refine List.mem_iff_getElem.mpr ⟨m,by rw [List.length_zip]; omega,?_⟩
    rw [List.getElem_zip,e.1,e.2]
theorem aft_bef {t f g:Nat→Bool} (hf:∀ p∈thenP os,Free os.length f p) (hg:∀ p∈thenP os,Free os.length g p):(∃ b,b < 2 ^ os.length∧aftB os t f b = true∧g b = true)↔∃ b,b < 2 ^ os.length∧f b = true∧befB os t g b = true:=by
  have hf':∀ p∈thenP os,p < os.length∧Free os.length f p:=fun p hp=>⟨thenP_lt p hp,hf p hp⟩
  have hg':∀ p∈thenP os,p < os.length∧Free os.length g p:=fun p hp=>⟨thenP_lt p hp,hg p hp⟩
  constructor
  · rintro ⟨b,hb,ha,gb⟩
    obtain ⟨d,h1,fd,td⟩:=(aft_iff _ _ _).mp ha
    obtain ⟨m1,m2⟩:=mvT ho hW b
    obtain ⟨k1,k2⟩:=mvN ho hW d
    have dl:d < 2 ^ os.length:=lt_bits fun i hi=>by
      have a1:i ∉ nowP os:=fun z=>by have:=nowP_lt i z; omega
      have a2:i ∉ thenP os:=fun z=>by have:=thenP_lt i z; omega
      rw [h1 i a1,m2 i a2]; exact bits_lt hb hi
    have ml:mv ((nowP os).zip (thenP os)) d < 2 ^ os.length:=lt_bits fun i hi=>by
      have a1:i ∉ nowP os:=fun z=>by have:=nowP_lt i z; omega
      rw [k2 i a1]; exact bits_lt dl hi
    refine ⟨d,dl,fd,(bef_iff _ _ _).mpr ⟨d,fun _ _=>rfl,?_,td⟩⟩
    rw [free_eq (thenP os) hg' ml hb fun i hi=>?_]
    · exact gb
    by_cases c:i∈nowP os
    · obtain ⟨j,hj⟩:=zip_now ho hW c
      rw [k1 _ hj]
      have tj:=(List.of_mem_zip hj).2
      have nj:j ∉ nowP os:=fun z=>now_then_ne ho z tj rfl
      show d.testBit j = b.testBit i
      rw [h1 j nj,m1 _ ((zip_turn ho hW).mpr hj)]
    · rw [k2 i c,h1 i c,m2 i hi]
  · rintro ⟨c,hc,fc,hb⟩
    obtain ⟨e,h1,ge,te⟩:=(bef_iff _ _ _).mp hb
    obtain ⟨k1,k2⟩:=mvN ho hW e
    have el:e < 2 ^ os.length:=lt_bits fun i hi=>by
      have a2:i ∉ thenP os:=fun z=>by have:=thenP_lt i z; omega
      rw [h1 i a2]; exact bits_lt hc hi
    have ml:mv ((nowP os).zip (thenP os)) e < 2 ^ os.length:=lt_bits fun i hi=>by
      have a1:i ∉ nowP os:=fun z=>by have:=nowP_lt i z; omega
      rw [k2 i a1]; exact bits_lt el hi
    obtain ⟨m1,m2⟩:=mvT ho hW (mv ((nowP os).zip (thenP os)) e)
    refine ⟨_,ml,(aft_iff _ _ _).mpr ⟨e,fun i hi=>?_,?_,te⟩,ge⟩
    · by_cases z:i∈thenP os
      · obtain ⟨j,hj⟩:=zip_then ho hW z
        rw [m1 _ hj]
        show e.testBit i = _
        rw [k1 _ ((zip_turn ho hW).mp hj)]
      · rw [m2 i z,k2 i hi]
    · rw [free_eq (thenP os) hf' el hc h1]; exact fc
end
theorem free_bef (t f:Nat→Bool):∀ p∈thenP os,Free os.length (befB os t f) p:=by
  intro p hp b hb v
  have key:∀ {x y:Nat},(∀ i,i≠p→x.testBit i = y.testBit i)→befB os t f x = true→befB os t f y = true:=fun {x y} h e=>by
    obtain ⟨z,h1,h2⟩:=(bef_iff _ _ _).mp e
    exact (bef_iff _ _ _).mpr ⟨z,fun i hi=>by rw [h1 i hi]; exact h i fun q=>hi (by rw [q]; exact hp),h2⟩
  rw [Bool.eq_iff_iff]
  constructor
  · exact key fun i hi=>by rw [putBit_bit,if_neg hi]
  · exact key fun i hi=>by rw [putBit_bit,if_neg hi]
variable {t:Nat→Bool}
theorem rnd_step (f:Nat→Bool) (i b:Nat):(rnd os t f (i + 1)).2 b = ((rnd os t f i).2 b || (rnd os t f i).1 b):=rfl
theorem rnd_up (f:Nat→Bool) {i j:Nat} (h:i≤j) {b:Nat} (e:(rnd os t f i).2 b = true):(rnd os t f j).2 b = true:=by
  induction h with
  | refl=>exact e
  | step _ ih=>rw [rnd_step,ih]; rfl
theorem rnd_led (f:Nat→Bool):∀ (i b:Nat),aftB os t (rnd os t f i).2 b = true→((rnd os t f i).2 b || (rnd os t f i).1 b) = true
  | 0,b,h=>by
    have:=aft_none (os:=os) t b
    rw [show (rnd os t f 0).2 = fun _=>false from rfl,this] at h
    cases h
  | i + 1,b,h=>by
    have e:aftB os t (rnd os t f (i + 1)).2 b = (aftB os t (rnd os t f i).2 b || aftB os t (rnd os t f i).1 b):=aft_or t _ _ b
    rw [e] at h
    rw [rnd_step]
    rcases (Bool.or_eq_true _ _).mp h with z | z
    · rw [rnd_led f i b z]; rfl
    · show (((rnd os t f i).2 b || (rnd os t f i).1 b) || (aftB os t (rnd os t f i).1 b && !((rnd os t f i).2 b || (rnd os t f i).1 b))) = true
      rw [z]
      cases ((rnd os t f i).2 b || (rnd os t f i).1 b) <;> rfl
theorem Rnds.start {f:Nat→Bool} {Ns:List Nat} (h:Rnds os t f Ns) {b:Nat} (hb:b < 2 ^ os.length) (e:f b = true):(rnd os t f Ns.length).2 b = true:=by
  rcases Nat.eq_zero_or_pos Ns.length with z | z
  · have fin:=h.fin b
    rw [z] at fin
    rw [Nat.zero_testBit,decide_eq_true hb,Bool.true_and] at fin
    have:f b = false:=fin.symm
    rw [e] at this; cases this
  · exact rnd_up f z (by show (false || f b) = true; rw [e]; rfl)
theorem Rnds.closed {f:Nat→Bool} {Ns:List Nat} (h:Rnds os t f Ns) {b:Nat} (hb:b < 2 ^ os.length) (e:aftB os t (rnd os t f Ns.length).2 b = true):(rnd os t f Ns.length).2 b = true:=by
  have z:=rnd_led f _ b e
  have fin:=h.fin b
  rw [Nat.zero_testBit,decide_eq_true hb,Bool.true_and] at fin
  rw [← fin,Bool.or_false] at z
  exact z
theorem Rnds.told {f:Nat→Bool} {Ns:List Nat} (h:Rnds os t f Ns):∀ i,i≤Ns.length→IsTab os.length (Ns.take i).sum (rnd os t f i).2
  | 0,_=>fun b=>by
    show Nat.testBit 0 b = (_ && false)
    rw [Nat.zero_testBit,Bool.and_false]
  | i + 1,hi=>by
    have ih:=Rnds.told h i (by omega)
    have e:Ns[i]? = some Ns[i]:=List.getElem?_eq_getElem (by omega)
    obtain ⟨tb,_⟩:=h.tab i _ e
    rw [List.take_succ_eq_append_getElem (by omega),List.sum_append]
    have z:(Ns.take i).sum &&& Ns[i] = 0:=nat_ext fun b=>by
      rw [Nat.testBit_and,ih b,tb b,Nat.zero_testBit]
      cases c:(rnd os t f i).1 b with
      | false=>rw [Bool.and_false,Bool.and_false]
      | true=>rw [rnd_apart f i b c,Bool.and_false,Bool.false_and]
    rw [show [Ns[i]].sum = Ns[i] by simp,add_or _ _ z]
    exact or_tab ih tb
theorem Rnds.sum {f:Nat→Bool} {Ns:List Nat} (h:Rnds os t f Ns):IsTab os.length Ns.sum (rnd os t f Ns.length).2:=by
  have z:=h.told Ns.length (Nat.le_refl _)
  rwa [List.take_length] at z
theorem rnd_some (f:Nat→Bool):∀ (i b:Nat),(rnd os t f i).2 b = true↔∃ j,j < i∧(rnd os t f j).1 b = true
  | 0,b=>by
    constructor
    · intro h; cases h
    · rintro ⟨j,h,_⟩; omega
  | i + 1,b=>by
    rw [rnd_step,Bool.or_eq_true,rnd_some f i b]
    constructor
    · rintro (⟨j,h1,h2⟩ | h)
      · exact ⟨j,by omega,h2⟩
      · exact ⟨i,by omega,h⟩
    · rintro ⟨j,h1,h2⟩
      rcases (by omega:j < i∨j = i) with z | z
      · exact .inl ⟨j,z,h2⟩
      · rw [z] at h2; exact .inr h2
theorem bef_mono' (ho:IsOrd os) (hW:IsWorld os) {f g:Nat→Bool} {b:Nat} (hb:b < 2 ^ os.length) (h:∀ c,c < 2 ^ os.length→f c = true→g c = true) (e:befB os t f b = true):befB os t g b = true:=by
  obtain ⟨x,h1,h2,h3⟩:=(bef_iff _ _ _).mp e
  have xl:x < 2 ^ os.length:=lt_bits fun i hi=>by
    have a2:i ∉ thenP os:=fun z=>by have:=thenP_lt i z; omega
    rw [h1 i a2]; exact bits_lt hb hi
  have ml:mv ((nowP os).zip (thenP os)) x < 2 ^ os.length:=lt_bits fun i hi=>by
    have a1:i ∉ nowP os:=fun z=>by have:=nowP_lt i z; omega
    rw [(mvN ho hW x).2 i a1]; exact bits_lt xl hi
  exact (bef_iff _ _ _).mpr ⟨x,h1,h _ ml h2,h3⟩
theorem and_tab {n N M:Nat} {f g:Nat→Bool} (a:IsTab n N f) (b:IsTab n M g):IsTab n (N &&& M) fun c=>f c && g c:=fun c=>by
  rw [Nat.testBit_and,a c,b c]
  cases decide (c < 2 ^ n) <;> simp
theorem tab_off {n N M:Nat} {f g:Nat→Bool} (a:IsTab n N f) (b:IsTab n M g) (h:N≠M):∃ c,c < 2 ^ n∧f c≠g c:=by
  refine Classical.byContradiction fun no=>h (tab_inj a b fun c hc=>?_)
  exact Classical.byContradiction fun e=>no ⟨c,hc,e⟩
theorem tab_on {n N:Nat} {f g:Nat→Bool} (a:IsTab n N f) (b:IsTab n N g) {c:Nat} (hc:c < 2 ^ n):f c = g c:=by
  have x:=a c
  rw [b c,decide_eq_true hc,Bool.true_and,Bool.true_and] at x
  exact x.symm
theorem sumN_cast:∀ Ns:List Nat,(Ns.map fun p=>((p:Nat):Int)).sum = ((Ns.sum:Nat):Int)
  | []=>rfl
  | n :: Ns=>by
    rw [List.map_cons,List.sum_cons,List.sum_cons,sumN_cast Ns]
    rfl
theorem natW_ints (Ns:List Nat):natW Ns = (Ns.map fun p=>((p:Nat):Int)).map V.int:=by
  unfold natW
  rw [List.map_map]
  rfl
end
section
variable (C:Addr)
def spReached:Sp:=fun vs H Q _=>∃ (b:Addr) (os:List Str) (rs:List Rm) (F:Foot) (k j:Nat),vs = [.ref b,.int (k:Nat),.int (j:Nat)]∧BookAt C H b os rs F∧rs.length≤8000000∧IsWorld os∧k < rs.length∧OfNow os rs j ∧
  ∀ Ns:List Nat,Rnds os (tB rs k) (tB rs j) Ns→Ns.length≤256→GrowH C b os H rs F (fun r=>(rnd os (tB rs k) (tB rs j) Ns.length).2 (bits r os.length)) Q
structure Stay (os:List Str) (t f g:Nat→Bool):Prop where
  sub:∀ b,b < 2 ^ os.length→g b = true→f b = true
  led:∀ b,b < 2 ^ os.length→g b = true→befB os t g b = true
  fre:∀ p∈thenP os,Free os.length g p
  top:∀ h:Nat→Bool,(∀ b,b < 2 ^ os.length→h b = true→f b = true∧befB os t h b = true)→∀ b,b < 2 ^ os.length→h b = true→g b = true
def spStays:Sp:=fun vs H Q _=>∃ (b:Addr) (os:List Str) (rs:List Rm) (F:Foot) (k j:Nat),vs = [.ref b,.int (k:Nat),.int (j:Nat)]∧BookAt C H b os rs F∧rs.length≤8000000∧IsWorld os∧k < rs.length∧OfNow os rs j ∧
  ∀ g:Nat→Bool,Stay os (tB rs k) (tB rs j) g→GrowH C b os H rs F (fun r=>g (bits r os.length)) Q
end
end Sen
namespace L2
open PySem PySem.W PySem.Spec PyProof.Rows PySem.Calls PyProof.V
def Itv (K:PySem.W.Frag) (a:Addr) (n:Nat):It :=
  ⟨fun i H=>i < n∧∃ xs,SqL K H a xs∧xs.length = n,fun i H x H'=>H' = H∧∀ xs,SqL K H a xs→xs[n - 1 - i]? = some x,fun i H=>n≤i⟩
theorem turn_rev {P:Program} {w:World} {K:PySem.W.Frag} {tg:Expr} (a it:Addr) (n:Nat):Turn P w K tg (Itv K a n) [it] it (fun i h=>i≤n∧h.IsRevIter it a ((n:Int) - 1 - (i:Int))) where
  mem:=by simp
  obj:=fun i h st b hb=>by
    have e:b = it:=by simpa using hb
    subst e
    obtain ⟨o,e,c,d⟩:=st.2
    exact ⟨o,e,fun v z=>by rw [d] at z; cases z⟩
  keep:=fun i h h' st k=>⟨st.1,st.2.at fun o e=>k it (by simp) o e⟩
  item:=by
    intro X hP hw hK hc i pins s σ H E I hf st hg
    subst hP hw hK
    obtain ⟨hi,xs,hq,hn⟩:=hg
    obtain ⟨its,rv,p,hz⟩:=I.list hq
    have hx:xs[n - 1 - i]? = some (xs[n - 1 - i]'(by omega)):=List.getElem?_eq_getElem (by omega)
    obtain ⟨u,hu,ru⟩:=rv.get hx
    obtain ⟨f0,f1,f2,f3,f4,f5⟩:=hf it (by simp)
    have e:(n:Int) - 1 - (i:Int) = ((n - 1 - i:Nat):Int):=by omega
    have st2:=st.2
    rw [e] at st2
    refine wpAny_pyNext_rev_item st2 p.isList (x:=u) (by simpa using hu) fun h' st' sb=>?_
    have I1:Inv X pins σ H { s with heap:=h' }:=I.turned (t':=s.toks) (fun b o hb e=>(sb.2 b hb).trans e) f0 f1 f3 f4 f5
    have e2:((n - 1 - i:Nat):Int) - 1 = (n:Int) - 1 - ((i + 1:Nat):Int):=by omega
    rw [e2] at st'
    obtain ⟨o,e,c,d⟩:=id st'
    exact ⟨u,rfl,go_of (s:={ s with heap:=h' }) e c d (by decide) ⟨_,H,I1,ru,⟨rfl,fun ys hy=>by rw [I.list_inj hy hq]; exact hx⟩,⟨hi,st'⟩,fun b hb=>(hf b hb).1⟩⟩
  done:=by
    intro X hP hw hK hc i pins s σ H E I hf st hg
    subst hP hw hK
    obtain ⟨f0,f1,f2,f3,f4,f5⟩:=hf it (by simp)
    have hg:n≤i:=hg
    have e:(n:Int) - 1 - (i:Int) = -1:=by have:=st.1; omega
    have st2:=st.2
    rw [e] at st2
    exact wpAny_pyNext_rev_end (I.ok.hd hc) st2 fun h' eb=>⟨rfl,I.turned (t':=s.toks) (fun b o hb e=>eb b o hb e) f0 f1 f3 f4 f5⟩
  self:=fun _ _ _ _ _ st h=>wpAny_pyIter_revIter st.2 h
section
variable {X:Cx} {tg:Expr}
def iRev (K:PySem.W.Frag) (ta:TA):TI:=fun σ H R=>ta σ H fun vs H1=>∃ (a:Addr) (xs:List V),vs = [.ref a]∧SqL K H1 a xs∧R (Itv K a xs.length) H1
theorem pi_rev {e:Expr} {ta:TA} {p pos:Pos} (hg:Gl X "reversed") (hm:X.mg "reversed" = none) (ha:PA X [e] ta) (hs:starEach [e] X.env = [(false,eval e X.env)]:=by rfl):PI X tg (.Call (.Name "reversed" p) [e] [] pos) (iRev X.K ta):=by
  intro pins s σ H R I h
  refine Call_ (ld_blt I hg hm (by rfl) (PyProof.Rows.callWith_type1 (thn (ha pos pins s σ H _ I h) fun us s1 ⟨vs,H1,I1,r1,q1⟩=>?_) hs rfl))
  obtain ⟨a,xs,e1,hq,q⟩:=q1
  subst e1
  obtain ⟨u,rfl,ru⟩:=vals1 r1
  cases ru
  obtain ⟨its,rv,pl,hz⟩:=I1.list hq
  have hlen:=rv.length
  refine call_reversed_list pl.isList ?_
  have hit:(s1.heap.push (revObj a ((its.toArray.size:Int) - 1))).IsRevIter s1.heap.objs.size a ((its.toArray.size:Int) - 1):=⟨_,Heap.get?_push_size _ rfl,rfl,rfl⟩
  refine wpAny_pyIter_revIter (s:={ s1 with heap:=s1.heap.push (revObj a ((its.toArray.size:Int) - 1)) }) hit ?_
  refine ⟨s1.heap.objs.size,[s1.heap.objs.size],_,_,H1,rfl,I1.kept (t':=s1.toks) fun b o e=>Heap.get?_push_of_some _ e,turn_rev a _ xs.length,⟨Nat.zero_le _,?_⟩,fun b hb=>?_,q⟩
  · have e:((its.toArray.size:Nat):Int) - 1 = (xs.length:Int) - 1 - ((0:Nat):Int):=by rw [List.size_toArray]; omega
    show (s1.heap.push (revObj a ((its.toArray.size:Int) - 1))).IsRevIter s1.heap.objs.size a ((xs.length:Int) - 1 - ((0:Nat):Int))
    rw [← e]
    exact hit
  · have e:b = s1.heap.objs.size:=by simpa using hb
    subst e
    exact I1.fpOk (Nat.le_refl _) (I1.hok.fresh (Nat.le_refl _))
end
theorem for_rev {K:PySem.W.Frag} {a:Addr} {xs:List V} {g:TG} {tb:TS} {D:Ends} {σ:St} {H:Hp} (Pv:Nat→St→Hp→Prop) (h0:Pv 0 σ H) (hl:∀ i σ H,i≤xs.length→Pv i σ H→SqL K H a xs)
    (hs:∀ i x σ H,i < xs.length→xs[xs.length - 1 - i]? = some x→Pv i σ H→g x σ H fun σ2 H2=>tb { D with nx:=Pv (i + 1),ct:=Pv (i + 1),bk:=D.nx } σ2 H2) (hd:∀ σ H,Pv xs.length σ H→D.nx σ H) :
    ∃ W:Nat→Nat→St→Hp→Prop,(∃ m,W 0 m σ H)∧∀ i m σ H,W i m σ H →
      ((Itv K a xs.length).stop i H∧D.nx σ H)∨((Itv K a xs.length).go i H∧∃ N:St→Hp→Prop,(∀ σ' H',N σ' H'→∃ m',m' < m∧W (i + 1) m' σ' H')∧∀ x H',(Itv K a xs.length).yld i H x H'→g x σ H' fun σ2 H2=>tb { D with nx:=N,ct:=N,bk:=D.nx } σ2 H2):=by
  refine ⟨fun i m σ H=>m = xs.length - i∧i≤xs.length∧Pv i σ H,⟨xs.length,by simp,Nat.zero_le _,h0⟩,?_⟩
  rintro i m σ H ⟨rfl,hi,p⟩
  have q:=hl i σ H hi p
  by_cases hlt:i < xs.length
  · refine .inr ⟨⟨hlt,xs,q,rfl⟩,Pv (i + 1),fun σ' H' p'=>⟨xs.length - (i + 1),by omega,rfl,hlt,p'⟩,fun x H' y=>?_⟩
    obtain ⟨e,y⟩:=y
    subst e
    exact hs i x σ _ hlt (y xs q) p
  · have e:i = xs.length:=by omega
    subst e
    exact .inl ⟨Nat.le_refl _,hd σ H p⟩
end L2
namespace Sen
open PySem L2 Bdd
def hav (l:List (Nat × Bool)) (b:Nat):Bool:=l.all fun x=>b.testBit x.1 == x.2
def wayR (os:List Str) (t:Nat→Bool):List (Nat→Bool)→List Bool→List (List Bool)
  | [],r=>[r]
  | f :: fs,r=>r :: wayR os t fs (fvP os.length (fun b=>f b && befB os t (hav ((nowP os).zip r)) b) (nowP os))
theorem fvP_len (n:Nat):∀ (f:Nat→Bool) (ps:List Nat),(fvP n f ps).length = ps.length
  | _,[]=>rfl
  | f,p :: ps=>by
    show (fvP n _ ps).length + 1 = _
    rw [fvP_len n _ ps]; rfl
theorem pd_rev {α β:Type} {R:α→β→Prop}:∀ {xs:List α} {ys:List β},Paired R xs ys→Paired R xs.reverse ys.reverse
  | _,_,.nil=>.nil
  | _,_,.cons h hs=>by
    rw [List.reverse_cons,List.reverse_cons]
    exact pd_app (pd_rev hs) (.cons h .nil)
section
variable (C:Addr) (K:PySem.W.Frag)
def spRowsHaving:Sp:=fun vs H Q _=>∃ (pl rl:Addr) (n:Nat) (ps:List Nat) (r:List Bool),vs = [.ref pl,.ref rl,.int (n:Nat)]∧n≤8∧SqL K H pl (natW ps)∧SqL K H rl (rowV r)∧(∀ p∈ps,p < n)∧ps.length = r.length∧ps.length≤8∧∀ (R:Nat) (H':Hp),Same H H'→IsTab n R (hav (ps.zip r))→Q (.int (R:Nat)) H'
def spFirstNow:Sp:=fun vs H Q _=>∃ (b:Addr) (os:List Str) (rs:List Rm) (F:Foot) (N:Nat) (f:Nat→Bool),vs = [.ref b,.int (N:Nat)]∧BookAt C H b os rs F∧IsTab os.length N f∧∀ (l:Addr) (H':Hp),Same H H'→H l = none→H' l = some (.lst (rowV (fvP os.length f (nowP os))))→Q (.ref l) H'
def spOnly:Sp:=fun vs H Q _=>∃ (b rl:Addr) (os:List Str) (rs:List Rm) (F:Foot) (r:List Bool),vs = [.ref b,.ref rl]∧BookAt C H b os rs F∧SqL K H rl (rowV r)∧(nowP os).length = r.length∧∀ (R:Nat) (H':Hp),Same H H'→IsTab os.length R (hav ((nowP os).zip r))→Q (.int (R:Nat)) H'
def RowA (H:Hp) (p:Addr) (r:List Bool):Prop:=H p = some (.lst (rowV r))
def spWayThrough:Sp:=fun vs H Q _=>∃ (b al:Addr) (os:List Str) (rs:List Rm) (F:Foot) (k N:Nat) (Ns:List Nat) (f:Nat→Bool) (fs:List (Nat→Bool)),vs = [.ref b,.int (k:Nat),.ref al,.int (N:Nat)]∧BookAt C H b os rs F∧IsWorld os∧k < rs.length∧SqL K H al (natW Ns)∧Ns.length≤256∧Paired (IsTab os.length) Ns fs∧IsTab os.length N f ∧
  ∀ (l:Addr) (H':Hp) (qs:List Addr),Same H H'→H l = none→H' l = some (.lst (qs.map V.ref))→Paired (RowA H') qs (wayR os (tB rs k) fs.reverse (fvP os.length f (nowP os))).reverse→Q (.ref l) H'
def Meet (os:List Str) (t f g:Nat→Bool) (i:Nat):Prop:=(∃ b,b < 2 ^ os.length∧(rnd os t f i).1 b = true∧g b = true)∧∀ j,j < i→∀ b,b < 2 ^ os.length→(rnd os t f j).1 b = true→g b = false
def spWayTo:Sp:=fun vs H Q _=>∃ (b:Addr) (os:List Str) (rs:List Rm) (F:Foot) (k i j:Nat),vs = [.ref b,.int (k:Nat),.int (i:Nat),.int (j:Nat)]∧BookAt C H b os rs F∧IsWorld os∧k < rs.length∧OfNow os rs i∧OfNow os rs j ∧
  (∀ (H':Hp) (Ns:List Nat),Same H H'→Rnds os (tB rs k) (tB rs i) Ns→(∀ m,m < Ns.length→∀ b,b < 2 ^ os.length→(rnd os (tB rs k) (tB rs i) m).1 b = true→tB rs j b = false)→Q .non H') ∧
  ∀ (l:Addr) (H':Hp) (qs:List Addr) (Ns:List Nat) (m:Nat),Same H H'→H l = none→H' l = some (.lst (qs.map V.ref))→Rnds os (tB rs k) (tB rs i) Ns→m < Ns.length→Meet os (tB rs k) (tB rs i) (tB rs j) m →
    Paired (RowA H') qs (wayR os (tB rs k) ((List.range m).map fun d=>(rnd os (tB rs k) (tB rs i) d).1).reverse (fvP os.length (fun b=>(rnd os (tB rs k) (tB rs i) m).1 b && tB rs j b) (nowP os))).reverse→Q (.ref l) H'
end
end Sen
namespace Sen
open PySem L2 Bdd
def RB (os:List Str) (rs:List Rm) (m:Nat) (h:Nat→Bool):Prop:=m < rs.length∧∀ b,b < 2 ^ os.length→tB rs m b = h b
section
variable {os:List Str} {rs rs':List Rm} {k l i j:Nat} {f g h h' t t':Nat→Bool}
theorem RB.grown (B:Bk os.length rs) (gr:Grown rs rs') (x:RB os rs k h):RB os rs' k h:=⟨Nat.lt_of_lt_of_le x.1 gr.len,fun b hb=>by rw [tB_grown B gr x.1]; exact x.2 b hb⟩
theorem RB.means (m:Means rs k fun r=>h (bits r os.length)):RB os rs k h:=⟨m.1,fun b hb=>by
  show yes rs k (rowN b) = h b
  rw [m.2]
  show h (bits (rowN b) os.length) = h b
  rw [bits_rowN hb]⟩
theorem RB.self (hk:k < rs.length):RB os rs k (tB rs k):=⟨hk,fun _ _=>rfl⟩
theorem RB.to (x:RB os rs k h) (e:∀ b,b < 2 ^ os.length→h b = h' b):RB os rs k h':=⟨x.1,fun b hb=>by rw [x.2 b hb,e b hb]⟩
theorem RB.join {c0 c1 c2 c3:Bool} (m:Means rs' k fun r=>jn c0 c1 c2 c3 (yes rs i r) (yes rs j r)) (xi:RB os rs i f) (xj:RB os rs j g):RB os rs' k fun b=>jn c0 c1 c2 c3 (f b) (g b):=⟨m.1,fun b hb=>by
  show yes rs' k (rowN b) = _
  rw [m.2]
  show jn c0 c1 c2 c3 (tB rs i b) (tB rs j b) = jn c0 c1 c2 c3 (f b) (g b)
  rw [xi.2 b hb,xj.2 b hb]⟩
theorem RB.now (x:RB os rs k h) (hf:∀ p∈thenP os,Free os.length h p):OfNow os rs k:=⟨x.1,fun p hp b hb v=>by
  show tB rs k (putBit b p v) = tB rs k b
  rw [x.2 _ hb,x.2 _ (putBit_lt hb (thenP_lt p hp))]
  exact hf p hp b hb v⟩
theorem RB.one (B:Bk os.length rs) (x:RB os rs k h) (y:RB os rs l h') (e:∀ b,b < 2 ^ os.length→h b = h' b):k = l:=by
  refine one_room B (max k l) k l ⟨Nat.le_max_left _ _,Nat.le_max_right _ _⟩ x.1 y.1 fun r=>?_
  rw [← yes_bits B x.1,← yes_bits B y.1]
  have a:=x.2 _ (Bdd.bits_lt r os.length)
  have b:=y.2 _ (Bdd.bits_lt r os.length)
  rw [e _ (Bdd.bits_lt r os.length)] at a
  exact a.trans b.symm
theorem RB.no (B:Bk os.length rs):RB os rs 0 fun _=>false:=⟨by have:=len2 B; omega,fun b _=>yes_no B _⟩
theorem RB.zero (B:Bk os.length rs) (x:RB os rs k h):k = 0↔∀ b,b < 2 ^ os.length→h b = false:=by
  constructor
  · intro e b hb
    subst e
    rw [← x.2 b hb]
    exact (RB.no B).2 b hb
  · exact fun e=>x.one B (RB.no B) e
theorem freeW_or (hf:∀ p∈thenP os,Free os.length f p) (hg:∀ p∈thenP os,Free os.length g p):∀ p∈thenP os,Free os.length (fun b=>f b || g b) p:=fun p hp b hb v=>by
  show (f (putBit b p v) || g (putBit b p v)) = _
  rw [hf p hp b hb v,hg p hp b hb v]
section
variable (ho:IsOrd os) (hW:IsWorld os)
include ho hW
theorem aft_mono' {b:Nat} (hb:b < 2 ^ os.length) (hf:∀ c,c < 2 ^ os.length→f c = true→g c = true) (ht:∀ c,c < 2 ^ os.length→t c = true→t' c = true) (e:aftB os t f b = true):aftB os t' g b = true:=by
  obtain ⟨d,h1,fd,td⟩:=(aft_iff _ _ _).mp e
  have dl:d < 2 ^ os.length:=lt_bits fun i hi=>by
    have a1:i ∉ nowP os:=fun z=>by have:=nowP_lt i z; omega
    have a2:i ∉ thenP os:=fun z=>by have:=thenP_lt i z; omega
    rw [h1 i a1,(mvT ho hW b).2 i a2]; exact bits_lt hb hi
  exact (aft_iff _ _ _).mpr ⟨d,h1,hf d dl fd,ht d dl td⟩
theorem aft_congr {b:Nat} (hb:b < 2 ^ os.length) (hf:∀ c,c < 2 ^ os.length→f c = g c) (ht:∀ c,c < 2 ^ os.length→t c = t' c):aftB os t f b = aftB os t' g b:=by
  rw [Bool.eq_iff_iff]
  exact ⟨aft_mono' ho hW hb (fun c hc e=>by rw [← hf c hc]; exact e) (fun c hc e=>by rw [← ht c hc]; exact e),aft_mono' ho hW hb (fun c hc e=>by rw [hf c hc]; exact e) (fun c hc e=>by rw [ht c hc]; exact e)⟩
theorem bef_congr {b:Nat} (hb:b < 2 ^ os.length) (hf:∀ c,c < 2 ^ os.length→f c = g c):befB os t f b = befB os t g b:=by
  rw [Bool.eq_iff_iff]
  exact ⟨bef_mono' ho hW hb fun c hc e=>by rw [← hf c hc]; exact e,bef_mono' ho hW hb fun c hc e=>by rw [hf c hc]; exact e⟩
end
end
section
variable (C:Addr)
def spIn:Sp:=fun vs H Q _=>∃ (b:Addr) (os:List Str) (rs:List Rm) (F:Foot) (i j:Nat) (f g:Nat→Bool),vs = [.ref b,.int (i:Nat),.int (j:Nat)]∧BookAt C H b os rs F∧rs.length≤8000000∧RB os rs i f∧RB os rs j g∧(∀ c,c < 2 ^ os.length→f c = true→g c = true) ∧
  ∀ (rs':List Rm) (H':Hp),Away F H H'→Tups H H'→BookAt C H' b os rs' F→Grown rs rs'→hiN os.length rs'≤hiN os.length rs + 63→Q (.bl true) H'
end
structure Hst (C:Addr) (K:PySem.W.Frag) (sc:Addr) (ns:List Int) (H1:Hp) (ol bk:Addr) (os:List Str) (m:Nat) (H:Hp) (rs:List Rm) (F:Foot) (k0 k1 k2:Nat) (t f g:Nat→Bool):Prop where
  w:Wst C K sc ns H1 ol bk os m H rs F k0 k1 k2
  e0:tB rs k0 = t
  e1:tB rs k1 = f
  e2:tB rs k2 = g
section
variable {C:Addr} {K:PySem.W.Frag} {sc:Addr} {ns:List Int} {H1:Hp} {ol bk:Addr} {os:List Str} {m n:Nat} {H H':Hp} {rs rs':List Rm} {F:Foot} {k0 k1 k2:Nat} {t f g:Nat→Bool}
theorem Hst.new (h:Hst C K sc ns H1 ol bk os m H rs F k0 k1 k2 t f g) (s:Same H H'):Hst C K sc ns H1 ol bk os m H' rs F k0 k1 k2 t f g:=⟨h.w.new s,h.e0,h.e1,h.e2⟩
theorem Hst.up {m':Nat} (h:Hst C K sc ns H1 ol bk os m H rs F k0 k1 k2 t f g) (s:m≤m'):Hst C K sc ns H1 ol bk os m' H rs F k0 k1 k2 t f g:=⟨h.w.up s,h.e0,h.e1,h.e2⟩
theorem Hst.grow (h:Hst C K sc ns H1 ol bk os m H rs F k0 k1 k2 t f g) (aw:Away F H H') (hB:BookAt C H' bk os rs' F) (s:Grown rs rs') (hh:hiN os.length rs'≤hiN os.length rs + n):Hst C K sc ns H1 ol bk os (m + n) H' rs' F k0 k1 k2 t f g :=
  ⟨h.w.grow aw hB s hh,by rw [tB_grown h.w.B s h.w.k0l]; exact h.e0,by rw [tB_grown h.w.B s h.w.n1.1]; exact h.e1,by rw [tB_grown h.w.B s h.w.n2.1]; exact h.e2⟩
theorem Hst.r1 (h:Hst C K sc ns H1 ol bk os m H rs F k0 k1 k2 t f g):RB os rs k1 f:=by have:=RB.self (os:=os) h.w.n1.1; rwa [h.e1] at this
theorem Hst.r2 (h:Hst C K sc ns H1 ol bk os m H rs F k0 k1 k2 t f g):RB os rs k2 g:=by have:=RB.self (os:=os) h.w.n2.1; rwa [h.e2] at this
theorem Hst.r0 (h:Hst C K sc ns H1 ol bk os m H rs F k0 k1 k2 t f g):RB os rs k0 t:=by have:=RB.self (os:=os) h.w.k0l; rwa [h.e0] at this
theorem Hst.f1 (h:Hst C K sc ns H1 ol bk os m H rs F k0 k1 k2 t f g):∀ p∈thenP os,Free os.length f p:=by rw [← h.e1]; exact h.w.n1.2
theorem Hst.f2 (h:Hst C K sc ns H1 ol bk os m H rs F k0 k1 k2 t f g):∀ p∈thenP os,Free os.length g p:=by rw [← h.e2]; exact h.w.n2.2
end
theorem int0 {m:Nat}:(V.int (m:Nat) = V.int 0)↔m = 0:=⟨fun e=>by injection e; omega,fun e=>by rw [e]; rfl⟩
theorem ne0_eq {m m':Nat} (h:m = 0↔m' = 0):V.bl (!decide (V.int (m:Nat) = V.int 0)) = V.bl (!decide (V.int (m':Nat) = V.int 0)):=by
  rw [decide_eq_decide.mpr (int0.trans (h.trans int0.symm))]
theorem meet_iff {n:Nat} {f g:Nat→Bool}:(∀ b,b < 2 ^ n→(f b && g b) = false)↔¬ ∃ b,b < 2 ^ n∧f b = true∧g b = true:=by
  constructor
  · rintro h ⟨b,hb,x,y⟩
    have:=h b hb
    rw [x,y] at this
    cases this
  · intro h b hb
    cases e:(f b && g b) with
    | false=>rfl
    | true=>exact absurd ⟨b,hb,(Bool.and_eq_true _ _).mp e⟩ h
theorem jn_and (x y:Bool):jn false false false true x y = (x && y):=by cases x <;> cases y <;> rfl
theorem jn_or (x y:Bool):jn false true true true x y = (x || y):=by cases x <;> cases y <;> rfl
end Sen
namespace K77
open PySem L2
def top (i:Nat):Stmt:=PySem.Challenge.pw_decidebook_k77_whole_worlds_hang_togethe.main.body.getD i (.Pass ⟨0,0,0,0⟩)
abbrev S_all_rows:Stmt:=top 9
abbrev S_rows_with:Stmt:=top 10
abbrev S_flipped:Stmt:=top 11
abbrev S_held_at:Stmt:=top 12
abbrev S_hangs_on:Stmt:=top 13
abbrev S_first_place:Stmt:=top 14
abbrev S_without:Stmt:=top 15
abbrev S_rows_having:Stmt:=top 16
abbrev S_first_values:Stmt:=top 17
abbrev S_chosen:Stmt:=top 18
abbrev S_joined_by:Stmt:=top 19
abbrev S_is_mark:Stmt:=top 25
abbrev S_is_order:Stmt:=top 26
abbrev S_letters_of:Stmt:=top 27
abbrev S_parts_of:Stmt:=top 28
abbrev S_parts_of_all:Stmt:=top 29
abbrev S_is_shaped:Stmt:=top 30
abbrev S_is_sentence:Stmt:=top 31
abbrev S_must_be_order:Stmt:=top 32
abbrev S_must_be_sentence:Stmt:=top 33
abbrev S_must_have_mark:Stmt:=top 34
abbrev S_must_have_marks:Stmt:=top 35
abbrev S_tuples_in:Stmt:=top 36
abbrev S_letters_in:Stmt:=top 37
abbrev S_table_of:Stmt:=top 38
abbrev S_table_of_two:Stmt:=top 39
abbrev S_now_marks:Stmt:=top 42
abbrev S_then_marks:Stmt:=top 43
abbrev S_now_places:Stmt:=top 44
abbrev S_then_places:Stmt:=top 45
abbrev S_must_be_world:Stmt:=top 46
abbrev S_must_be_of_now:Stmt:=top 47
abbrev S_must_be_world_with:Stmt:=top 48
abbrev S_image:Stmt:=top 49
abbrev S_preimage:Stmt:=top 50
abbrev S_after:Stmt:=top 51
abbrev S_before:Stmt:=top 52
abbrev S_for_any:Stmt:=top 53
abbrev S_moved:Stmt:=top 54
abbrev S_rounds:Stmt:=top 55
abbrev S_round_tables:Stmt:=top 56
abbrev S_reached:Stmt:=top 57
abbrev S_stays:Stmt:=top 58
abbrev S_way_to:Stmt:=top 59
abbrev S_way_through:Stmt:=top 60
abbrev S_first_of_now:Stmt:=top 61
abbrev S_only:Stmt:=top 62
abbrev S_Book_init:Stmt:=inClass (top 64) 0
abbrev S_Book_order:Stmt:=inClass (top 64) 1
abbrev S_Book_size:Stmt:=inClass (top 64) 2
abbrev S_Book_enter:Stmt:=inClass (top 64) 3
abbrev S_Book_room:Stmt:=inClass (top 64) 4
abbrev S_Book_must_be_room:Stmt:=inClass (top 64) 7
abbrev S_Book_place_of:Stmt:=inClass (top 64) 8
abbrev S_Book_going:Stmt:=inClass (top 64) 9
abbrev S_Book_led:Stmt:=inClass (top 64) 10
abbrev S_Book_table_at:Stmt:=inClass (top 64) 11
abbrev S_Book_room_with:Stmt:=inClass (top 64) 12
abbrev S_must_be_word:Stmt:=top 66
abbrev S_joined:Stmt:=top 67
abbrev S_x_law_cell_at:Stmt:=top 69
abbrev S_x_law_draw:Stmt:=top 70
abbrev S_x_law_sentence:Stmt:=top 71
abbrev S_x_law_world:Stmt:=top 72
abbrev S_x_law_now:Stmt:=top 73
abbrev S_x_law_counting:Stmt:=top 74
abbrev S_x_law_single:Stmt:=top 75
abbrev S_x_law_both:Stmt:=top 76
abbrev S_x_law_told_place:Stmt:=top 77
abbrev S_x_law_in:Stmt:=top 78
abbrev S_law:Stmt:=top 79
theorem sc_all_rows:FnScope ["marks"] ["marks"] (defScope S_all_rows):=⟨rfl,rfl,rfl,by decide +kernel,rfl,by decide +kernel,by decide +kernel⟩
theorem sc_rows_with:FnScope ["place", "marks", "half", "table", "further"] ["place", "marks"] (defScope S_rows_with):=⟨rfl,rfl,rfl,by decide +kernel,rfl,by decide +kernel,by decide +kernel⟩
theorem sc_flipped:FnScope ["table", "place", "marks", "ones", "noughts"] ["table", "place", "marks"] (defScope S_flipped):=⟨rfl,rfl,rfl,by decide +kernel,rfl,by decide +kernel,by decide +kernel⟩
theorem sc_held_at:FnScope ["table", "place", "value", "marks", "ones", "kept"] ["table", "place", "value", "marks"] (defScope S_held_at):=⟨rfl,rfl,rfl,by decide +kernel,rfl,by decide +kernel,by decide +kernel⟩
theorem sc_hangs_on:FnScope ["table", "place", "marks"] ["table", "place", "marks"] (defScope S_hangs_on):=⟨rfl,rfl,rfl,by decide +kernel,rfl,by decide +kernel,by decide +kernel⟩
theorem sc_first_place:FnScope ["table", "marks", "place"] ["table", "marks"] (defScope S_first_place):=⟨rfl,rfl,rfl,by decide +kernel,rfl,by decide +kernel,by decide +kernel⟩
theorem sc_without:FnScope ["table", "other"] ["table", "other"] (defScope S_without):=⟨rfl,rfl,rfl,by decide +kernel,rfl,by decide +kernel,by decide +kernel⟩
theorem sc_rows_having:FnScope ["places", "values", "marks", "table", "place", "value", "ones"] ["places", "values", "marks"] (defScope S_rows_having):=⟨rfl,rfl,rfl,by decide +kernel,rfl,by decide +kernel,by decide +kernel⟩
theorem sc_first_values:FnScope ["table", "places", "marks", "values", "place", "low", "value"] ["table", "places", "marks"] (defScope S_first_values):=⟨rfl,rfl,rfl,by decide +kernel,rfl,by decide +kernel,by decide +kernel⟩
theorem sc_chosen:FnScope ["where", "low", "high"] ["where", "low", "high"] (defScope S_chosen):=⟨rfl,rfl,rfl,by decide +kernel,rfl,by decide +kernel,by decide +kernel⟩
theorem sc_joined_by:FnScope ["word", "one", "other", "every", "table"] ["word", "one", "other", "every"] (defScope S_joined_by):=⟨rfl,rfl,rfl,by decide +kernel,rfl,by decide +kernel,by decide +kernel⟩
theorem sc_is_mark:FnScope ["letter"] ["letter"] (defScope S_is_mark):=⟨rfl,rfl,rfl,by decide +kernel,rfl,by decide +kernel,by decide +kernel⟩
theorem sc_is_order:FnScope ["order"] ["order"] (defScope S_is_order):=⟨rfl,rfl,rfl,by decide +kernel,rfl,by decide +kernel,by decide +kernel⟩
theorem sc_letters_of:FnScope ["sentence"] ["sentence"] (defScope S_letters_of):=⟨rfl,rfl,rfl,by decide +kernel,rfl,by decide +kernel,by decide +kernel⟩
theorem sc_parts_of:FnScope ["sentence"] ["sentence"] (defScope S_parts_of):=⟨rfl,rfl,rfl,by decide +kernel,rfl,by decide +kernel,by decide +kernel⟩
theorem sc_parts_of_all:FnScope ["level", "found", "sentence"] ["level"] (defScope S_parts_of_all):=⟨rfl,rfl,rfl,by decide +kernel,rfl,by decide +kernel,by decide +kernel⟩
theorem sc_is_shaped:FnScope ["some", "shape"] ["some"] (defScope S_is_shaped):=⟨rfl,rfl,rfl,by decide +kernel,rfl,by decide +kernel,by decide +kernel⟩
theorem sc_is_sentence:FnScope ["some", "level", "deep", "tuples"] ["some"] (defScope S_is_sentence):=⟨rfl,rfl,rfl,by decide +kernel,rfl,by decide +kernel,by decide +kernel⟩
theorem sc_must_be_order:FnScope ["order"] ["order"] (defScope S_must_be_order):=⟨rfl,rfl,rfl,by decide +kernel,rfl,by decide +kernel,by decide +kernel⟩
theorem sc_must_be_sentence:FnScope ["some"] ["some"] (defScope S_must_be_sentence):=⟨rfl,rfl,rfl,by decide +kernel,rfl,by decide +kernel,by decide +kernel⟩
theorem sc_must_have_mark:FnScope ["order", "letter"] ["order", "letter"] (defScope S_must_have_mark):=⟨rfl,rfl,rfl,by decide +kernel,rfl,by decide +kernel,by decide +kernel⟩
theorem sc_must_have_marks:FnScope ["order", "sentence", "letter"] ["order", "sentence"] (defScope S_must_have_marks):=⟨rfl,rfl,rfl,by decide +kernel,rfl,by decide +kernel,by decide +kernel⟩
theorem sc_tuples_in:FnScope ["sentence", "found", "level"] ["sentence"] (defScope S_tuples_in):=⟨rfl,rfl,rfl,by decide +kernel,rfl,by decide +kernel,by decide +kernel⟩
theorem sc_letters_in:FnScope ["sentence", "found", "part"] ["sentence"] (defScope S_letters_in):=⟨rfl,rfl,rfl,by decide +kernel,rfl,by decide +kernel,by decide +kernel⟩
theorem sc_table_of:FnScope ["sentence", "order", "word", "marks", "tables"] ["sentence", "order"] (defScope S_table_of):=⟨rfl,rfl,rfl,by decide +kernel,rfl,by decide +kernel,by decide +kernel⟩
theorem sc_table_of_two:FnScope ["word", "one", "other", "every"] ["word", "one", "other", "every"] (defScope S_table_of_two):=⟨rfl,rfl,rfl,by decide +kernel,rfl,by decide +kernel,by decide +kernel⟩
theorem sc_now_marks:FnScope ["book"] ["book"] (defScope S_now_marks):=⟨rfl,rfl,rfl,by decide +kernel,rfl,by decide +kernel,by decide +kernel⟩
theorem sc_then_marks:FnScope ["book"] ["book"] (defScope S_then_marks):=⟨rfl,rfl,rfl,by decide +kernel,rfl,by decide +kernel,by decide +kernel⟩
theorem sc_now_places:FnScope ["book"] ["book"] (defScope S_now_places):=⟨rfl,rfl,rfl,by decide +kernel,rfl,by decide +kernel,by decide +kernel⟩
theorem sc_then_places:FnScope ["book"] ["book"] (defScope S_then_places):=⟨rfl,rfl,rfl,by decide +kernel,rfl,by decide +kernel,by decide +kernel⟩
theorem sc_must_be_world:FnScope ["book", "order", "now", "then"] ["book"] (defScope S_must_be_world):=⟨rfl,rfl,rfl,by decide +kernel,rfl,by decide +kernel,by decide +kernel⟩
theorem sc_must_be_of_now:FnScope ["book", "room", "place"] ["book", "room"] (defScope S_must_be_of_now):=⟨rfl,rfl,rfl,by decide +kernel,rfl,by decide +kernel,by decide +kernel⟩
theorem sc_must_be_world_with:FnScope ["book", "steps", "rooms", "room"] ["book", "steps", "rooms"] (defScope S_must_be_world_with):=⟨rfl,rfl,rfl,by decide +kernel,rfl,by decide +kernel,by decide +kernel⟩
theorem sc_image:FnScope ["book", "steps", "room"] ["book", "steps", "room"] (defScope S_image):=⟨rfl,rfl,rfl,by decide +kernel,rfl,by decide +kernel,by decide +kernel⟩
theorem sc_preimage:FnScope ["book", "steps", "room"] ["book", "steps", "room"] (defScope S_preimage):=⟨rfl,rfl,rfl,by decide +kernel,rfl,by decide +kernel,by decide +kernel⟩
theorem sc_after:FnScope ["book", "steps", "table", "marks", "led"] ["book", "steps", "table"] (defScope S_after):=⟨rfl,rfl,rfl,by decide +kernel,rfl,by decide +kernel,by decide +kernel⟩
theorem sc_before:FnScope ["book", "steps", "table", "marks", "goal"] ["book", "steps", "table"] (defScope S_before):=⟨rfl,rfl,rfl,by decide +kernel,rfl,by decide +kernel,by decide +kernel⟩
theorem sc_for_any:FnScope ["table", "places", "marks", "place"] ["table", "places", "marks"] (defScope S_for_any):=⟨rfl,rfl,rfl,by decide +kernel,rfl,by decide +kernel,by decide +kernel⟩
theorem sc_moved:FnScope ["table", "places", "others", "marks", "place", "other", "low", "high"] ["table", "places", "others", "marks"] (defScope S_moved):=⟨rfl,rfl,rfl,by decide +kernel,rfl,by decide +kernel,by decide +kernel⟩
theorem sc_rounds:FnScope ["book", "steps", "start"] ["book", "steps", "start"] (defScope S_rounds):=⟨rfl,rfl,rfl,by decide +kernel,rfl,by decide +kernel,by decide +kernel⟩
theorem sc_round_tables:FnScope ["book", "steps", "start", "found", "table", "told"] ["book", "steps", "start"] (defScope S_round_tables):=⟨rfl,rfl,rfl,by decide +kernel,rfl,by decide +kernel,by decide +kernel⟩
theorem sc_reached:FnScope ["book", "steps", "start"] ["book", "steps", "start"] (defScope S_reached):=⟨rfl,rfl,rfl,by decide +kernel,rfl,by decide +kernel,by decide +kernel⟩
theorem sc_stays:FnScope ["book", "steps", "room", "table", "staying"] ["book", "steps", "room"] (defScope S_stays):=⟨rfl,rfl,rfl,by decide +kernel,rfl,by decide +kernel,by decide +kernel⟩
theorem sc_way_to:FnScope ["book", "steps", "start", "goal", "ahead", "table", "met"] ["book", "steps", "start", "goal"] (defScope S_way_to):=⟨rfl,rfl,rfl,by decide +kernel,rfl,by decide +kernel,by decide +kernel⟩
theorem sc_way_through:FnScope ["book", "steps", "ahead", "met", "rows", "table"] ["book", "steps", "ahead", "met"] (defScope S_way_through):=⟨rfl,rfl,rfl,by decide +kernel,rfl,by decide +kernel,by decide +kernel⟩
theorem sc_first_of_now:FnScope ["book", "table"] ["book", "table"] (defScope S_first_of_now):=⟨rfl,rfl,rfl,by decide +kernel,rfl,by decide +kernel,by decide +kernel⟩
theorem sc_only:FnScope ["book", "row"] ["book", "row"] (defScope S_only):=⟨rfl,rfl,rfl,by decide +kernel,rfl,by decide +kernel,by decide +kernel⟩
theorem sc_Book_init:FnScope ["self", "order", "marks"] ["self", "order"] (defScope S_Book_init):=⟨rfl,rfl,rfl,by decide +kernel,rfl,by decide +kernel,by decide +kernel⟩
theorem sc_Book_order:FnScope ["self"] ["self"] (defScope S_Book_order):=⟨rfl,rfl,rfl,by decide +kernel,rfl,by decide +kernel,by decide +kernel⟩
theorem sc_Book_enter:FnScope ["self", "sentence"] ["self", "sentence"] (defScope S_Book_enter):=⟨rfl,rfl,rfl,by decide +kernel,rfl,by decide +kernel,by decide +kernel⟩
theorem sc_Book_room:FnScope ["self", "number"] ["self", "number"] (defScope S_Book_room):=⟨rfl,rfl,rfl,by decide +kernel,rfl,by decide +kernel,by decide +kernel⟩
theorem sc_Book_must_be_room:FnScope ["self", "number"] ["self", "number"] (defScope S_Book_must_be_room):=⟨rfl,rfl,rfl,by decide +kernel,rfl,by decide +kernel,by decide +kernel⟩
theorem sc_Book_table_at:FnScope ["self", "number"] ["self", "number"] (defScope S_Book_table_at):=⟨rfl,rfl,rfl,by decide +kernel,rfl,by decide +kernel,by decide +kernel⟩
theorem sc_Book_room_with:FnScope ["self", "table", "marks", "place", "low", "high"] ["self", "table"] (defScope S_Book_room_with):=⟨rfl,rfl,rfl,by decide +kernel,rfl,by decide +kernel,by decide +kernel⟩
theorem sc_must_be_word:FnScope ["word"] ["word"] (defScope S_must_be_word):=⟨rfl,rfl,rfl,by decide +kernel,rfl,by decide +kernel,by decide +kernel⟩
theorem sc_joined:FnScope ["book", "word", "one", "other"] ["book", "word", "one", "other"] (defScope S_joined):=⟨rfl,rfl,rfl,by decide +kernel,rfl,by decide +kernel,by decide +kernel⟩
theorem sc_x_law_cell_at:FnScope ["script", "k"] ["script", "k"] (defScope S_x_law_cell_at):=⟨rfl,rfl,rfl,by decide +kernel,rfl,by decide +kernel,by decide +kernel⟩
theorem sc_x_law_draw:FnScope ["cell", "k", "bound", "stir", "left", "j"] ["cell", "k", "bound"] (defScope S_x_law_draw):=⟨rfl,rfl,rfl,by decide +kernel,rfl,by decide +kernel,by decide +kernel⟩
theorem sc_x_law_sentence:FnScope ["script", "at", "many", "order", "kinds", "made", "k", "cell", "kind", "one", "other", "letter"] ["script", "at", "many", "order"] (defScope S_x_law_sentence):=⟨rfl,rfl,rfl,by decide +kernel,rfl,by decide +kernel,by decide +kernel⟩
theorem sc_x_law_world:FnScope ["cell", "first", "size", "names", "found", "k", "later"] ["cell"] (defScope S_x_law_world):=⟨rfl,rfl,rfl,by decide +kernel,rfl,by decide +kernel,by decide +kernel⟩
theorem sc_x_law_now:FnScope ["order"] ["order"] (defScope S_x_law_now):=⟨rfl,rfl,rfl,by decide +kernel,rfl,by decide +kernel,by decide +kernel⟩
theorem sc_x_law_counting:FnScope ["order", "carry", "found", "mark", "later"] ["order"] (defScope S_x_law_counting):=⟨rfl,rfl,rfl,by decide +kernel,rfl,by decide +kernel,by decide +kernel⟩
theorem sc_x_law_single:FnScope ["order", "cell", "found", "now", "k", "one"] ["order", "cell"] (defScope S_x_law_single):=⟨rfl,rfl,rfl,by decide +kernel,rfl,by decide +kernel,by decide +kernel⟩
theorem sc_x_law_both:FnScope ["script", "order", "steps"] ["script"] (defScope S_x_law_both):=⟨rfl,rfl,rfl,by decide +kernel,rfl,by decide +kernel,by decide +kernel⟩
theorem sc_x_law_told_place:FnScope ["script", "at", "order"] ["script", "at", "order"] (defScope S_x_law_told_place):=⟨rfl,rfl,rfl,by decide +kernel,rfl,by decide +kernel,by decide +kernel⟩
theorem sc_x_law_in:FnScope ["book", "one", "other"] ["book", "one", "other"] (defScope S_x_law_in):=⟨rfl,rfl,rfl,by decide +kernel,rfl,by decide +kernel,by decide +kernel⟩
theorem sc_law:FnScope ["script", "book", "steps", "one", "other", "there", "meets", "wide", "hall", "more", "home", "seen", "fresh", "order", "sentence"] ["script"] (defScope S_law):=⟨rfl,rfl,rfl,by decide +kernel,rfl,by decide +kernel,by decide +kernel⟩
def tb_SHAPES:List (Str × Int × Int):=[("yes", 0,0),("no", 0,0),("mark", 1,0),("not", 0,1),("and", 0,2),("or", 0,2),("either", 0,2),("if", 0,2),("some", 1,1),("each", 1,1)]
structure Ad where
  a_all_rows:Addr
  d_all_rows:FuncData
  a_rows_with:Addr
  d_rows_with:FuncData
  a_flipped:Addr
  d_flipped:FuncData
  a_held_at:Addr
  d_held_at:FuncData
  a_hangs_on:Addr
  d_hangs_on:FuncData
  a_first_place:Addr
  d_first_place:FuncData
  a_without:Addr
  d_without:FuncData
  a_rows_having:Addr
  d_rows_having:FuncData
  a_first_values:Addr
  d_first_values:FuncData
  a_chosen:Addr
  d_chosen:FuncData
  a_joined_by:Addr
  d_joined_by:FuncData
  a_is_mark:Addr
  d_is_mark:FuncData
  a_is_order:Addr
  d_is_order:FuncData
  a_letters_of:Addr
  d_letters_of:FuncData
  a_parts_of:Addr
  d_parts_of:FuncData
  a_parts_of_all:Addr
  d_parts_of_all:FuncData
  a_is_shaped:Addr
  d_is_shaped:FuncData
  a_is_sentence:Addr
  d_is_sentence:FuncData
  a_must_be_order:Addr
  d_must_be_order:FuncData
  a_must_be_sentence:Addr
  d_must_be_sentence:FuncData
  a_must_have_mark:Addr
  d_must_have_mark:FuncData
  a_must_have_marks:Addr
  d_must_have_marks:FuncData
  a_tuples_in:Addr
  d_tuples_in:FuncData
  a_letters_in:Addr
  d_letters_in:FuncData
  a_table_of:Addr
  d_table_of:FuncData
  a_table_of_two:Addr
  d_table_of_two:FuncData
  a_now_marks:Addr
  d_now_marks:FuncData
  a_then_marks:Addr
  d_then_marks:FuncData
  a_now_places:Addr
  d_now_places:FuncData
  a_then_places:Addr
  d_then_places:FuncData
  a_must_be_world:Addr
  d_must_be_world:FuncData
  a_must_be_of_now:Addr
  d_must_be_of_now:FuncData
  a_must_be_world_with:Addr
  d_must_be_world_with:FuncData
  a_image:Addr
  d_image:FuncData
  a_preimage:Addr
  d_preimage:FuncData
  a_after:Addr
  d_after:FuncData
  a_before:Addr
  d_before:FuncData
  a_for_any:Addr
  d_for_any:FuncData
  a_moved:Addr
  d_moved:FuncData
  a_rounds:Addr
  d_rounds:FuncData
  a_round_tables:Addr
  d_round_tables:FuncData
  a_reached:Addr
  d_reached:FuncData
  a_stays:Addr
  d_stays:FuncData
  a_way_to:Addr
  d_way_to:FuncData
  a_way_through:Addr
  d_way_through:FuncData
  a_first_of_now:Addr
  d_first_of_now:FuncData
  a_only:Addr
  d_only:FuncData
  a_Book_init:Addr
  d_Book_init:FuncData
  a_Book_order:Addr
  d_Book_order:FuncData
  a_Book_size:Addr
  d_Book_size:FuncData
  a_Book_enter:Addr
  d_Book_enter:FuncData
  a_Book_room:Addr
  d_Book_room:FuncData
  a_Book_must_be_room:Addr
  d_Book_must_be_room:FuncData
  a_Book_place_of:Addr
  d_Book_place_of:FuncData
  a_Book_going:Addr
  d_Book_going:FuncData
  a_Book_led:Addr
  d_Book_led:FuncData
  a_Book_table_at:Addr
  d_Book_table_at:FuncData
  a_Book_room_with:Addr
  d_Book_room_with:FuncData
  a_must_be_word:Addr
  d_must_be_word:FuncData
  a_joined:Addr
  d_joined:FuncData
  a_x_law_cell_at:Addr
  d_x_law_cell_at:FuncData
  a_x_law_draw:Addr
  d_x_law_draw:FuncData
  a_x_law_sentence:Addr
  d_x_law_sentence:FuncData
  a_x_law_world:Addr
  d_x_law_world:FuncData
  a_x_law_now:Addr
  d_x_law_now:FuncData
  a_x_law_counting:Addr
  d_x_law_counting:FuncData
  a_x_law_single:Addr
  d_x_law_single:FuncData
  a_x_law_both:Addr
  d_x_law_both:FuncData
  a_x_law_told_place:Addr
  d_x_law_told_place:FuncData
  a_x_law_in:Addr
  d_x_law_in:FuncData
  a_law:Addr
  d_law:FuncData
  a_Book:Addr
  a_MARKS:Addr
  t_MOST_TUPLES:Tok
  t_MOST_DEEP:Tok
  a_SHAPES:Addr
  kv_SHAPES:List (Str × Value)
  a_PAIRS:Addr
  a_PAIRS_0:Addr
  a_PAIRS_1:Addr
  a_PAIRS_2:Addr
  a_PAIRS_3:Addr
structure Txt (P:Program) (w:World) (K:PySem.W.Frag) (mg:Str→Option Value) (a:Ad):Prop where
  F_all_rows:Fun K "all_rows" "all_rows" S_all_rows a.a_all_rows a.d_all_rows
  b_all_rows:Binds K a.d_all_rows ["marks"] []
  m_all_rows:mg "all_rows" = some (.ref a.a_all_rows)
  F_rows_with:Fun K "rows_with" "rows_with" S_rows_with a.a_rows_with a.d_rows_with
  b_rows_with:Binds K a.d_rows_with ["place", "marks"] []
  m_rows_with:mg "rows_with" = some (.ref a.a_rows_with)
  F_flipped:Fun K "flipped" "flipped" S_flipped a.a_flipped a.d_flipped
  b_flipped:Binds K a.d_flipped ["table", "place", "marks"] []
  m_flipped:mg "flipped" = some (.ref a.a_flipped)
  F_held_at:Fun K "held_at" "held_at" S_held_at a.a_held_at a.d_held_at
  b_held_at:Binds K a.d_held_at ["table", "place", "value", "marks"] []
  m_held_at:mg "held_at" = some (.ref a.a_held_at)
  F_hangs_on:Fun K "hangs_on" "hangs_on" S_hangs_on a.a_hangs_on a.d_hangs_on
  b_hangs_on:Binds K a.d_hangs_on ["table", "place", "marks"] []
  m_hangs_on:mg "hangs_on" = some (.ref a.a_hangs_on)
  F_first_place:Fun K "first_place" "first_place" S_first_place a.a_first_place a.d_first_place
  b_first_place:Binds K a.d_first_place ["table", "marks"] []
  m_first_place:mg "first_place" = some (.ref a.a_first_place)
  F_without:Fun K "without" "without" S_without a.a_without a.d_without
  b_without:Binds K a.d_without ["table", "other"] []
  m_without:mg "without" = some (.ref a.a_without)
  F_rows_having:Fun K "rows_having" "rows_having" S_rows_having a.a_rows_having a.d_rows_having
  b_rows_having:Binds K a.d_rows_having ["places", "values", "marks"] []
  m_rows_having:mg "rows_having" = some (.ref a.a_rows_having)
  F_first_values:Fun K "first_values" "first_values" S_first_values a.a_first_values a.d_first_values
  b_first_values:Binds K a.d_first_values ["table", "places", "marks"] []
  m_first_values:mg "first_values" = some (.ref a.a_first_values)
  F_chosen:Fun K "chosen" "chosen" S_chosen a.a_chosen a.d_chosen
  b_chosen:Binds K a.d_chosen ["where", "low", "high"] []
  m_chosen:mg "chosen" = some (.ref a.a_chosen)
  F_joined_by:Fun K "joined_by" "joined_by" S_joined_by a.a_joined_by a.d_joined_by
  b_joined_by:Binds K a.d_joined_by ["word", "one", "other", "every"] []
  m_joined_by:mg "joined_by" = some (.ref a.a_joined_by)
  F_is_mark:Fun K "is_mark" "is_mark" S_is_mark a.a_is_mark a.d_is_mark
  b_is_mark:Binds K a.d_is_mark ["letter"] []
  m_is_mark:mg "is_mark" = some (.ref a.a_is_mark)
  F_is_order:Fun K "is_order" "is_order" S_is_order a.a_is_order a.d_is_order
  b_is_order:Binds K a.d_is_order ["order"] []
  m_is_order:mg "is_order" = some (.ref a.a_is_order)
  F_letters_of:Fun K "letters_of" "letters_of" S_letters_of a.a_letters_of a.d_letters_of
  b_letters_of:Binds K a.d_letters_of ["sentence"] []
  m_letters_of:mg "letters_of" = some (.ref a.a_letters_of)
  F_parts_of:Fun K "parts_of" "parts_of" S_parts_of a.a_parts_of a.d_parts_of
  b_parts_of:Binds K a.d_parts_of ["sentence"] []
  m_parts_of:mg "parts_of" = some (.ref a.a_parts_of)
  F_parts_of_all:Fun K "parts_of_all" "parts_of_all" S_parts_of_all a.a_parts_of_all a.d_parts_of_all
  b_parts_of_all:Binds K a.d_parts_of_all ["level"] []
  m_parts_of_all:mg "parts_of_all" = some (.ref a.a_parts_of_all)
  F_is_shaped:Fun K "is_shaped" "is_shaped" S_is_shaped a.a_is_shaped a.d_is_shaped
  b_is_shaped:Binds K a.d_is_shaped ["some"] []
  m_is_shaped:mg "is_shaped" = some (.ref a.a_is_shaped)
  F_is_sentence:Fun K "is_sentence" "is_sentence" S_is_sentence a.a_is_sentence a.d_is_sentence
  b_is_sentence:Binds K a.d_is_sentence ["some"] []
  m_is_sentence:mg "is_sentence" = some (.ref a.a_is_sentence)
  F_must_be_order:Fun K "must_be_order" "must_be_order" S_must_be_order a.a_must_be_order a.d_must_be_order
  b_must_be_order:Binds K a.d_must_be_order ["order"] []
  m_must_be_order:mg "must_be_order" = some (.ref a.a_must_be_order)
  F_must_be_sentence:Fun K "must_be_sentence" "must_be_sentence" S_must_be_sentence a.a_must_be_sentence a.d_must_be_sentence
  b_must_be_sentence:Binds K a.d_must_be_sentence ["some"] []
  m_must_be_sentence:mg "must_be_sentence" = some (.ref a.a_must_be_sentence)
  F_must_have_mark:Fun K "must_have_mark" "must_have_mark" S_must_have_mark a.a_must_have_mark a.d_must_have_mark
  b_must_have_mark:Binds K a.d_must_have_mark ["order", "letter"] []
  m_must_have_mark:mg "must_have_mark" = some (.ref a.a_must_have_mark)
  F_must_have_marks:Fun K "must_have_marks" "must_have_marks" S_must_have_marks a.a_must_have_marks a.d_must_have_marks
  b_must_have_marks:Binds K a.d_must_have_marks ["order", "sentence"] []
  m_must_have_marks:mg "must_have_marks" = some (.ref a.a_must_have_marks)
  F_tuples_in:Fun K "tuples_in" "tuples_in" S_tuples_in a.a_tuples_in a.d_tuples_in
  b_tuples_in:Binds K a.d_tuples_in ["sentence"] []
  m_tuples_in:mg "tuples_in" = some (.ref a.a_tuples_in)
  F_letters_in:Fun K "letters_in" "letters_in" S_letters_in a.a_letters_in a.d_letters_in
  b_letters_in:Binds K a.d_letters_in ["sentence"] []
  m_letters_in:mg "letters_in" = some (.ref a.a_letters_in)
  F_table_of:Fun K "table_of" "table_of" S_table_of a.a_table_of a.d_table_of
  b_table_of:Binds K a.d_table_of ["sentence", "order"] []
  m_table_of:mg "table_of" = some (.ref a.a_table_of)
  F_table_of_two:Fun K "table_of_two" "table_of_two" S_table_of_two a.a_table_of_two a.d_table_of_two
  b_table_of_two:Binds K a.d_table_of_two ["word", "one", "other", "every"] []
  m_table_of_two:mg "table_of_two" = some (.ref a.a_table_of_two)
  F_now_marks:Fun K "now_marks" "now_marks" S_now_marks a.a_now_marks a.d_now_marks
  b_now_marks:Binds K a.d_now_marks ["book"] []
  m_now_marks:mg "now_marks" = some (.ref a.a_now_marks)
  F_then_marks:Fun K "then_marks" "then_marks" S_then_marks a.a_then_marks a.d_then_marks
  b_then_marks:Binds K a.d_then_marks ["book"] []
  m_then_marks:mg "then_marks" = some (.ref a.a_then_marks)
  F_now_places:Fun K "now_places" "now_places" S_now_places a.a_now_places a.d_now_places
  b_now_places:Binds K a.d_now_places ["book"] []
  m_now_places:mg "now_places" = some (.ref a.a_now_places)
  F_then_places:Fun K "then_places" "then_places" S_then_places a.a_then_places a.d_then_places
  b_then_places:Binds K a.d_then_places ["book"] []
  m_then_places:mg "then_places" = some (.ref a.a_then_places)
  F_must_be_world:Fun K "must_be_world" "must_be_world" S_must_be_world a.a_must_be_world a.d_must_be_world
  b_must_be_world:Binds K a.d_must_be_world ["book"] []
  m_must_be_world:mg "must_be_world" = some (.ref a.a_must_be_world)
  F_must_be_of_now:Fun K "must_be_of_now" "must_be_of_now" S_must_be_of_now a.a_must_be_of_now a.d_must_be_of_now
  b_must_be_of_now:Binds K a.d_must_be_of_now ["book", "room"] []
  m_must_be_of_now:mg "must_be_of_now" = some (.ref a.a_must_be_of_now)
  F_must_be_world_with:Fun K "must_be_world_with" "must_be_world_with" S_must_be_world_with a.a_must_be_world_with a.d_must_be_world_with
  b_must_be_world_with:Binds K a.d_must_be_world_with ["book", "steps", "rooms"] []
  m_must_be_world_with:mg "must_be_world_with" = some (.ref a.a_must_be_world_with)
  F_image:Fun K "image" "image" S_image a.a_image a.d_image
  b_image:Binds K a.d_image ["book", "steps", "room"] []
  m_image:mg "image" = some (.ref a.a_image)
  F_preimage:Fun K "preimage" "preimage" S_preimage a.a_preimage a.d_preimage
  b_preimage:Binds K a.d_preimage ["book", "steps", "room"] []
  m_preimage:mg "preimage" = some (.ref a.a_preimage)
  F_after:Fun K "after" "after" S_after a.a_after a.d_after
  b_after:Binds K a.d_after ["book", "steps", "table"] []
  m_after:mg "after" = some (.ref a.a_after)
  F_before:Fun K "before" "before" S_before a.a_before a.d_before
  b_before:Binds K a.d_before ["book", "steps", "table"] []
  m_before:mg "before" = some (.ref a.a_before)
  F_for_any:Fun K "for_any" "for_any" S_for_any a.a_for_any a.d_for_any
  b_for_any:Binds K a.d_for_any ["table", "places", "marks"] []
  m_for_any:mg "for_any" = some (.ref a.a_for_any)
  F_moved:Fun K "moved" "moved" S_moved a.a_moved a.d_moved
  b_moved:Binds K a.d_moved ["table", "places", "others", "marks"] []
  m_moved:mg "moved" = some (.ref a.a_moved)
  F_rounds:Fun K "rounds" "rounds" S_rounds a.a_rounds a.d_rounds
  b_rounds:Binds K a.d_rounds ["book", "steps", "start"] []
  m_rounds:mg "rounds" = some (.ref a.a_rounds)
  F_round_tables:Fun K "round_tables" "round_tables" S_round_tables a.a_round_tables a.d_round_tables
  b_round_tables:Binds K a.d_round_tables ["book", "steps", "start"] []
  m_round_tables:mg "round_tables" = some (.ref a.a_round_tables)
  F_reached:Fun K "reached" "reached" S_reached a.a_reached a.d_reached
  b_reached:Binds K a.d_reached ["book", "steps", "start"] []
  m_reached:mg "reached" = some (.ref a.a_reached)
  F_stays:Fun K "stays" "stays" S_stays a.a_stays a.d_stays
  b_stays:Binds K a.d_stays ["book", "steps", "room"] []
  m_stays:mg "stays" = some (.ref a.a_stays)
  F_way_to:Fun K "way_to" "way_to" S_way_to a.a_way_to a.d_way_to
  b_way_to:Binds K a.d_way_to ["book", "steps", "start", "goal"] []
  m_way_to:mg "way_to" = some (.ref a.a_way_to)
  F_way_through:Fun K "way_through" "way_through" S_way_through a.a_way_through a.d_way_through
  b_way_through:Binds K a.d_way_through ["book", "steps", "ahead", "met"] []
  m_way_through:mg "way_through" = some (.ref a.a_way_through)
  F_first_of_now:Fun K "first_of_now" "first_of_now" S_first_of_now a.a_first_of_now a.d_first_of_now
  b_first_of_now:Binds K a.d_first_of_now ["book", "table"] []
  m_first_of_now:mg "first_of_now" = some (.ref a.a_first_of_now)
  F_only:Fun K "only" "only" S_only a.a_only a.d_only
  b_only:Binds K a.d_only ["book", "row"] []
  m_only:mg "only" = some (.ref a.a_only)
  F_Book_init:Fun K "__init__" "Book.__init__" S_Book_init a.a_Book_init a.d_Book_init
  b_Book_init:Binds K a.d_Book_init ["self", "order"] []
  e_Book_init:Meth K a.a_Book "__init__" a.a_Book_init
  F_Book_order:Fun K "order" "Book.order" S_Book_order a.a_Book_order a.d_Book_order
  b_Book_order:Binds K a.d_Book_order ["self"] []
  e_Book_order:Meth K a.a_Book "order" a.a_Book_order
  F_Book_size:Fun K "size" "Book.size" S_Book_size a.a_Book_size a.d_Book_size
  b_Book_size:Binds K a.d_Book_size ["self"] []
  e_Book_size:Meth K a.a_Book "size" a.a_Book_size
  F_Book_enter:Fun K "enter" "Book.enter" S_Book_enter a.a_Book_enter a.d_Book_enter
  b_Book_enter:Binds K a.d_Book_enter ["self", "sentence"] []
  e_Book_enter:Meth K a.a_Book "enter" a.a_Book_enter
  F_Book_room:Fun K "room" "Book.room" S_Book_room a.a_Book_room a.d_Book_room
  b_Book_room:Binds K a.d_Book_room ["self", "number"] []
  e_Book_room:Meth K a.a_Book "room" a.a_Book_room
  F_Book_must_be_room:Fun K "must_be_room" "Book.must_be_room" S_Book_must_be_room a.a_Book_must_be_room a.d_Book_must_be_room
  b_Book_must_be_room:Binds K a.d_Book_must_be_room ["self", "number"] []
  e_Book_must_be_room:Meth K a.a_Book "must_be_room" a.a_Book_must_be_room
  F_Book_place_of:Fun K "place_of" "Book.place_of" S_Book_place_of a.a_Book_place_of a.d_Book_place_of
  b_Book_place_of:Binds K a.d_Book_place_of ["self", "number"] []
  e_Book_place_of:Meth K a.a_Book "place_of" a.a_Book_place_of
  F_Book_going:Fun K "going" "Book.going" S_Book_going a.a_Book_going a.d_Book_going
  b_Book_going:Binds K a.d_Book_going ["self", "number", "value"] []
  e_Book_going:Meth K a.a_Book "going" a.a_Book_going
  F_Book_led:Fun K "led" "Book.led" S_Book_led a.a_Book_led a.d_Book_led
  b_Book_led:Binds K a.d_Book_led ["self", "number", "place", "value"] []
  e_Book_led:Meth K a.a_Book "led" a.a_Book_led
  F_Book_table_at:Fun K "table_at" "Book.table_at" S_Book_table_at a.a_Book_table_at a.d_Book_table_at
  b_Book_table_at:Binds K a.d_Book_table_at ["self", "number"] []
  e_Book_table_at:Meth K a.a_Book "table_at" a.a_Book_table_at
  F_Book_room_with:Fun K "room_with" "Book.room_with" S_Book_room_with a.a_Book_room_with a.d_Book_room_with
  b_Book_room_with:Binds K a.d_Book_room_with ["self", "table"] []
  e_Book_room_with:Meth K a.a_Book "room_with" a.a_Book_room_with
  F_must_be_word:Fun K "must_be_word" "must_be_word" S_must_be_word a.a_must_be_word a.d_must_be_word
  b_must_be_word:Binds K a.d_must_be_word ["word"] []
  m_must_be_word:mg "must_be_word" = some (.ref a.a_must_be_word)
  F_joined:Fun K "joined" "joined" S_joined a.a_joined a.d_joined
  b_joined:Binds K a.d_joined ["book", "word", "one", "other"] []
  m_joined:mg "joined" = some (.ref a.a_joined)
  F_x_law_cell_at:Fun K "_law_cell_at" "_law_cell_at" S_x_law_cell_at a.a_x_law_cell_at a.d_x_law_cell_at
  b_x_law_cell_at:Binds K a.d_x_law_cell_at ["script", "k"] []
  m_x_law_cell_at:mg "_law_cell_at" = some (.ref a.a_x_law_cell_at)
  F_x_law_draw:Fun K "_law_draw" "_law_draw" S_x_law_draw a.a_x_law_draw a.d_x_law_draw
  b_x_law_draw:Binds K a.d_x_law_draw ["cell", "k", "bound"] []
  m_x_law_draw:mg "_law_draw" = some (.ref a.a_x_law_draw)
  F_x_law_sentence:Fun K "_law_sentence" "_law_sentence" S_x_law_sentence a.a_x_law_sentence a.d_x_law_sentence
  b_x_law_sentence:Binds K a.d_x_law_sentence ["script", "at", "many", "order"] []
  m_x_law_sentence:mg "_law_sentence" = some (.ref a.a_x_law_sentence)
  F_x_law_world:Fun K "_law_world" "_law_world" S_x_law_world a.a_x_law_world a.d_x_law_world
  b_x_law_world:Binds K a.d_x_law_world ["cell"] []
  m_x_law_world:mg "_law_world" = some (.ref a.a_x_law_world)
  F_x_law_now:Fun K "_law_now" "_law_now" S_x_law_now a.a_x_law_now a.d_x_law_now
  b_x_law_now:Binds K a.d_x_law_now ["order"] []
  m_x_law_now:mg "_law_now" = some (.ref a.a_x_law_now)
  F_x_law_counting:Fun K "_law_counting" "_law_counting" S_x_law_counting a.a_x_law_counting a.d_x_law_counting
  b_x_law_counting:Binds K a.d_x_law_counting ["order"] []
  m_x_law_counting:mg "_law_counting" = some (.ref a.a_x_law_counting)
  F_x_law_single:Fun K "_law_single" "_law_single" S_x_law_single a.a_x_law_single a.d_x_law_single
  b_x_law_single:Binds K a.d_x_law_single ["order", "cell"] []
  m_x_law_single:mg "_law_single" = some (.ref a.a_x_law_single)
  F_x_law_both:Fun K "_law_both" "_law_both" S_x_law_both a.a_x_law_both a.d_x_law_both
  b_x_law_both:Binds K a.d_x_law_both ["script"] []
  m_x_law_both:mg "_law_both" = some (.ref a.a_x_law_both)
  F_x_law_told_place:Fun K "_law_told_place" "_law_told_place" S_x_law_told_place a.a_x_law_told_place a.d_x_law_told_place
  b_x_law_told_place:Binds K a.d_x_law_told_place ["script", "at", "order"] []
  m_x_law_told_place:mg "_law_told_place" = some (.ref a.a_x_law_told_place)
  F_x_law_in:Fun K "_law_in" "_law_in" S_x_law_in a.a_x_law_in a.d_x_law_in
  b_x_law_in:Binds K a.d_x_law_in ["book", "one", "other"] []
  m_x_law_in:mg "_law_in" = some (.ref a.a_x_law_in)
  F_law:Fun K "law" "law" S_law a.a_law a.d_law
  b_law:Binds K a.d_law ["script"] []
  m_law:mg "law" = some (.ref a.a_law)
  c_Book:Cls K a.a_Book
  m_Book:mg "Book" = some (.ref a.a_Book)
  mk_Book:Mk K a.a_Book a.a_Book_init
  na_Book_marks:NoAttr K a.a_Book "marks"
  na_Book_rooms:NoAttr K a.a_Book "rooms"
  na_Book_tables:NoAttr K a.a_Book "tables"
  na_Book_numbers:NoAttr K a.a_Book "numbers"
  x_law:∀ (s:Shared) (u:Value),BindsTo s a.d_law ⟨[u],[]⟩ [("script", u)]
  m_MARKS:mg "MARKS" = some (.ref a.a_MARKS)
  q_MARKS:∀ H,SqT K H a.a_MARKS ((["a", "b", "c", "d", "e", "f", "g", "h"]:List Str).map V.str)
  m_MOST_TUPLES:mg "MOST_TUPLES" = some (.int 200 a.t_MOST_TUPLES)
  m_MOST_DEEP:mg "MOST_DEEP" = some (.int 24 a.t_MOST_DEEP)
  m_SHAPES:mg "SHAPES" = some (.ref a.a_SHAPES)
  d_SHAPES:DicK K P w a.a_SHAPES a.kv_SHAPES
  y_SHAPES:∀ k m n,(k,m,n)∈tb_SHAPES→∃ p,valueAt a.kv_SHAPES k = some (.ref p)∧∀ H,SqT K H p [.int m,.int n]
  z_SHAPES:∀ k,(∀ e∈tb_SHAPES,e.1≠k)→valueAt a.kv_SHAPES k = none
  m_PAIRS:mg "PAIRS" = some (.ref a.a_PAIRS)
  q_PAIRS:∀ H,SqT K H a.a_PAIRS [.ref a.a_PAIRS_0,.ref a.a_PAIRS_1,.ref a.a_PAIRS_2,.ref a.a_PAIRS_3]
  q_PAIRS_0:∀ H,SqT K H a.a_PAIRS_0 ((["a", "e"]:List Str).map V.str)
  q_PAIRS_1:∀ H,SqT K H a.a_PAIRS_1 ((["b", "f"]:List Str).map V.str)
  q_PAIRS_2:∀ H,SqT K H a.a_PAIRS_2 ((["c", "g"]:List Str).map V.str)
  q_PAIRS_3:∀ H,SqT K H a.a_PAIRS_3 ((["d", "h"]:List Str).map V.str)
  n_all:mg "all" = none
  n_isinstance:mg "isinstance" = none
  n_len:mg "len" = none
  n_list:mg "list" = none
  n_range:mg "range" = none
  n_reversed:mg "reversed" = none
  n_set:mg "set" = none
  n_str:mg "str" = none
  n_sum:mg "sum" = none
  n_tuple:mg "tuple" = none
  n_zip:mg "zip" = none
theorem txt_mk {P:Program} {w:World} {K:PySem.W.Frag} {h:Heap} {mg:Str→Option Value} (X:K.In h) (G:h.Ns mainGlobals mg)
    {p_Book:Addr}
    {f0 f1 f2 f3 f4 f5 f6 f7 f8 f9 f10 f11 f12 f13 f14 f15 f16 f17 f18 f19 f20 f21 f22 f23 f24 f25 f26 f27 f28 f29 f30 f31 f32 f33 f34 f35 f36 f37 f38 f39 f40 f41 f42 f43 f44 f45 f46 f47 f48 f49 f50 f51 f52 f53 f54 f55 f56 f57 f58 f59 f60 f61 f62 f63 f64 f65 f66 f67 f68 f69 f70:Addr} {d0 d1 d2 d3 d4 d5 d6 d7 d8 d9 d10 d11 d12 d13 d14 d15 d16 d17 d18 d19 d20 d21 d22 d23 d24 d25 d26 d27 d28 d29 d30 d31 d32 d33 d34 d35 d36 d37 d38 d39 d40 d41 d42 d43 d44 d45 d46 d47 d48 d49 d50 d51 d52 d53 d54 d55 d56 d57 d58 d59 d60 d61 d62 d63 d64 d65 d66 d67 d68 d69 d70:FuncData}
    {p_MARKS:Addr}
    {od_MARKS:Option Addr} {it_MARKS:Array Value} {n_MARKS:Nat} {sl_MARKS:Array (Option Value)}
    {t_MOST_TUPLES:Tok}
    {t_MOST_DEEP:Tok}
    {p_SHAPES:Addr}
    {es_SHAPES:Array DictEntry} {ep_SHAPES:Nat}
    {tSHAPES_0:Tok} {pSHAPES_0:Addr} {odSHAPES_0:Option Addr} {itSHAPES_0:Array Value} {nSHAPES_0:Nat} {slSHAPES_0:Array (Option Value)}
    {tSHAPES_1:Tok} {pSHAPES_1:Addr} {odSHAPES_1:Option Addr} {itSHAPES_1:Array Value} {nSHAPES_1:Nat} {slSHAPES_1:Array (Option Value)}
    {tSHAPES_2:Tok} {pSHAPES_2:Addr} {odSHAPES_2:Option Addr} {itSHAPES_2:Array Value} {nSHAPES_2:Nat} {slSHAPES_2:Array (Option Value)}
    {tSHAPES_3:Tok} {pSHAPES_3:Addr} {odSHAPES_3:Option Addr} {itSHAPES_3:Array Value} {nSHAPES_3:Nat} {slSHAPES_3:Array (Option Value)}
    {tSHAPES_4:Tok} {pSHAPES_4:Addr} {odSHAPES_4:Option Addr} {itSHAPES_4:Array Value} {nSHAPES_4:Nat} {slSHAPES_4:Array (Option Value)}
    {tSHAPES_5:Tok} {pSHAPES_5:Addr} {odSHAPES_5:Option Addr} {itSHAPES_5:Array Value} {nSHAPES_5:Nat} {slSHAPES_5:Array (Option Value)}
    {tSHAPES_6:Tok} {pSHAPES_6:Addr} {odSHAPES_6:Option Addr} {itSHAPES_6:Array Value} {nSHAPES_6:Nat} {slSHAPES_6:Array (Option Value)}
    {tSHAPES_7:Tok} {pSHAPES_7:Addr} {odSHAPES_7:Option Addr} {itSHAPES_7:Array Value} {nSHAPES_7:Nat} {slSHAPES_7:Array (Option Value)}
    {tSHAPES_8:Tok} {pSHAPES_8:Addr} {odSHAPES_8:Option Addr} {itSHAPES_8:Array Value} {nSHAPES_8:Nat} {slSHAPES_8:Array (Option Value)}
    {tSHAPES_9:Tok} {pSHAPES_9:Addr} {odSHAPES_9:Option Addr} {itSHAPES_9:Array Value} {nSHAPES_9:Nat} {slSHAPES_9:Array (Option Value)}
    {p_PAIRS:Addr}
    {od_PAIRS:Option Addr} {it_PAIRS:Array Value} {n_PAIRS:Nat} {sl_PAIRS:Array (Option Value)}
    {p_PAIRS_0:Addr} {od_PAIRS_0:Option Addr} {it_PAIRS_0:Array Value} {n_PAIRS_0:Nat} {sl_PAIRS_0:Array (Option Value)}
    {p_PAIRS_1:Addr} {od_PAIRS_1:Option Addr} {it_PAIRS_1:Array Value} {n_PAIRS_1:Nat} {sl_PAIRS_1:Array (Option Value)}
    {p_PAIRS_2:Addr} {od_PAIRS_2:Option Addr} {it_PAIRS_2:Array Value} {n_PAIRS_2:Nat} {sl_PAIRS_2:Array (Option Value)}
    {p_PAIRS_3:Addr} {od_PAIRS_3:Option Addr} {it_PAIRS_3:Array Value} {n_PAIRS_3:Nat} {sl_PAIRS_3:Array (Option Value)}
    (a_Book:PySem.W.nsIn K mainGlobals "Book" = some (some (.ref p_Book)))
    (a0:PySem.W.nsIn K mainGlobals "all_rows" = some (some (.ref f0)))
    (F0:Fun K "all_rows" "all_rows" S_all_rows f0 d0)
    (a1:PySem.W.nsIn K mainGlobals "rows_with" = some (some (.ref f1)))
    (F1:Fun K "rows_with" "rows_with" S_rows_with f1 d1)
    (a2:PySem.W.nsIn K mainGlobals "flipped" = some (some (.ref f2)))
    (F2:Fun K "flipped" "flipped" S_flipped f2 d2)
    (a3:PySem.W.nsIn K mainGlobals "held_at" = some (some (.ref f3)))
    (F3:Fun K "held_at" "held_at" S_held_at f3 d3)
    (a4:PySem.W.nsIn K mainGlobals "hangs_on" = some (some (.ref f4)))
    (F4:Fun K "hangs_on" "hangs_on" S_hangs_on f4 d4)
    (a5:PySem.W.nsIn K mainGlobals "first_place" = some (some (.ref f5)))
    (F5:Fun K "first_place" "first_place" S_first_place f5 d5)
    (a6:PySem.W.nsIn K mainGlobals "without" = some (some (.ref f6)))
    (F6:Fun K "without" "without" S_without f6 d6)
    (a7:PySem.W.nsIn K mainGlobals "rows_having" = some (some (.ref f7)))
    (F7:Fun K "rows_having" "rows_having" S_rows_having f7 d7)
    (a8:PySem.W.nsIn K mainGlobals "first_values" = some (some (.ref f8)))
    (F8:Fun K "first_values" "first_values" S_first_values f8 d8)
    (a9:PySem.W.nsIn K mainGlobals "chosen" = some (some (.ref f9)))
    (F9:Fun K "chosen" "chosen" S_chosen f9 d9)
    (a10:PySem.W.nsIn K mainGlobals "joined_by" = some (some (.ref f10)))
    (F10:Fun K "joined_by" "joined_by" S_joined_by f10 d10)
    (a11:PySem.W.nsIn K mainGlobals "is_mark" = some (some (.ref f11)))
    (F11:Fun K "is_mark" "is_mark" S_is_mark f11 d11)
    (a12:PySem.W.nsIn K mainGlobals "is_order" = some (some (.ref f12)))
    (F12:Fun K "is_order" "is_order" S_is_order f12 d12)
    (a13:PySem.W.nsIn K mainGlobals "letters_of" = some (some (.ref f13)))
    (F13:Fun K "letters_of" "letters_of" S_letters_of f13 d13)
    (a14:PySem.W.nsIn K mainGlobals "parts_of" = some (some (.ref f14)))
    (F14:Fun K "parts_of" "parts_of" S_parts_of f14 d14)
    (a15:PySem.W.nsIn K mainGlobals "parts_of_all" = some (some (.ref f15)))
    (F15:Fun K "parts_of_all" "parts_of_all" S_parts_of_all f15 d15)
    (a16:PySem.W.nsIn K mainGlobals "is_shaped" = some (some (.ref f16)))
    (F16:Fun K "is_shaped" "is_shaped" S_is_shaped f16 d16)
    (a17:PySem.W.nsIn K mainGlobals "is_sentence" = some (some (.ref f17)))
    (F17:Fun K "is_sentence" "is_sentence" S_is_sentence f17 d17)
    (a18:PySem.W.nsIn K mainGlobals "must_be_order" = some (some (.ref f18)))
    (F18:Fun K "must_be_order" "must_be_order" S_must_be_order f18 d18)
    (a19:PySem.W.nsIn K mainGlobals "must_be_sentence" = some (some (.ref f19)))
    (F19:Fun K "must_be_sentence" "must_be_sentence" S_must_be_sentence f19 d19)
    (a20:PySem.W.nsIn K mainGlobals "must_have_mark" = some (some (.ref f20)))
    (F20:Fun K "must_have_mark" "must_have_mark" S_must_have_mark f20 d20)
    (a21:PySem.W.nsIn K mainGlobals "must_have_marks" = some (some (.ref f21)))
    (F21:Fun K "must_have_marks" "must_have_marks" S_must_have_marks f21 d21)
    (a22:PySem.W.nsIn K mainGlobals "tuples_in" = some (some (.ref f22)))
    (F22:Fun K "tuples_in" "tuples_in" S_tuples_in f22 d22)
    (a23:PySem.W.nsIn K mainGlobals "letters_in" = some (some (.ref f23)))
    (F23:Fun K "letters_in" "letters_in" S_letters_in f23 d23)
    (a24:PySem.W.nsIn K mainGlobals "table_of" = some (some (.ref f24)))
    (F24:Fun K "table_of" "table_of" S_table_of f24 d24)
    (a25:PySem.W.nsIn K mainGlobals "table_of_two" = some (some (.ref f25)))
    (F25:Fun K "table_of_two" "table_of_two" S_table_of_two f25 d25)
    (a26:PySem.W.nsIn K mainGlobals "now_marks" = some (some (.ref f26)))
    (F26:Fun K "now_marks" "now_marks" S_now_marks f26 d26)
    (a27:PySem.W.nsIn K mainGlobals "then_marks" = some (some (.ref f27)))
    (F27:Fun K "then_marks" "then_marks" S_then_marks f27 d27)
    (a28:PySem.W.nsIn K mainGlobals "now_places" = some (some (.ref f28)))
    (F28:Fun K "now_places" "now_places" S_now_places f28 d28)
    (a29:PySem.W.nsIn K mainGlobals "then_places" = some (some (.ref f29)))
    (F29:Fun K "then_places" "then_places" S_then_places f29 d29)
    (a30:PySem.W.nsIn K mainGlobals "must_be_world" = some (some (.ref f30)))
    (F30:Fun K "must_be_world" "must_be_world" S_must_be_world f30 d30)
    (a31:PySem.W.nsIn K mainGlobals "must_be_of_now" = some (some (.ref f31)))
    (F31:Fun K "must_be_of_now" "must_be_of_now" S_must_be_of_now f31 d31)
    (a32:PySem.W.nsIn K mainGlobals "must_be_world_with" = some (some (.ref f32)))
    (F32:Fun K "must_be_world_with" "must_be_world_with" S_must_be_world_with f32 d32)
    (a33:PySem.W.nsIn K mainGlobals "image" = some (some (.ref f33)))
    (F33:Fun K "image" "image" S_image f33 d33)
    (a34:PySem.W.nsIn K mainGlobals "preimage" = some (some (.ref f34)))
    (F34:Fun K "preimage" "preimage" S_preimage f34 d34)
    (a35:PySem.W.nsIn K mainGlobals "after" = some (some (.ref f35)))
    (F35:Fun K "after" "after" S_after f35 d35)
    (a36:PySem.W.nsIn K mainGlobals "before" = some (some (.ref f36)))
    (F36:Fun K "before" "before" S_before f36 d36)
    (a37:PySem.W.nsIn K mainGlobals "for_any" = some (some (.ref f37)))
    (F37:Fun K "for_any" "for_any" S_for_any f37 d37)
    (a38:PySem.W.nsIn K mainGlobals "moved" = some (some (.ref f38)))
    (F38:Fun K "moved" "moved" S_moved f38 d38)
    (a39:PySem.W.nsIn K mainGlobals "rounds" = some (some (.ref f39)))
    (F39:Fun K "rounds" "rounds" S_rounds f39 d39)
    (a40:PySem.W.nsIn K mainGlobals "round_tables" = some (some (.ref f40)))
    (F40:Fun K "round_tables" "round_tables" S_round_tables f40 d40)
    (a41:PySem.W.nsIn K mainGlobals "reached" = some (some (.ref f41)))
    (F41:Fun K "reached" "reached" S_reached f41 d41)
    (a42:PySem.W.nsIn K mainGlobals "stays" = some (some (.ref f42)))
    (F42:Fun K "stays" "stays" S_stays f42 d42)
    (a43:PySem.W.nsIn K mainGlobals "way_to" = some (some (.ref f43)))
    (F43:Fun K "way_to" "way_to" S_way_to f43 d43)
    (a44:PySem.W.nsIn K mainGlobals "way_through" = some (some (.ref f44)))
    (F44:Fun K "way_through" "way_through" S_way_through f44 d44)
    (a45:PySem.W.nsIn K mainGlobals "first_of_now" = some (some (.ref f45)))
    (F45:Fun K "first_of_now" "first_of_now" S_first_of_now f45 d45)
    (a46:PySem.W.nsIn K mainGlobals "only" = some (some (.ref f46)))
    (F46:Fun K "only" "only" S_only f46 d46)
    (a47:PySem.W.findIn K (.ref p_Book) "__init__" = some (some (.ref f47)))
    (i47:PySem.W.isFn K (.ref f47) = true)
    (F47:Fun K "__init__" "Book.__init__" S_Book_init f47 d47)
    (a48:PySem.W.findIn K (.ref p_Book) "order" = some (some (.ref f48)))
    (i48:PySem.W.isFn K (.ref f48) = true)
    (F48:Fun K "order" "Book.order" S_Book_order f48 d48)
    (a49:PySem.W.findIn K (.ref p_Book) "size" = some (some (.ref f49)))
    (i49:PySem.W.isFn K (.ref f49) = true)
    (F49:Fun K "size" "Book.size" S_Book_size f49 d49)
    (a50:PySem.W.findIn K (.ref p_Book) "enter" = some (some (.ref f50)))
    (i50:PySem.W.isFn K (.ref f50) = true)
    (F50:Fun K "enter" "Book.enter" S_Book_enter f50 d50)
    (a51:PySem.W.findIn K (.ref p_Book) "room" = some (some (.ref f51)))
    (i51:PySem.W.isFn K (.ref f51) = true)
    (F51:Fun K "room" "Book.room" S_Book_room f51 d51)
    (a52:PySem.W.findIn K (.ref p_Book) "must_be_room" = some (some (.ref f52)))
    (i52:PySem.W.isFn K (.ref f52) = true)
    (F52:Fun K "must_be_room" "Book.must_be_room" S_Book_must_be_room f52 d52)
    (a53:PySem.W.findIn K (.ref p_Book) "place_of" = some (some (.ref f53)))
    (i53:PySem.W.isFn K (.ref f53) = true)
    (F53:Fun K "place_of" "Book.place_of" S_Book_place_of f53 d53)
    (a54:PySem.W.findIn K (.ref p_Book) "going" = some (some (.ref f54)))
    (i54:PySem.W.isFn K (.ref f54) = true)
    (F54:Fun K "going" "Book.going" S_Book_going f54 d54)
    (a55:PySem.W.findIn K (.ref p_Book) "led" = some (some (.ref f55)))
    (i55:PySem.W.isFn K (.ref f55) = true)
    (F55:Fun K "led" "Book.led" S_Book_led f55 d55)
    (a56:PySem.W.findIn K (.ref p_Book) "table_at" = some (some (.ref f56)))
    (i56:PySem.W.isFn K (.ref f56) = true)
    (F56:Fun K "table_at" "Book.table_at" S_Book_table_at f56 d56)
    (a57:PySem.W.findIn K (.ref p_Book) "room_with" = some (some (.ref f57)))
    (i57:PySem.W.isFn K (.ref f57) = true)
    (F57:Fun K "room_with" "Book.room_with" S_Book_room_with f57 d57)
    (a58:PySem.W.nsIn K mainGlobals "must_be_word" = some (some (.ref f58)))
    (F58:Fun K "must_be_word" "must_be_word" S_must_be_word f58 d58)
    (a59:PySem.W.nsIn K mainGlobals "joined" = some (some (.ref f59)))
    (F59:Fun K "joined" "joined" S_joined f59 d59)
    (a60:PySem.W.nsIn K mainGlobals "_law_cell_at" = some (some (.ref f60)))
    (F60:Fun K "_law_cell_at" "_law_cell_at" S_x_law_cell_at f60 d60)
    (a61:PySem.W.nsIn K mainGlobals "_law_draw" = some (some (.ref f61)))
    (F61:Fun K "_law_draw" "_law_draw" S_x_law_draw f61 d61)
    (a62:PySem.W.nsIn K mainGlobals "_law_sentence" = some (some (.ref f62)))
    (F62:Fun K "_law_sentence" "_law_sentence" S_x_law_sentence f62 d62)
    (a63:PySem.W.nsIn K mainGlobals "_law_world" = some (some (.ref f63)))
    (F63:Fun K "_law_world" "_law_world" S_x_law_world f63 d63)
    (a64:PySem.W.nsIn K mainGlobals "_law_now" = some (some (.ref f64)))
    (F64:Fun K "_law_now" "_law_now" S_x_law_now f64 d64)
    (a65:PySem.W.nsIn K mainGlobals "_law_counting" = some (some (.ref f65)))
    (F65:Fun K "_law_counting" "_law_counting" S_x_law_counting f65 d65)
    (a66:PySem.W.nsIn K mainGlobals "_law_single" = some (some (.ref f66)))
    (F66:Fun K "_law_single" "_law_single" S_x_law_single f66 d66)
    (a67:PySem.W.nsIn K mainGlobals "_law_both" = some (some (.ref f67)))
    (F67:Fun K "_law_both" "_law_both" S_x_law_both f67 d67)
    (a68:PySem.W.nsIn K mainGlobals "_law_told_place" = some (some (.ref f68)))
    (F68:Fun K "_law_told_place" "_law_told_place" S_x_law_told_place f68 d68)
    (a69:PySem.W.nsIn K mainGlobals "_law_in" = some (some (.ref f69)))
    (F69:Fun K "_law_in" "_law_in" S_x_law_in f69 d69)
    (a70:PySem.W.nsIn K mainGlobals "law" = some (some (.ref f70)))
    (F70:Fun K "law" "law" S_law f70 d70)
    (pg_Book:PySem.W.plainGet K p_Book Str.empty = true)
    (hd_Book:PySem.W.hasDictIn K p_Book = true)
    (po_Book:PySem.W.plainOver K p_Book = true)
    (sa_Book:PySem.W.findIn K (.ref p_Book) "__setattr__" = some (some (.builtin "object.__setattr__")))
    (mk_Book:PySem.W.makesIn K p_Book = true)
    (kc_Book:PySem.W.keepIn K (.ref p_Book) = true)
    (na_Book_marks:PySem.W.findIn K (.ref p_Book) "marks" = some none)
    (na_Book_rooms:PySem.W.findIn K (.ref p_Book) "rooms" = some none)
    (na_Book_tables:PySem.W.findIn K (.ref p_Book) "tables" = some none)
    (na_Book_numbers:PySem.W.findIn K (.ref p_Book) "numbers" = some none)
    (a_MARKS:PySem.W.nsIn K mainGlobals "MARKS" = some (some (.ref p_MARKS)))
    (l_MARKS:K.lookup p_MARKS = some ⟨.type "tuple", od_MARKS,.seq it_MARKS n_MARKS,sl_MARKS⟩)
    (v_MARKS:it_MARKS.toList.map absV = ((["a", "b", "c", "d", "e", "f", "g", "h"]:List Str).map V.str).map some)
    (a_MOST_TUPLES:PySem.W.nsIn K mainGlobals "MOST_TUPLES" = some (some (.int 200 t_MOST_TUPLES)))
    (a_MOST_DEEP:PySem.W.nsIn K mainGlobals "MOST_DEEP" = some (some (.int 24 t_MOST_DEEP)))
    (a_SHAPES:PySem.W.nsIn K mainGlobals "SHAPES" = some (some (.ref p_SHAPES)))
    (l_SHAPES:K.lookup p_SHAPES = some ⟨.type "dict", none,.dict es_SHAPES ep_SHAPES,#[]⟩)
    (e_SHAPES:es_SHAPES.toList = [⟨hashStr w "yes", .str "yes" tSHAPES_0,.ref pSHAPES_0⟩,⟨hashStr w "no", .str "no" tSHAPES_1,.ref pSHAPES_1⟩,⟨hashStr w "mark", .str "mark" tSHAPES_2,.ref pSHAPES_2⟩,⟨hashStr w "not", .str "not" tSHAPES_3,.ref pSHAPES_3⟩,⟨hashStr w "and", .str "and" tSHAPES_4,.ref pSHAPES_4⟩,⟨hashStr w "or", .str "or" tSHAPES_5,.ref pSHAPES_5⟩,⟨hashStr w "either", .str "either" tSHAPES_6,.ref pSHAPES_6⟩,⟨hashStr w "if", .str "if" tSHAPES_7,.ref pSHAPES_7⟩,⟨hashStr w "some", .str "some" tSHAPES_8,.ref pSHAPES_8⟩,⟨hashStr w "each", .str "each" tSHAPES_9,.ref pSHAPES_9⟩])
    (s_SHAPES:(p_SHAPES == sysModules) = false)
    (lSHAPES_0:K.lookup pSHAPES_0 = some ⟨.type "tuple", odSHAPES_0,.seq itSHAPES_0 nSHAPES_0,slSHAPES_0⟩)
    (vSHAPES_0:itSHAPES_0.toList.map absV = [V.int 0,V.int 0].map some)
    (lSHAPES_1:K.lookup pSHAPES_1 = some ⟨.type "tuple", odSHAPES_1,.seq itSHAPES_1 nSHAPES_1,slSHAPES_1⟩)
    (vSHAPES_1:itSHAPES_1.toList.map absV = [V.int 0,V.int 0].map some)
    (lSHAPES_2:K.lookup pSHAPES_2 = some ⟨.type "tuple", odSHAPES_2,.seq itSHAPES_2 nSHAPES_2,slSHAPES_2⟩)
    (vSHAPES_2:itSHAPES_2.toList.map absV = [V.int 1,V.int 0].map some)
    (lSHAPES_3:K.lookup pSHAPES_3 = some ⟨.type "tuple", odSHAPES_3,.seq itSHAPES_3 nSHAPES_3,slSHAPES_3⟩)
    (vSHAPES_3:itSHAPES_3.toList.map absV = [V.int 0,V.int 1].map some)
    (lSHAPES_4:K.lookup pSHAPES_4 = some ⟨.type "tuple", odSHAPES_4,.seq itSHAPES_4 nSHAPES_4,slSHAPES_4⟩)
    (vSHAPES_4:itSHAPES_4.toList.map absV = [V.int 0,V.int 2].map some)
    (lSHAPES_5:K.lookup pSHAPES_5 = some ⟨.type "tuple", odSHAPES_5,.seq itSHAPES_5 nSHAPES_5,slSHAPES_5⟩)
    (vSHAPES_5:itSHAPES_5.toList.map absV = [V.int 0,V.int 2].map some)
    (lSHAPES_6:K.lookup pSHAPES_6 = some ⟨.type "tuple", odSHAPES_6,.seq itSHAPES_6 nSHAPES_6,slSHAPES_6⟩)
    (vSHAPES_6:itSHAPES_6.toList.map absV = [V.int 0,V.int 2].map some)
    (lSHAPES_7:K.lookup pSHAPES_7 = some ⟨.type "tuple", odSHAPES_7,.seq itSHAPES_7 nSHAPES_7,slSHAPES_7⟩)
    (vSHAPES_7:itSHAPES_7.toList.map absV = [V.int 0,V.int 2].map some)
    (lSHAPES_8:K.lookup pSHAPES_8 = some ⟨.type "tuple", odSHAPES_8,.seq itSHAPES_8 nSHAPES_8,slSHAPES_8⟩)
    (vSHAPES_8:itSHAPES_8.toList.map absV = [V.int 1,V.int 1].map some)
    (lSHAPES_9:K.lookup pSHAPES_9 = some ⟨.type "tuple", odSHAPES_9,.seq itSHAPES_9 nSHAPES_9,slSHAPES_9⟩)
    (vSHAPES_9:itSHAPES_9.toList.map absV = [V.int 1,V.int 1].map some)
    (a_PAIRS:PySem.W.nsIn K mainGlobals "PAIRS" = some (some (.ref p_PAIRS)))
    (l_PAIRS:K.lookup p_PAIRS = some ⟨.type "tuple", od_PAIRS,.seq it_PAIRS n_PAIRS,sl_PAIRS⟩)
    (v_PAIRS:it_PAIRS.toList.map absV = ([.ref p_PAIRS_0,.ref p_PAIRS_1,.ref p_PAIRS_2,.ref p_PAIRS_3]:List V).map some)
    (l_PAIRS_0:K.lookup p_PAIRS_0 = some ⟨.type "tuple", od_PAIRS_0,.seq it_PAIRS_0 n_PAIRS_0,sl_PAIRS_0⟩)
    (v_PAIRS_0:it_PAIRS_0.toList.map absV = ((["a", "e"]:List Str).map V.str).map some)
    (l_PAIRS_1:K.lookup p_PAIRS_1 = some ⟨.type "tuple", od_PAIRS_1,.seq it_PAIRS_1 n_PAIRS_1,sl_PAIRS_1⟩)
    (v_PAIRS_1:it_PAIRS_1.toList.map absV = ((["b", "f"]:List Str).map V.str).map some)
    (l_PAIRS_2:K.lookup p_PAIRS_2 = some ⟨.type "tuple", od_PAIRS_2,.seq it_PAIRS_2 n_PAIRS_2,sl_PAIRS_2⟩)
    (v_PAIRS_2:it_PAIRS_2.toList.map absV = ((["c", "g"]:List Str).map V.str).map some)
    (l_PAIRS_3:K.lookup p_PAIRS_3 = some ⟨.type "tuple", od_PAIRS_3,.seq it_PAIRS_3 n_PAIRS_3,sl_PAIRS_3⟩)
    (v_PAIRS_3:it_PAIRS_3.toList.map absV = ((["d", "h"]:List Str).map V.str).map some)
    (z_all:PySem.W.nsIn K mainGlobals "all" = some none)
    (z_isinstance:PySem.W.nsIn K mainGlobals "isinstance" = some none)
    (z_len:PySem.W.nsIn K mainGlobals "len" = some none)
    (z_list:PySem.W.nsIn K mainGlobals "list" = some none)
    (z_range:PySem.W.nsIn K mainGlobals "range" = some none)
    (z_reversed:PySem.W.nsIn K mainGlobals "reversed" = some none)
    (z_set:PySem.W.nsIn K mainGlobals "set" = some none)
    (z_str:PySem.W.nsIn K mainGlobals "str" = some none)
    (z_sum:PySem.W.nsIn K mainGlobals "sum" = some none)
    (z_tuple:PySem.W.nsIn K mainGlobals "tuple" = some none)
    (z_zip:PySem.W.nsIn K mainGlobals "zip" = some none) :
    ∃ a:Ad,Txt P w K mg a:=by
  exact ⟨⟨f0,d0,f1,d1,f2,d2,f3,d3,f4,d4,f5,d5,f6,d6,f7,d7,f8,d8,f9,d9,f10,d10,f11,d11,f12,d12,f13,d13,f14,d14,f15,d15,f16,d16,f17,d17,f18,d18,f19,d19,f20,d20,f21,d21,f22,d22,f23,d23,f24,d24,f25,d25,f26,d26,f27,d27,f28,d28,f29,d29,f30,d30,f31,d31,f32,d32,f33,d33,f34,d34,f35,d35,f36,d36,f37,d37,f38,d38,f39,d39,f40,d40,f41,d41,f42,d42,f43,d43,f44,d44,f45,d45,f46,d46,f47,d47,f48,d48,f49,d49,f50,d50,f51,d51,f52,d52,f53,d53,f54,d54,f55,d55,f56,d56,f57,d57,f58,d58,f59,d59,f60,d60,f61,d61,f62,d62,f63,d63,f64,d64,f65,d65,f66,d66,f67,d67,f68,d68,f69,d69,f70,d70,p_Book,p_MARKS,t_MOST_TUPLES,t_MOST_DEEP,p_SHAPES,[("yes", .ref pSHAPES_0),("no", .ref pSHAPES_1),("mark", .ref pSHAPES_2),("not", .ref pSHAPES_3),("and", .ref pSHAPES_4),("or", .ref pSHAPES_5),("either", .ref pSHAPES_6),("if", .ref pSHAPES_7),("some", .ref pSHAPES_8),("each", .ref pSHAPES_9)],p_PAIRS,p_PAIRS_0,p_PAIRS_1,p_PAIRS_2,p_PAIRS_3⟩,{
    m_Book:=PySem.W.mg_of X G a_Book
    F_all_rows:=F0
    b_all_rows:=F0.binds fun _ _ _ _ _ _ us hl=>match us,hl with | [_],_=>rfl
    m_all_rows:=PySem.W.mg_of X G a0
    F_rows_with:=F1
    b_rows_with:=F1.binds fun _ _ _ _ _ _ us hl=>match us,hl with | [_,_],_=>rfl
    m_rows_with:=PySem.W.mg_of X G a1
    F_flipped:=F2
    b_flipped:=F2.binds fun _ _ _ _ _ _ us hl=>match us,hl with | [_,_,_],_=>rfl
    m_flipped:=PySem.W.mg_of X G a2
    F_held_at:=F3
    b_held_at:=F3.binds fun _ _ _ _ _ _ us hl=>match us,hl with | [_,_,_,_],_=>rfl
    m_held_at:=PySem.W.mg_of X G a3
    F_hangs_on:=F4
    b_hangs_on:=F4.binds fun _ _ _ _ _ _ us hl=>match us,hl with | [_,_,_],_=>rfl
    m_hangs_on:=PySem.W.mg_of X G a4
    F_first_place:=F5
    b_first_place:=F5.binds fun _ _ _ _ _ _ us hl=>match us,hl with | [_,_],_=>rfl
    m_first_place:=PySem.W.mg_of X G a5
    F_without:=F6
    b_without:=F6.binds fun _ _ _ _ _ _ us hl=>match us,hl with | [_,_],_=>rfl
    m_without:=PySem.W.mg_of X G a6
    F_rows_having:=F7
    b_rows_having:=F7.binds fun _ _ _ _ _ _ us hl=>match us,hl with | [_,_,_],_=>rfl
    m_rows_having:=PySem.W.mg_of X G a7
    F_first_values:=F8
    b_first_values:=F8.binds fun _ _ _ _ _ _ us hl=>match us,hl with | [_,_,_],_=>rfl
    m_first_values:=PySem.W.mg_of X G a8
    F_chosen:=F9
    b_chosen:=F9.binds fun _ _ _ _ _ _ us hl=>match us,hl with | [_,_,_],_=>rfl
    m_chosen:=PySem.W.mg_of X G a9
    F_joined_by:=F10
    b_joined_by:=F10.binds fun _ _ _ _ _ _ us hl=>match us,hl with | [_,_,_,_],_=>rfl
    m_joined_by:=PySem.W.mg_of X G a10
    F_is_mark:=F11
    b_is_mark:=F11.binds fun _ _ _ _ _ _ us hl=>match us,hl with | [_],_=>rfl
    m_is_mark:=PySem.W.mg_of X G a11
    F_is_order:=F12
    b_is_order:=F12.binds fun _ _ _ _ _ _ us hl=>match us,hl with | [_],_=>rfl
    m_is_order:=PySem.W.mg_of X G a12
    F_letters_of:=F13
    b_letters_of:=F13.binds fun _ _ _ _ _ _ us hl=>match us,hl with | [_],_=>rfl
    m_letters_of:=PySem.W.mg_of X G a13
    F_parts_of:=F14
    b_parts_of:=F14.binds fun _ _ _ _ _ _ us hl=>match us,hl with | [_],_=>rfl
    m_parts_of:=PySem.W.mg_of X G a14
    F_parts_of_all:=F15
    b_parts_of_all:=F15.binds fun _ _ _ _ _ _ us hl=>match us,hl with | [_],_=>rfl
    m_parts_of_all:=PySem.W.mg_of X G a15
    F_is_shaped:=F16
    b_is_shaped:=F16.binds fun _ _ _ _ _ _ us hl=>match us,hl with | [_],_=>rfl
    m_is_shaped:=PySem.W.mg_of X G a16
    F_is_sentence:=F17
    b_is_sentence:=F17.binds fun _ _ _ _ _ _ us hl=>match us,hl with | [_],_=>rfl
    m_is_sentence:=PySem.W.mg_of X G a17
    F_must_be_order:=F18
    b_must_be_order:=F18.binds fun _ _ _ _ _ _ us hl=>match us,hl with | [_],_=>rfl
    m_must_be_order:=PySem.W.mg_of X G a18
    F_must_be_sentence:=F19
    b_must_be_sentence:=F19.binds fun _ _ _ _ _ _ us hl=>match us,hl with | [_],_=>rfl
    m_must_be_sentence:=PySem.W.mg_of X G a19
    F_must_have_mark:=F20
    b_must_have_mark:=F20.binds fun _ _ _ _ _ _ us hl=>match us,hl with | [_,_],_=>rfl
    m_must_have_mark:=PySem.W.mg_of X G a20
    F_must_have_marks:=F21
    b_must_have_marks:=F21.binds fun _ _ _ _ _ _ us hl=>match us,hl with | [_,_],_=>rfl
    m_must_have_marks:=PySem.W.mg_of X G a21
    F_tuples_in:=F22
    b_tuples_in:=F22.binds fun _ _ _ _ _ _ us hl=>match us,hl with | [_],_=>rfl
    m_tuples_in:=PySem.W.mg_of X G a22
    F_letters_in:=F23
    b_letters_in:=F23.binds fun _ _ _ _ _ _ us hl=>match us,hl with | [_],_=>rfl
    m_letters_in:=PySem.W.mg_of X G a23
    F_table_of:=F24
    b_table_of:=F24.binds fun _ _ _ _ _ _ us hl=>match us,hl with | [_,_],_=>rfl
    m_table_of:=PySem.W.mg_of X G a24
    F_table_of_two:=F25
    b_table_of_two:=F25.binds fun _ _ _ _ _ _ us hl=>match us,hl with | [_,_,_,_],_=>rfl
    m_table_of_two:=PySem.W.mg_of X G a25
    F_now_marks:=F26
    b_now_marks:=F26.binds fun _ _ _ _ _ _ us hl=>match us,hl with | [_],_=>rfl
    m_now_marks:=PySem.W.mg_of X G a26
    F_then_marks:=F27
    b_then_marks:=F27.binds fun _ _ _ _ _ _ us hl=>match us,hl with | [_],_=>rfl
    m_then_marks:=PySem.W.mg_of X G a27
    F_now_places:=F28
    b_now_places:=F28.binds fun _ _ _ _ _ _ us hl=>match us,hl with | [_],_=>rfl
    m_now_places:=PySem.W.mg_of X G a28
    F_then_places:=F29
    b_then_places:=F29.binds fun _ _ _ _ _ _ us hl=>match us,hl with | [_],_=>rfl
    m_then_places:=PySem.W.mg_of X G a29
    F_must_be_world:=F30
    b_must_be_world:=F30.binds fun _ _ _ _ _ _ us hl=>match us,hl with | [_],_=>rfl
    m_must_be_world:=PySem.W.mg_of X G a30
    F_must_be_of_now:=F31
    b_must_be_of_now:=F31.binds fun _ _ _ _ _ _ us hl=>match us,hl with | [_,_],_=>rfl
    m_must_be_of_now:=PySem.W.mg_of X G a31
    F_must_be_world_with:=F32
    b_must_be_world_with:=F32.binds fun _ _ _ _ _ _ us hl=>match us,hl with | [_,_,_],_=>rfl
    m_must_be_world_with:=PySem.W.mg_of X G a32
    F_image:=F33
    b_image:=F33.binds fun _ _ _ _ _ _ us hl=>match us,hl with | [_,_,_],_=>rfl
    m_image:=PySem.W.mg_of X G a33
    F_preimage:=F34
    b_preimage:=F34.binds fun _ _ _ _ _ _ us hl=>match us,hl with | [_,_,_],_=>rfl
    m_preimage:=PySem.W.mg_of X G a34
    F_after:=F35
    b_after:=F35.binds fun _ _ _ _ _ _ us hl=>match us,hl with | [_,_,_],_=>rfl
    m_after:=PySem.W.mg_of X G a35
    F_before:=F36
    b_before:=F36.binds fun _ _ _ _ _ _ us hl=>match us,hl with | [_,_,_],_=>rfl
    m_before:=PySem.W.mg_of X G a36
    F_for_any:=F37
    b_for_any:=F37.binds fun _ _ _ _ _ _ us hl=>match us,hl with | [_,_,_],_=>rfl
    m_for_any:=PySem.W.mg_of X G a37
    F_moved:=F38
    b_moved:=F38.binds fun _ _ _ _ _ _ us hl=>match us,hl with | [_,_,_,_],_=>rfl
    m_moved:=PySem.W.mg_of X G a38
    F_rounds:=F39
    b_rounds:=F39.binds fun _ _ _ _ _ _ us hl=>match us,hl with | [_,_,_],_=>rfl
    m_rounds:=PySem.W.mg_of X G a39
    F_round_tables:=F40
    b_round_tables:=F40.binds fun _ _ _ _ _ _ us hl=>match us,hl with | [_,_,_],_=>rfl
    m_round_tables:=PySem.W.mg_of X G a40
    F_reached:=F41
    b_reached:=F41.binds fun _ _ _ _ _ _ us hl=>match us,hl with | [_,_,_],_=>rfl
    m_reached:=PySem.W.mg_of X G a41
    F_stays:=F42
    b_stays:=F42.binds fun _ _ _ _ _ _ us hl=>match us,hl with | [_,_,_],_=>rfl
    m_stays:=PySem.W.mg_of X G a42
    F_way_to:=F43
    b_way_to:=F43.binds fun _ _ _ _ _ _ us hl=>match us,hl with | [_,_,_,_],_=>rfl
    m_way_to:=PySem.W.mg_of X G a43
    F_way_through:=F44
    b_way_through:=F44.binds fun _ _ _ _ _ _ us hl=>match us,hl with | [_,_,_,_],_=>rfl
    m_way_through:=PySem.W.mg_of X G a44
    F_first_of_now:=F45
    b_first_of_now:=F45.binds fun _ _ _ _ _ _ us hl=>match us,hl with | [_,_],_=>rfl
    m_first_of_now:=PySem.W.mg_of X G a45
    F_only:=F46
    b_only:=F46.binds fun _ _ _ _ _ _ us hl=>match us,hl with | [_,_],_=>rfl
    m_only:=PySem.W.mg_of X G a46
    F_Book_init:=F47
    b_Book_init:=F47.binds fun _ _ _ _ _ _ us hl=>match us,hl with | [_,_],_=>rfl
    e_Book_init:=⟨a47,i47,F47.2⟩
    mk_Book:=⟨mk_Book,a47,i47,kc_Book⟩
    F_Book_order:=F48
    b_Book_order:=F48.binds fun _ _ _ _ _ _ us hl=>match us,hl with | [_],_=>rfl
    e_Book_order:=⟨a48,i48,F48.2⟩
    F_Book_size:=F49
    b_Book_size:=F49.binds fun _ _ _ _ _ _ us hl=>match us,hl with | [_],_=>rfl
    e_Book_size:=⟨a49,i49,F49.2⟩
    F_Book_enter:=F50
    b_Book_enter:=F50.binds fun _ _ _ _ _ _ us hl=>match us,hl with | [_,_],_=>rfl
    e_Book_enter:=⟨a50,i50,F50.2⟩
    F_Book_room:=F51
    b_Book_room:=F51.binds fun _ _ _ _ _ _ us hl=>match us,hl with | [_,_],_=>rfl
    e_Book_room:=⟨a51,i51,F51.2⟩
    F_Book_must_be_room:=F52
    b_Book_must_be_room:=F52.binds fun _ _ _ _ _ _ us hl=>match us,hl with | [_,_],_=>rfl
    e_Book_must_be_room:=⟨a52,i52,F52.2⟩
    F_Book_place_of:=F53
    b_Book_place_of:=F53.binds fun _ _ _ _ _ _ us hl=>match us,hl with | [_,_],_=>rfl
    e_Book_place_of:=⟨a53,i53,F53.2⟩
    F_Book_going:=F54
    b_Book_going:=F54.binds fun _ _ _ _ _ _ us hl=>match us,hl with | [_,_,_],_=>rfl
    e_Book_going:=⟨a54,i54,F54.2⟩
    F_Book_led:=F55
    b_Book_led:=F55.binds fun _ _ _ _ _ _ us hl=>match us,hl with | [_,_,_,_],_=>rfl
    e_Book_led:=⟨a55,i55,F55.2⟩
    F_Book_table_at:=F56
    b_Book_table_at:=F56.binds fun _ _ _ _ _ _ us hl=>match us,hl with | [_,_],_=>rfl
    e_Book_table_at:=⟨a56,i56,F56.2⟩
    F_Book_room_with:=F57
    b_Book_room_with:=F57.binds fun _ _ _ _ _ _ us hl=>match us,hl with | [_,_],_=>rfl
    e_Book_room_with:=⟨a57,i57,F57.2⟩
    F_must_be_word:=F58
    b_must_be_word:=F58.binds fun _ _ _ _ _ _ us hl=>match us,hl with | [_],_=>rfl
    m_must_be_word:=PySem.W.mg_of X G a58
    F_joined:=F59
    b_joined:=F59.binds fun _ _ _ _ _ _ us hl=>match us,hl with | [_,_,_,_],_=>rfl
    m_joined:=PySem.W.mg_of X G a59
    F_x_law_cell_at:=F60
    b_x_law_cell_at:=F60.binds fun _ _ _ _ _ _ us hl=>match us,hl with | [_,_],_=>rfl
    m_x_law_cell_at:=PySem.W.mg_of X G a60
    F_x_law_draw:=F61
    b_x_law_draw:=F61.binds fun _ _ _ _ _ _ us hl=>match us,hl with | [_,_,_],_=>rfl
    m_x_law_draw:=PySem.W.mg_of X G a61
    F_x_law_sentence:=F62
    b_x_law_sentence:=F62.binds fun _ _ _ _ _ _ us hl=>match us,hl with | [_,_,_,_],_=>rfl
    m_x_law_sentence:=PySem.W.mg_of X G a62
    F_x_law_world:=F63
    b_x_law_world:=F63.binds fun _ _ _ _ _ _ us hl=>match us,hl with | [_],_=>rfl
    m_x_law_world:=PySem.W.mg_of X G a63
    F_x_law_now:=F64
    b_x_law_now:=F64.binds fun _ _ _ _ _ _ us hl=>match us,hl with | [_],_=>rfl
    m_x_law_now:=PySem.W.mg_of X G a64
    F_x_law_counting:=F65
    b_x_law_counting:=F65.binds fun _ _ _ _ _ _ us hl=>match us,hl with | [_],_=>rfl
    m_x_law_counting:=PySem.W.mg_of X G a65
    F_x_law_single:=F66
    b_x_law_single:=F66.binds fun _ _ _ _ _ _ us hl=>match us,hl with | [_,_],_=>rfl
    m_x_law_single:=PySem.W.mg_of X G a66
    F_x_law_both:=F67
    b_x_law_both:=F67.binds fun _ _ _ _ _ _ us hl=>match us,hl with | [_],_=>rfl
    m_x_law_both:=PySem.W.mg_of X G a67
    F_x_law_told_place:=F68
    b_x_law_told_place:=F68.binds fun _ _ _ _ _ _ us hl=>match us,hl with | [_,_,_],_=>rfl
    m_x_law_told_place:=PySem.W.mg_of X G a68
    F_x_law_in:=F69
    b_x_law_in:=F69.binds fun _ _ _ _ _ _ us hl=>match us,hl with | [_,_,_],_=>rfl
    m_x_law_in:=PySem.W.mg_of X G a69
    F_law:=F70
    b_law:=F70.binds fun _ _ _ _ _ _ us hl=>match us,hl with | [_],_=>rfl
    m_law:=PySem.W.mg_of X G a70
    c_Book:=⟨pg_Book,hd_Book,po_Book,sa_Book⟩
    na_Book_marks:=na_Book_marks
    na_Book_rooms:=na_Book_rooms
    na_Book_tables:=na_Book_tables
    na_Book_numbers:=na_Book_numbers
    x_law:=by
      obtain ⟨_,_,_,_,_,_,_,_,_,rfl,_,_⟩:=F70.ex
      exact fun s u=>.of_eq rfl
    m_MARKS:=PySem.W.mg_of X G a_MARKS
    q_MARKS:=fun H=>sqT_K l_MARKS v_MARKS (by decide)
    m_MOST_TUPLES:=PySem.W.mg_of X G a_MOST_TUPLES
    m_MOST_DEEP:=PySem.W.mg_of X G a_MOST_DEEP
    m_SHAPES:=PySem.W.mg_of X G a_SHAPES
    d_SHAPES:=dicK_mk l_SHAPES e_SHAPES s_SHAPES (kvs:=[("yes", .ref pSHAPES_0),("no", .ref pSHAPES_1),("mark", .ref pSHAPES_2),("not", .ref pSHAPES_3),("and", .ref pSHAPES_4),("or", .ref pSHAPES_5),("either", .ref pSHAPES_6),("if", .ref pSHAPES_7),("some", .ref pSHAPES_8),("each", .ref pSHAPES_9)]) (dk_cons (dk_cons (dk_cons (dk_cons (dk_cons (dk_cons (dk_cons (dk_cons (dk_cons (dk_cons (dk_nil))))))))))) (by show (["yes", "no", "mark", "not", "and", "or", "either", "if", "some", "each"]:List Str).Nodup; decide +kernel)
    y_SHAPES:=by
      intro k m n h
      simp only [tb_SHAPES,List.mem_cons,List.not_mem_nil,or_false,Prod.mk.injEq] at h
      rcases h with ⟨rfl,rfl,rfl⟩ | ⟨rfl,rfl,rfl⟩ | ⟨rfl,rfl,rfl⟩ | ⟨rfl,rfl,rfl⟩ | ⟨rfl,rfl,rfl⟩ | ⟨rfl,rfl,rfl⟩ | ⟨rfl,rfl,rfl⟩ | ⟨rfl,rfl,rfl⟩ | ⟨rfl,rfl,rfl⟩ | ⟨rfl,rfl,rfl⟩
      · exact ⟨_,rfl,fun H=>sqT_K lSHAPES_0 vSHAPES_0 (by decide)⟩
      · exact ⟨_,rfl,fun H=>sqT_K lSHAPES_1 vSHAPES_1 (by decide)⟩
      · exact ⟨_,rfl,fun H=>sqT_K lSHAPES_2 vSHAPES_2 (by decide)⟩
      · exact ⟨_,rfl,fun H=>sqT_K lSHAPES_3 vSHAPES_3 (by decide)⟩
      · exact ⟨_,rfl,fun H=>sqT_K lSHAPES_4 vSHAPES_4 (by decide)⟩
      · exact ⟨_,rfl,fun H=>sqT_K lSHAPES_5 vSHAPES_5 (by decide)⟩
      · exact ⟨_,rfl,fun H=>sqT_K lSHAPES_6 vSHAPES_6 (by decide)⟩
      · exact ⟨_,rfl,fun H=>sqT_K lSHAPES_7 vSHAPES_7 (by decide)⟩
      · exact ⟨_,rfl,fun H=>sqT_K lSHAPES_8 vSHAPES_8 (by decide)⟩
      · exact ⟨_,rfl,fun H=>sqT_K lSHAPES_9 vSHAPES_9 (by decide)⟩
    z_SHAPES:=by
      intro k h
      refine vals_none fun e he=>?_
      simp only [List.mem_cons,List.not_mem_nil,or_false] at he
      rcases he with rfl | rfl | rfl | rfl | rfl | rfl | rfl | rfl | rfl | rfl
      · exact h ("yes", 0,0) (by decide +kernel)
      · exact h ("no", 0,0) (by decide +kernel)
      · exact h ("mark", 1,0) (by decide +kernel)
      · exact h ("not", 0,1) (by decide +kernel)
      · exact h ("and", 0,2) (by decide +kernel)
      · exact h ("or", 0,2) (by decide +kernel)
      · exact h ("either", 0,2) (by decide +kernel)
      · exact h ("if", 0,2) (by decide +kernel)
      · exact h ("some", 1,1) (by decide +kernel)
      · exact h ("each", 1,1) (by decide +kernel)
    m_PAIRS:=PySem.W.mg_of X G a_PAIRS
    q_PAIRS:=fun H=>sqT_K l_PAIRS v_PAIRS (by show 4≤1000; decide)
    q_PAIRS_0:=fun H=>sqT_K l_PAIRS_0 v_PAIRS_0 (by decide)
    q_PAIRS_1:=fun H=>sqT_K l_PAIRS_1 v_PAIRS_1 (by decide)
    q_PAIRS_2:=fun H=>sqT_K l_PAIRS_2 v_PAIRS_2 (by decide)
    q_PAIRS_3:=fun H=>sqT_K l_PAIRS_3 v_PAIRS_3 (by decide)
    n_all:=PySem.W.mg_none_of X G z_all
    n_isinstance:=PySem.W.mg_none_of X G z_isinstance
    n_len:=PySem.W.mg_none_of X G z_len
    n_list:=PySem.W.mg_none_of X G z_list
    n_range:=PySem.W.mg_none_of X G z_range
    n_reversed:=PySem.W.mg_none_of X G z_reversed
    n_set:=PySem.W.mg_none_of X G z_set
    n_str:=PySem.W.mg_none_of X G z_str
    n_sum:=PySem.W.mg_none_of X G z_sum
    n_tuple:=PySem.W.mg_none_of X G z_tuple
    n_zip:=PySem.W.mg_none_of X G z_zip }⟩
end K77
namespace K77
open PySem L2 Sen
section
variable {P:Program} {w:World} {K:PySem.W.Frag} {mg:Str→Option Value} {base:Heap} {a:Ad} {k:Nat}
theorem ok_all_rows (T:Txt P w K mg a):FnOk P w K mg base CX0 (k + 1) a.a_all_rows a.d_all_rows ["marks"] spAllRows:=by
  refine T.F_all_rows.ok sc_all_rows (fun vs H Q E h=>?_) (fun cdv A outer s H vs Q E hr h=>?_)
  · obtain ⟨n,rfl,_⟩:=h
    rfl
  obtain ⟨n,rfl,hn,q⟩:=h
  refine ⟨_,(pss_one (ps_ret (pe_op op_sub (pe_op op_shlN pe_int (pe_op op_shlN pe_int (pv 0))) pe_int))),?_⟩
  have h1:=two8 hn
  have one:1 < 2 ^ 10000:=lt10k (k:=1) (by decide) (by decide)
  refine ⟨_,rfl,1,n,rfl,rfl,one,by omega,1,1 * 2 ^ n,rfl,rfl,one,by omega,_,1,rfl,rfl,?_⟩
  have e:(((1 * 2 ^ (1 * 2 ^ n):Nat):Int) - 1) = ((2 ^ 2 ^ n - 1:Nat):Int):=by
    rw [Nat.one_mul,Nat.one_mul]
    have:=Nat.two_pow_pos (2 ^ n)
    omega
  show Q (.int (((1 * 2 ^ (1 * 2 ^ n):Nat):Int) - 1)) H
  rw [e]
  exact q
theorem ok_rows_with (T:Txt P w K mg a):FnOk P w K mg base CX0 (k + 1) a.a_rows_with a.d_rows_with ["place", "marks"] spRowsWith:=by
  refine T.F_rows_with.ok sc_rows_with (fun vs H Q E h=>?_) (fun cdv A outer s H vs Q E hr h=>?_)
  · obtain ⟨p,n,rfl,_⟩:=h
    rfl
  obtain ⟨p,n,rfl,hp,hn,q⟩:=h
  refine ⟨_,(pss_cons (ps_set (i:=2) sc_rows_with.nd rfl (Or.inl rfl) (pe_op op_shlN pe_int (pv 0)))
      (pss_cons (ps_set (i:=3) sc_rows_with.nd rfl (Or.inl rfl) (pe_op op_shlN (pe_op op_sub (pe_op op_shlN pe_int (pv 2)) pe_int) (pv 2)))
      (pss_cons (ps_for PassesOwn.never rfl (pi_range2 rfl T.n_range (pa_cons (pe_op op_add (pv 0) pe_int) (pa_cons (pv 1) pa_nil))) (pg_name (i:=4) sc_rows_with.nd rfl (Or.inl rfl)) (pss_one (ps_set (i:=3) sc_rows_with.nd rfl (Or.inl rfl) (pe_op op_orN (pv 3) (pe_op op_shlN (pv 3) (pe_op op_shlN pe_int (pv 4)))))))
      (pss_one (ps_ret (pv 3)))))),?_⟩
  have one:1 < 2 ^ 10000:=lt10k (k:=1) (by decide) (by decide)
  have h1:=two8 (n:=p) (by omega)
  have hh:2 ^ p < 2 ^ 10000:=Nat.pow_lt_pow_right (by decide) (by omega)
  have pp:=Nat.two_pow_pos (2 ^ p)
  have e1:((1 * 2 ^ (1 * 2 ^ p):Nat):Int) - 1 = ((2 ^ 2 ^ p - 1:Nat):Int):=by
    rw [Nat.one_mul,Nat.one_mul]
    omega
  have lt1:2 ^ 2 ^ p - 1 < 2 ^ 10000:=Nat.lt_of_lt_of_le (Nat.sub_lt pp (by decide)) (Nat.pow_le_pow_right (by decide) (by omega))
  refine ⟨_,rfl,1,p,rfl,rfl,one,by omega,?_⟩
  refine ⟨_,rfl,1,1 * 2 ^ p,rfl,rfl,one,by omega,_,1,rfl,rfl,_,rfl,2 ^ 2 ^ p - 1,1 * 2 ^ p,congrArg V.int e1,rfl,lt1,by omega,?_⟩
  refine ⟨_,rfl,_,1,rfl,rfl,_,rfl,(p:Int) + 1,(n:Int),rfl,⟨by omega,by omega,by omega,by omega⟩,?_⟩
  refine for_range (fun i σ H'=>H' = H∧∃ (N:Nat) (f:Option V),σ = [some (.int p),some (.int n),some (.int ((1 * 2 ^ p:Nat):Int)),some (.int N),f]∧IsTab (p + 1 + i) N (fun b=>b.testBit p)) ⟨rfl,_,_,rfl,?_⟩ ?_ ?_
  · rw [Nat.one_mul]
    exact tab_block p
  · rintro i σ H' hi ⟨rfl,N,f,rfl,tb⟩
    have hi':p + 1 + i < n:=by omega
    have h2:=two8 (n:=p + 1 + i) (by omega)
    have e2:V.int ((p:Int) + 1 + (i:Nat)) = V.int ((p + 1 + i:Nat):Int):=congrArg V.int (by omega)
    have lt2:N < 2 ^ 10000:=lt10k (tab_lt tb) (Nat.le_trans h2 (by decide))
    refine ⟨_,rfl,_,rfl,_,rfl,1,p + 1 + i,rfl,e2,one,by omega,N,1 * 2 ^ (p + 1 + i),rfl,rfl,lt2,by omega,N,N * 2 ^ (1 * 2 ^ (p + 1 + i)),rfl,rfl,?_⟩
    refine ⟨rfl,_,_,rfl,?_⟩
    rw [Nat.one_mul]
    exact tab_double (m:=p + 1 + i) (by omega) tb
  · rintro σ H' ⟨rfl,N,f,rfl,tb⟩
    have e3:p + 1 + ((n:Int) - ((p:Int) + 1)).toNat = n:=by omega
    rw [e3] at tb
    exact ⟨_,rfl,q N tb⟩
theorem ok_flipped (T:Txt P w K mg a) (G_rows_with:FnOk P w K mg base CX0 k a.a_rows_with a.d_rows_with ["place", "marks"] spRowsWith):FnOk P w K mg base CX0 (k + 1) a.a_flipped a.d_flipped ["table", "place", "marks"] spFlipped:=by
  refine T.F_flipped.ok sc_flipped (fun vs H Q E h=>?_) (fun cdv A outer s H vs Q E hr h=>?_)
  · obtain ⟨N,p,n,f,rfl,_⟩:=h
    rfl
  obtain ⟨N,p,n,f,rfl,hp,hn,tb,q⟩:=h
  refine ⟨_,(pss_cons (ps_set (i:=3) sc_flipped.nd rfl (Or.inl rfl) (pe_op op_andN (pv 0) (pe_call G_rows_with hr rfl T.m_rows_with T.F_rows_with.2 T.b_rows_with .nil pass0 (pa_cons (pv 1) (pa_cons (pv 2) pa_nil)))))
      (pss_cons (ps_set (i:=4) sc_flipped.nd rfl (Or.inl rfl) (pe_op op_xorN (pv 0) (pv 3)))
      (pss_one (ps_ret (pe_op op_orN (pe_op op_shrN (pv 3) (pe_op op_shlN pe_int (pv 1))) (pe_op op_shlN (pv 4) (pe_op op_shlN pe_int (pv 1)))))))),?_⟩
  have one:1 < 2 ^ 10000:=lt10k (k:=1) (by decide) (by decide)
  have h1:=two8 (n:=p) (by omega)
  have h2:=two8 (n:=n) (by omega)
  refine ⟨_,rfl,_,rfl,_,rfl,p,n,rfl,hp,hn,fun R tr=>?_⟩
  refine ⟨N,R,rfl,rfl,?_⟩
  refine ⟨_,rfl,_,rfl,N,N &&& R,rfl,rfl,?_⟩
  have o:=tab_and tb tr
  have z:=tab_xor tb o
  have lt2:N ^^^ (N &&& R) < 2 ^ 10000:=lt10k (tab_lt z) (Nat.le_trans h2 (by decide))
  refine ⟨_,rfl,_,rfl,1,p,rfl,rfl,one,by omega,N &&& R,1 * 2 ^ p,rfl,rfl,_,rfl,_,rfl,1,p,rfl,rfl,one,by omega,N ^^^ (N &&& R),1 * 2 ^ p,rfl,rfl,lt2,by omega,_,_,rfl,rfl,?_⟩
  refine q _ ?_
  rw [Nat.one_mul]
  exact tab_flip hp tb tr
theorem ok_cell_at (T:Txt P w K mg a):FnOk P w K mg base CX0 (k + 1) a.a_x_law_cell_at a.d_x_law_cell_at ["script", "k"] (spCellAt K):=by
  refine T.F_x_law_cell_at.ok sc_x_law_cell_at (fun vs H Q E h=>?_) (fun cdv A outer s H vs Q E hr h=>?_)
  · obtain ⟨l,ns,i,rfl,_⟩:=h
    rfl
  obtain ⟨l,ns,i,rfl,hS,h0,q⟩:=h
  refine ⟨_,(pss_cons (ps_if (pt_cmpR op_lt (pv 1) (pe_callB call_len_seq rfl T.n_len bt_len (pa_cons (pv 0) pa_nil)) (nomark _)) (pss_one (ps_ret (pe_ix ix_list (pv 0) (pv 1) (fun _ _=>rfl)))) pss_nil)
      (pss_one (ps_ret pe_int))),?_⟩
  refine ⟨_,rfl,_,rfl,l,_,rfl,.inl hS,_,_,rfl,rfl,_,rfl,?_⟩
  refine ite2 (fun c=>?_) (fun c=>?_)
  · have c':i < (((ns.map V.int).length:Nat):Int):=of_decide_eq_true c
    rw [List.length_map] at c'
    have hi:i.toNat < ns.length:=by omega
    have e:atI (ns.map V.int) i = some (.int ns[i.toNat]):=by
      have q:=atI_nat (xs:=ns.map V.int) (j:=i.toNat) (v:=.int ns[i.toNat]) (by rw [List.getElem?_map,List.getElem?_eq_getElem hi]; rfl)
      have ei:((i.toNat:Nat):Int) = i:=by omega
      rw [ei] at q
      exact q
    exact ⟨_,rfl,_,rfl,l,_,i,_,rfl,rfl,hS,e,q _⟩
  · exact q 0
theorem ok_draw (T:Txt P w K mg a):FnOk P w K mg base CX0 (k + 1) a.a_x_law_draw a.d_x_law_draw ["cell", "k", "bound"] spDraw:=by
  refine T.F_x_law_draw.ok sc_x_law_draw (fun vs H Q E h=>?_) (fun cdv A outer s H vs Q E hr h=>?_)
  · obtain ⟨c,m,b,rfl,_⟩:=h
    rfl
  obtain ⟨c,m,b,rfl,hm,b0,b1,q⟩:=h
  refine ⟨_,(pss_cons (ps_if (pt_cmpR op_ge (pv 0) (pe_op op_pow pe_int pe_int) (nomark _)) (pss_cons (ps_set (i:=4) sc_x_law_draw.nd rfl (Or.inl rfl) (pv 0))
      (pss_cons (ps_for PassesOwn.never rfl (pi_range1 rfl T.n_range (pa_cons (pv 1) pa_nil)) (pg_name (i:=5) sc_x_law_draw.nd rfl (Or.inl rfl)) (pss_one (ps_set (i:=4) sc_x_law_draw.nd rfl (Or.inl rfl) (pe_op op_fdiv (pv 4) (pv 2)))))
      (pss_one (ps_ret (pe_op op_mod (pv 4) (pv 2)))))) pss_nil)
      (pss_cons (ps_set (i:=3) sc_x_law_draw.nd rfl (Or.inl rfl) (pe_op op_mod (pe_op op_mul (pe_op op_add (pe_op op_add (pe_op op_mod (pv 0) pe_int) (pe_op op_mul pe_int (pv 1))) pe_int) pe_int) pe_int))
      (pss_cons (ps_set (i:=3) sc_x_law_draw.nd rfl (Or.inl rfl) (pe_op op_mod (pe_op op_add (pe_op op_add (pe_op op_mul (pv 3) (pv 3)) (pe_op op_mul pe_int (pv 1))) pe_int) pe_int))
      (pss_one (ps_ret (pe_op op_mod (pe_op op_fdiv (pe_op op_mod (pe_op op_mul (pv 3) pe_int) pe_int) pe_int) (pv 2))))))),?_⟩
  refine ⟨_,rfl,10,18,rfl,rfl,⟨by decide,by decide,by decide⟩,_,_,rfl,rfl,_,rfl,?_⟩
  refine ite2 (fun _=>?_) (fun _=>?_)
  · refine ⟨_,rfl,?_⟩
    refine ⟨_,rfl,(m:Int),rfl,by omega,by omega,?_⟩
    refine for_range (fun i σ H'=>H' = H∧∃ (x:Int) (f1 f2:Option V),σ = [some (.int c),some (.int m),some (.int b),f1,some (.int x),f2]) ⟨rfl,c,_,_,rfl⟩ ?_ ?_
    · rintro i σ H' hi ⟨rfl,x,f1,f2,rfl⟩
      refine ⟨_,rfl,_,rfl,x,b,rfl,rfl,⟨b0,b1⟩,?_⟩
      exact ⟨rfl,x / b,_,_,rfl⟩
    · rintro σ H' ⟨rfl,x,f1,f2,rfl⟩
      refine ⟨_,rfl,_,rfl,x,b,rfl,rfl,b0,?_⟩
      exact q _ (Int.emod_nonneg _ (by omega)) (Int.emod_lt_of_pos _ b0)
  · have p1:(0:Int) < 1000000007:=by decide
    have p2:(0:Int) < 2147483647:=by decide
    have p3:(0:Int) < 2147483629:=by decide
    refine ⟨_,rfl,c,1000000007,rfl,rfl,p1,_,rfl,1009,(m:Int),rfl,rfl,.inl ⟨by decide,by decide⟩,_,_,rfl,rfl,_,17,rfl,rfl,_,69621,rfl,rfl,.inr ⟨by decide,by decide⟩,_,2147483647,rfl,rfl,p2,?_⟩
    have z0:0≤(c % 1000000007 + 1009 * (m:Int) + 17) * 69621 % 2147483647:=Int.emod_nonneg _ (by decide)
    have z1:(c % 1000000007 + 1009 * (m:Int) + 17) * 69621 % 2147483647 < 2147483647:=Int.emod_lt_of_pos _ p2
    refine ⟨_,rfl,_,rfl,_,_,rfl,rfl,.inl ⟨Int.lt_of_lt_of_le (by decide) z0,Int.lt_trans z1 (by decide)⟩,_,rfl,40503,(m:Int),rfl,rfl,.inl ⟨by decide,by decide⟩,_,_,rfl,rfl,_,5,rfl,rfl,_,2147483629,rfl,rfl,p3,?_⟩
    refine ⟨_,rfl,_,48271,rfl,rfl,.inr ⟨by decide,by decide⟩,_,2147483647,rfl,rfl,p2,_,32,rfl,rfl,⟨by decide,by decide⟩,_,rfl,_,b,rfl,rfl,b0,?_⟩
    exact q _ (Int.emod_nonneg _ (by omega)) (Int.emod_lt_of_pos _ b0)
theorem ok_sentence (T:Txt P w K mg a) (G_x_law_cell_at:FnOk P w K mg base CX0 k a.a_x_law_cell_at a.d_x_law_cell_at ["script", "k"] (spCellAt K)) (G_x_law_draw:FnOk P w K mg base CX0 k a.a_x_law_draw a.d_x_law_draw ["cell", "k", "bound"] spDraw) :
    FnOk P w K mg base CX0 (k + 1) a.a_x_law_sentence a.d_x_law_sentence ["script", "at", "many", "order"] (spSentence K):=by
  refine T.F_x_law_sentence.ok sc_x_law_sentence (fun vs H Q E h=>?_) (fun cdv A outer s H vs Q E hr h=>?_)
  · obtain ⟨sc,ol,ns,t,m,os,rfl,_⟩:=h
    rfl
  obtain ⟨sc,ol,ns,t,m,os,rfl,hS,hO,o0,o8,m0,m40,t60,q⟩:=h
  obtain ⟨st0,h0⟩:∃ st0,st0 = (defBody S_x_law_sentence).headD (.Pass ⟨0,0,0,0⟩):=⟨_,rfl⟩
  have hb:defBody S_x_law_sentence = st0 :: (defBody S_x_law_sentence).tail:=by rw [h0]; rfl
  rw [hb]
  have hk:litAsg st0 = some (Str.ofString "kinds", kindsS):=by rw [h0]; rfl
  refine ⟨_,pss_cons (ps_litL (i:=4) hk sc_x_law_sentence.nd rfl (Or.inl rfl) (.inl rfl)) (pss_cons (ps_set (i:=5) sc_x_law_sentence.nd rfl (Or.inl rfl) (pe_lst (pa_cons (pe_tup (pa_cons pe_str (pa_cons (pe_ix ix_list (pv 3) (pe_op op_mod (pe_call G_x_law_draw hr rfl T.m_x_law_draw T.F_x_law_draw.2 T.b_x_law_draw .nil pass0 (pa_cons (pe_call G_x_law_cell_at hr rfl T.m_x_law_cell_at T.F_x_law_cell_at.2 T.b_x_law_cell_at .nil pass0 (pa_cons (pv 0) (pa_cons (pv 1) pa_nil))) (pa_cons pe_int (pa_cons pe_int pa_nil)))) (pe_callB call_len_seq rfl T.n_len bt_len (pa_cons (pv 3) pa_nil))) (fun _ _=>rfl)) pa_nil))) pa_nil)))
      (pss_cons (ps_for PassesOwn.never rfl (pi_range2 rfl T.n_range (pa_cons pe_int (pa_cons (pv 2) pa_nil))) (pg_name (i:=6) sc_x_law_sentence.nd rfl (Or.inl rfl)) (pss_cons (ps_set (i:=7) sc_x_law_sentence.nd rfl (Or.inl rfl) (pe_call G_x_law_cell_at hr rfl T.m_x_law_cell_at T.F_x_law_cell_at.2 T.b_x_law_cell_at .nil pass0 (pa_cons (pv 0) (pa_cons (pe_op op_add (pv 1) (pv 6)) pa_nil))))
      (pss_cons (ps_set (i:=8) sc_x_law_sentence.nd rfl (Or.inl rfl) (pe_ix ix_list (pv 4) (pe_call G_x_law_draw hr rfl T.m_x_law_draw T.F_x_law_draw.2 T.b_x_law_draw .nil pass0 (pa_cons (pv 7) (pa_cons pe_int (pa_cons pe_int pa_nil)))) (fun _ _=>rfl)))
      (pss_cons (ps_set (i:=9) sc_x_law_sentence.nd rfl (Or.inl rfl) (pe_ix ix_list (pv 5) (pe_op op_sub (pe_un un_neg pe_int) (pe_op op_mod (pe_call G_x_law_draw hr rfl T.m_x_law_draw T.F_x_law_draw.2 T.b_x_law_draw .nil pass0 (pa_cons (pv 7) (pa_cons pe_int (pa_cons pe_int pa_nil)))) (pe_callB call_len_seq rfl T.n_len bt_len (pa_cons (pv 5) pa_nil)))) (fun _ _=>rfl)))
      (pss_cons (ps_set (i:=10) sc_x_law_sentence.nd rfl (Or.inl rfl) (pe_ix ix_list (pv 5) (pe_op op_mod (pe_call G_x_law_draw hr rfl T.m_x_law_draw T.F_x_law_draw.2 T.b_x_law_draw .nil pass0 (pa_cons (pv 7) (pa_cons pe_int (pa_cons pe_int pa_nil)))) (pe_callB call_len_seq rfl T.n_len bt_len (pa_cons (pv 5) pa_nil))) (fun _ _=>rfl)))
      (pss_cons (ps_set (i:=11) sc_x_law_sentence.nd rfl (Or.inl rfl) (pe_ix ix_list (pv 3) (pe_op op_mod (pe_call G_x_law_draw hr rfl T.m_x_law_draw T.F_x_law_draw.2 T.b_x_law_draw .nil pass0 (pa_cons (pv 7) (pa_cons pe_int (pa_cons pe_int pa_nil)))) (pe_callB call_len_seq rfl T.n_len bt_len (pa_cons (pv 3) pa_nil))) (fun _ _=>rfl)))
      (pss_one (ps_if (PW.pt (pw_or (pt_cmpR op_eq (pv 8) pe_str (nomark _)) (pw_or1 (pt_cmpR op_eq (pv 8) pe_str (nomark _))))) (pss_one (ps_expr (pe_bm PySem.F.plainAttrs_list PySem.F.slot_list_append PySem.F.type_list_append mt_append (pv 5) (pa_cons (pe_tup (pa_cons (pv 8) pa_nil)) pa_nil)))) (pss_one (ps_if (pt_cmpR op_eq (pv 8) pe_str (nomark _)) (pss_one (ps_expr (pe_bm PySem.F.plainAttrs_list PySem.F.slot_list_append PySem.F.type_list_append mt_append (pv 5) (pa_cons (pe_tup (pa_cons pe_str (pa_cons (pv 11) pa_nil))) pa_nil)))) (pss_one (ps_if (pt_cmpR op_eq (pv 8) pe_str (nomark _)) (pss_one (ps_expr (pe_bm PySem.F.plainAttrs_list PySem.F.slot_list_append PySem.F.type_list_append mt_append (pv 5) (pa_cons (pe_tup (pa_cons pe_str (pa_cons (pv 9) pa_nil))) pa_nil)))) (pss_one (ps_if (PW.pt (pw_or (pt_cmpR op_eq (pv 8) pe_str (nomark _)) (pw_or1 (pt_cmpR op_eq (pv 8) pe_str (nomark _))))) (pss_one (ps_expr (pe_bm PySem.F.plainAttrs_list PySem.F.slot_list_append PySem.F.type_list_append mt_append (pv 5) (pa_cons (pe_tup (pa_cons (pv 8) (pa_cons (pv 11) (pa_cons (pv 9) pa_nil)))) pa_nil)))) (pss_one (ps_expr (pe_bm PySem.F.plainAttrs_list PySem.F.slot_list_append PySem.F.type_list_append mt_append (pv 5) (pa_cons (pe_tup (pa_cons (pv 8) (pa_cons (pv 10) (pa_cons (pv 9) pa_nil)))) pa_nil))))))))))))))))))
      (pss_one (ps_ret (pe_ix ix_list (pv 5) (pe_un un_neg pe_int) (fun _ _=>rfl)))))),?_⟩
  refine ⟨by show 14≤sizeLine; decide,fun kd hkd=>?_⟩
  have g1:=same_new hkd (.lst (kindsS.map V.str))
  have hS1:=g1.seq hS
  have hO1:=g1.seq hO
  refine ⟨_,rfl,_,rfl,_,rfl,sc,ns,(t:Int),rfl,hS1,by omega,fun c0=>?_⟩
  refine ⟨c0,3,40320,rfl,by decide,by decide,by decide,fun r0 _ _=>?_⟩
  obtain ⟨x0,hx0,hx0'⟩:=pick_letter o0 r0
  have pl:(0:Int) < ((os.map V.str).length:Nat):=by rw [List.length_map]; omega
  refine ⟨_,rfl,ol,_,rfl,.inl hO1,_,_,rfl,rfl,pl,ol,_,_,.str x0,rfl,rfl,hO1,hx0',by show 2≤sizeLine; decide,fun p0 hp0=>?_⟩
  refine ⟨by show 1≤sizeLine; decide,fun md hmd=>?_⟩
  have g2:=same_new hp0 (.tup [.str "mark", .str x0])
  have g3:=same_new hmd (.lst [.ref p0])
  have f0:H md = none:=(g1.trans g2).free hmd
  have nk:md≠kd:=Ne.symm (ne_of_none (g2 _ _ upd_same) hmd)
  have M0:Made H (upd (upd (upd H kd (.lst (kindsS.map V.str))) p0 (.tup [.str "mark", .str x0])) md (.lst [.ref p0])) os md kd [p0] 1:=by
    refine ⟨g1.trans (g2.trans g3),upd_same,g3 _ _ (g2 _ _ upd_same),by simp,fun p hp=>?_⟩
    have e:p = p0:=by simpa using hp
    subst e
    exact ⟨.mk x0,g3 _ _ upd_same,hx0,Nat.le_refl _⟩
  refine ⟨_,rfl,1,(m:Int),rfl,⟨by omega,by omega,by omega,by omega⟩,?_⟩
  refine for_range (fun i σ H'=>∃ (ps:List Addr) (f1 f2 f3 f4 f5 f6:Option V),Made H H' os md kd ps (i + 1)∧ps.length = i + 1∧σ = [some (.ref sc),some (.int t),some (.int m),some (.ref ol),some (.ref kd),some (.ref md),f1,f2,f3,f4,f5,f6])
    ⟨[p0],_,_,_,_,_,_,M0,rfl,rfl⟩ ?_ ?_
  · rintro i σ H' hi ⟨ps,f1,f2,f3,f4,f5,f6,M,lp,rfl⟩
    have hS2:=M.old.seq hS
    have hO2:=M.old.seq hO
    have e1:(t:Int) + (1 + (i:Nat)) = ((t + (1 + i):Nat):Int):=by omega
    refine ⟨_,rfl,_,rfl,_,rfl,_,_,rfl,rfl,sc,ns,_,rfl,hS2,by omega,fun c=>?_⟩
    refine ⟨_,rfl,_,rfl,c,0,14,rfl,by decide,by decide,by decide,fun d d0 d1=>?_⟩
    obtain ⟨jk,vk,qk1,qk2⟩:=atI_has (xs:=kindsS.map V.str) (i:=d) (by show -((14:Nat):Int)≤d; omega) (by show d < ((14:Nat):Int); omega)
    obtain ⟨kind,hkm,hkv⟩:∃ kind,kind∈kindsS∧vk = .str kind:=by
      rw [List.getElem?_map] at qk2
      cases hx:kindsS[jk]? with
      | none=>rw [hx] at qk2; cases qk2
      | some x=>rw [hx] at qk2; cases qk2; exact ⟨x,List.mem_of_getElem? hx,rfl⟩
    subst hkv
    refine ⟨kd,_,_,_,rfl,rfl,SqL.of M.kin,qk1,?_⟩
    have lm:((ps.map V.ref).length:Nat) = i + 1:=by rw [List.length_map]; exact lp
    have pm:(0:Int) < ((ps.map V.ref).length:Nat):=by rw [lm]; omega
    refine ⟨_,rfl,1,rfl,_,rfl,c,1,2,rfl,by decide,by decide,by decide,fun d2 _ _=>?_⟩
    refine ⟨_,rfl,md,_,rfl,.inl (SqL.of M.mad),_,_,rfl,rfl,pm,_,_,rfl,rfl,?_⟩
    have a0:=Int.emod_nonneg d2 (show ((ps.map V.ref).length:Int)≠0 by omega)
    have a1:=Int.emod_lt_of_pos d2 pm
    obtain ⟨q1,hq1,hq1'⟩:=pick_made (ps:=ps) (i:=-1 - d2 % ((ps.map V.ref).length:Nat)) (by rw [lm] at a0 a1 ⊢; omega) (by rw [lm] at a0 a1 ⊢; omega)
    refine ⟨md,_,_,_,rfl,rfl,SqL.of M.mad,hq1',?_⟩
    refine ⟨_,rfl,_,rfl,c,2,60,rfl,by decide,by decide,by decide,fun d3 _ _=>?_⟩
    refine ⟨_,rfl,md,_,rfl,.inl (SqL.of M.mad),_,_,rfl,rfl,pm,?_⟩
    have b0:=Int.emod_nonneg d3 (show ((ps.map V.ref).length:Int)≠0 by omega)
    have b1:=Int.emod_lt_of_pos d3 pm
    obtain ⟨q2,hq2,hq2'⟩:=pick_made (ps:=ps) (i:=d3 % ((ps.map V.ref).length:Nat)) (by rw [lm] at b0 b1 ⊢; omega) (by rw [lm] at b0 b1 ⊢; omega)
    refine ⟨md,_,_,_,rfl,rfl,SqL.of M.mad,hq2',?_⟩
    refine ⟨_,rfl,_,rfl,c,3,40320,rfl,by decide,by decide,by decide,fun d4 _ _=>?_⟩
    obtain ⟨x,hx,hx'⟩:=pick_letter o0 d4
    refine ⟨_,rfl,ol,_,rfl,.inl hO2,_,_,rfl,rfl,pl,ol,_,_,.str x,rfl,rfl,hO2,hx',?_⟩
    obtain ⟨s1,s1i,s1o,s1d⟩:=M.all q1 hq1
    obtain ⟨s2,s2i,s2o,s2d⟩:=M.all q2 hq2
    have big:ps.length < sizeLine:=Nat.lt_of_le_of_lt (show ps.length≤100 by omega) (by decide)
    have bigV:(ps.map V.ref).length < sizeLine:=by rw [List.length_map]; exact big
    have mdu:∀ (p:Addr) (o:HO),H' p = none→(upd H' p o) md = some (.lst (ps.map V.ref)):=fun p o hp=>by rw [upd_ne (ne_of_none M.mad hp)]; exact M.mad
    have fin:∀ (p:Addr) (xs:List V) (s':Sn),H' p = none→IsS (upd H' p (.tup xs)) s' p→s'.inO os→s'.depth≤i + 1 + 1 →
        ∃ (ps':List Addr) (f1 f2 f3 f4 f5 f6:Option V),Made H (upd (upd H' p (.tup xs)) md (.lst (ps.map V.ref ++ [.ref p]))) os md kd ps' (i + 1 + 1)∧ps'.length = i + 1 + 1 ∧
          [some (.ref sc),some (.int t),some (.int m),some (.ref ol),some (.ref kd),some (.ref md),some (.int (1 + (i:Nat))),some (.int c),some (.str kind),some (.ref q1),some (.ref q2),some (.str x)] = [some (.ref sc),some (.int t),some (.int m),some (.ref ol),some (.ref kd),some (.ref md),f1,f2,f3,f4,f5,f6]:=fun p xs s' hp hs ho hd=>by
      have:=M.push f0 hp hs ho hd nk
      rw [List.map_append] at this
      exact ⟨ps ++ [p],_,_,_,_,_,_,this,by simp [lp],rfl⟩
    refine ⟨_,rfl,rfl,_,rfl,ite2 (fun c1=>?_) (fun c1=>?_)⟩
    · have ek:kind = "yes" := by have:=of_decide_eq_true c1; cases this; rfl
      subst ek
      refine iteT ⟨_,rfl,.inl ⟨rfl,_,SqL.of M.mad⟩,_,rfl,by show 1≤sizeLine; decide,fun p hp=>⟨md,_,_,rfl,rfl,mdu p _ hp,bigV,?_⟩⟩
      exact fin p _ (.c0 true) hp upd_same trivial (by show 1≤_; omega)
    have n1:kind ≠ "yes" := fun e=>c1 (decide_eq_true (by rw [e]))
    refine ⟨_,rfl,rfl,_,rfl,ite2 (fun c2=>?_) (fun c2=>?_)⟩
    · have ek:kind = "no" := by have:=of_decide_eq_true c2; cases this; rfl
      subst ek
      refine ⟨_,rfl,.inl ⟨rfl,_,SqL.of M.mad⟩,_,rfl,by show 1≤sizeLine; decide,fun p hp=>⟨md,_,_,rfl,rfl,mdu p _ hp,bigV,?_⟩⟩
      exact fin p _ (.c0 false) hp upd_same trivial (by show 1≤_; omega)
    have n2:kind ≠ "no" := fun e=>c2 (decide_eq_true (by rw [e]))
    refine ⟨_,rfl,rfl,_,rfl,ite2 (fun c3=>?_) (fun c3=>?_)⟩
    · have ek:kind = "mark" := by have:=of_decide_eq_true c3; cases this; rfl
      subst ek
      refine ⟨_,rfl,.inl ⟨rfl,_,SqL.of M.mad⟩,_,rfl,by show 2≤sizeLine; decide,fun p hp=>⟨md,_,_,rfl,rfl,mdu p _ hp,bigV,?_⟩⟩
      exact fin p _ (.mk x) hp upd_same hx (by show 1≤_; omega)
    have n3:kind ≠ "mark" := fun e=>c3 (decide_eq_true (by rw [e]))
    refine ⟨_,rfl,rfl,_,rfl,ite2 (fun c4=>?_) (fun c4=>?_)⟩
    · have ek:kind = "not" := by have:=of_decide_eq_true c4; cases this; rfl
      subst ek
      refine ⟨_,rfl,.inl ⟨rfl,_,SqL.of M.mad⟩,_,rfl,by show 2≤sizeLine; decide,fun p hp=>⟨md,_,_,rfl,rfl,mdu p _ hp,bigV,?_⟩⟩
      exact fin p _ (.nt s1) hp ⟨q1,upd_same,s1i.mono (Tups.new hp _)⟩ s1o (by show 1 + s1.depth≤_; omega)
    have n4:kind ≠ "not" := fun e=>c4 (decide_eq_true (by rw [e]))
    refine ⟨_,rfl,rfl,_,rfl,ite2 (fun c5=>?_) (fun c5=>?_)⟩
    · have ek:kind = "some" := by have:=of_decide_eq_true c5; cases this; rfl
      subst ek
      refine iteT ⟨_,rfl,.inl ⟨rfl,_,SqL.of M.mad⟩,_,rfl,_,rfl,_,rfl,by show 3≤sizeLine; decide,fun p hp=>⟨md,_,_,rfl,rfl,mdu p _ hp,bigV,?_⟩⟩
      exact fin p _ (.q1 true x s1) hp ⟨q1,upd_same,s1i.mono (Tups.new hp _)⟩ ⟨hx,s1o⟩ (by show 1 + s1.depth≤_; omega)
    have n5:kind ≠ "some" := fun e=>c5 (decide_eq_true (by rw [e]))
    refine ⟨_,rfl,rfl,_,rfl,ite2 (fun c6=>?_) (fun c6=>?_)⟩
    · have ek:kind = "each" := by have:=of_decide_eq_true c6; cases this; rfl
      subst ek
      refine ⟨_,rfl,.inl ⟨rfl,_,SqL.of M.mad⟩,_,rfl,_,rfl,_,rfl,by show 3≤sizeLine; decide,fun p hp=>⟨md,_,_,rfl,rfl,mdu p _ hp,bigV,?_⟩⟩
      exact fin p _ (.q1 false x s1) hp ⟨q1,upd_same,s1i.mono (Tups.new hp _)⟩ ⟨hx,s1o⟩ (by show 1 + s1.depth≤_; omega)
    have n6:kind ≠ "each" := fun e=>c6 (decide_eq_true (by rw [e]))
    obtain ⟨o,ho⟩:∃ o:Fin 4,kind = w2 o:=by
      have:kind∈([Str.ofString "mark", Str.ofString "mark", Str.ofString "not", Str.ofString "and", Str.ofString "or", Str.ofString "either", Str.ofString "if", Str.ofString "and", Str.ofString "or", Str.ofString "some", Str.ofString "each", Str.ofString "yes", Str.ofString "no", Str.ofString "mark"]:List Str):=hkm
      simp only [List.mem_cons,List.not_mem_nil,or_false] at this
      rcases this with h | h | h | h | h | h | h | h | h | h | h | h | h | h <;> first | exact absurd h n1 | exact absurd h n2 | exact absurd h n3 | exact absurd h n4 | exact absurd h n5 | exact absurd h n6 | exact ⟨0,h⟩ | exact ⟨1,h⟩ | exact ⟨2,h⟩ | exact ⟨3,h⟩
    subst ho
    refine ⟨_,rfl,.inl ⟨rfl,_,SqL.of M.mad⟩,_,rfl,_,rfl,_,rfl,by show 3≤sizeLine; decide,fun p hp=>⟨md,_,_,rfl,rfl,mdu p _ hp,bigV,?_⟩⟩
    exact fin p _ (.b2 o s2 s1) hp ⟨q2,q1,upd_same,s2i.mono (Tups.new hp _),s1i.mono (Tups.new hp _)⟩ ⟨s2o,s1o⟩ (by show 1 + max s2.depth s1.depth≤_; omega)
  · rintro σ H' ⟨ps,f1,f2,f3,f4,f5,f6,M,lp,rfl⟩
    obtain ⟨p,hp,hp'⟩:=pick_made (ps:=ps) (i:=-1) (by omega) (by omega)
    obtain ⟨s',z1,z2,z3⟩:=M.all p hp
    have e:((m:Int) - 1).toNat + 1 = m:=by omega
    rw [e] at z3
    exact ⟨_,rfl,1,rfl,md,_,-1,_,rfl,rfl,SqL.of M.mad,hp',q p H' s' M.old z1 z2 z3⟩
theorem ok_is_mark (T:Txt P w K mg a):FnOk P w K mg base CX0 (k + 1) a.a_is_mark a.d_is_mark ["letter"] spIsMark:=by
  refine T.F_is_mark.ok sc_is_mark (fun vs H Q E h=>?_) (fun cdv A outer s H vs Q E hr h=>?_)
  · obtain ⟨x,rfl,_⟩:=h
    rfl
  obtain ⟨x,rfl,q⟩:=h
  refine ⟨_,(pss_one (ps_ret (pe_cmpR op_in_seq (pv 0) (pe_glob (v:=.ref a.a_MARKS) rfl T.m_MARKS rfl) (by with_unfolding_all rfl)))),?_⟩
  refine ⟨_,rfl,a.a_MARKS,letts.map V.str,rfl,.inr (T.q_MARKS H),rfl,flat_strs _,?_⟩
  show Q (.bl (inV (.str x) (letts.map V.str))) H
  rw [inV_strs]
  exact q
theorem ok_is_order (T:Txt P w K mg a) (G_is_mark:FnOk P w K mg base CX0 k a.a_is_mark a.d_is_mark ["letter"] spIsMark):FnOk P w K mg base CX0 (k + 1) a.a_is_order a.d_is_order ["order"] (spIsOrder K):=by
  refine T.F_is_order.ok sc_is_order (fun vs H Q E h=>?_) (fun cdv A outer s H vs Q E hr h=>?_)
  · obtain ⟨l,os,rfl,_⟩:=h
    rfl
  obtain ⟨l,os,rfl,hq,h100,q⟩:=h
  refine ⟨_,(pss_one (ps_ret (pe_and (pe_cmpR op_gt (pe_callB call_len_seq rfl T.n_len bt_len (pa_cons (pv 0) pa_nil)) pe_int (nomark _)) (pe_and (pe_callB (call_all rfl) rfl T.n_all bt_all (pa_cons (pe_lc0 (osc:=defScope S_is_order) (js:=[]) rfl (by show LcOk (defScope S_is_order) _ "letter" []; exact ⟨rfl,by decide +kernel,by decide +kernel,rfl,by decide +kernel,by decide +kernel,by decide +kernel⟩) rfl (pi_list (pv 0)) (by show ∀ j∈([]:List Nat),j < 1; decide) (fun cl C s₂ H₂ fp=>(pe_call G_is_mark hr rfl T.m_is_mark T.F_is_mark.2 T.b_is_mark .nil pass0 (pa_cons (pv 0) pa_nil)))) pa_nil)) (pe_one (pe_cmpR op_eq (pe_callB call_len_set' rfl T.n_len bt_len (pa_cons (pe_callTy (call_set rfl) rfl T.n_set bt_set (pa_cons (pv 0) pa_nil)) pa_nil)) (pe_callB call_len_seq rfl T.n_len bt_len (pa_cons (pv 0) pa_nil)) (nomark _))))))),?_⟩
  have hlen:(os.map V.str).length = os.length:=List.length_map _
  refine ⟨_,rfl,l,_,rfl,.inl hq,_,_,rfl,rfl,_,rfl,ite2 (fun c=>?_) (fun c=>?_)⟩
  · have c':0 < os.length:=by have:=of_decide_eq_true c; rw [hlen] at this; omega
    refine ⟨_,rfl,l,rfl,⟨_,hq⟩,lc_relL (fun x v=>v = (match x with | .str y=>.bl (decide (y∈letts)) | _=>.non)) hq (by rw [hlen]; exact Nat.le_of_lt (small1000 (by omega))) ?_ (mono1 mono_isMark) ?_⟩
    · intro i x H' hx g
      rw [List.getElem?_map] at hx
      cases ho:os[i]? with
      | none=>rw [ho] at hx; cases hx
      | some y =>
        rw [ho] at hx
        cases hx
        exact ⟨_,rfl,y,rfl,rfl,g⟩
    · intro ys H' p hr' g hp
      have e:=pd_map (f:=fun x=>match x with | .str y=>.bl (decide (y∈letts)) | _=>.non) hr'
      rw [List.map_map] at e
      have e2:ys = (os.map fun y=>decide (y∈letts)).map V.bl:=by rw [e,List.map_map]; rfl
      subst e2
      have g1:=Same.new hp (.lst ((os.map fun y=>decide (y∈letts)).map V.bl))
      refine ⟨p,_,rfl,SqL.of upd_same,_,rfl,ite2 (fun c2=>?_) (fun c2=>?_)⟩
      · have hq2:=(g.trans g1).seq hq
        refine ⟨_,rfl,l,os,rfl,hq2,h100,fun z hz=>⟨z,_,rfl,upd_same,?_⟩⟩
        have g2:=Same.new hz (SetN P w z (dd os).length)
        refine ⟨_,rfl,l,_,rfl,.inl (g2.seq hq2),rfl,?_⟩
        have e3:decide (V.int ((dd os).length:Nat) = V.int ((os.map V.str).length:Nat)) = ordB os:=by
          unfold ordB
          have c2':os.all (fun x=>decide (x∈letts)) = true:=by rw [List.all_map] at c2; exact c2
          rw [decide_eq_true c',c2',hlen]
          by_cases nd:os.Nodup
          · rw [decide_eq_true nd,dd_nodup nd]; simp
          · have:=dd_dup nd
            rw [decide_eq_false nd,decide_eq_false (fun z=>by injection z with z; omega)]; rfl
        rw [e3]
        exact q _ ((g.trans g1).trans g2)
      · have e4:ordB os = false:=by
          unfold ordB
          have c2':os.all (fun x=>decide (x∈letts)) = false:=by
            rw [List.all_map] at c2
            exact Bool.eq_false_iff.mpr c2
          rw [c2',Bool.false_and,Bool.and_false]
        rw [← e4]
        exact q _ (g.trans g1)
  · have e4:ordB os = false:=by
      unfold ordB
      rw [decide_eq_false (fun z=>c (decide_eq_true (by rw [hlen]; omega))),Bool.false_and]
    rw [← e4]
    exact q _ (Same.refl _)
theorem ok_letters_of (T:Txt P w K mg a):FnOk P w K mg base CX0 (k + 1) a.a_letters_of a.d_letters_of ["sentence"] spLettersOf:=by
  refine T.F_letters_of.ok sc_letters_of (fun vs H Q E h=>?_) (fun cdv A outer s H vs Q E hr h=>?_)
  · obtain ⟨p,x,m,n,rest,rfl,_⟩:=h
    rfl
  obtain ⟨p,x,m,n,rest,rfl,hp,hm,hl,q⟩:=h
  refine ⟨_,(pss_one (ps_ret (pe_slice sl_tup (pv 0) (po_some pe_int) (po_some (pe_op op_add pe_int (pe_ix ix_tup (pe_ix (ix_dicK T.d_SHAPES) (pe_glob (v:=.ref a.a_SHAPES) rfl T.m_SHAPES rfl) (pe_ix ix_tup (pv 0) pe_int (fun _ _=>rfl)) (fun _ _=>rfl)) pe_int (fun _ _=>rfl))))))),?_⟩
  obtain ⟨pt,hv,hpt⟩:=T.y_SHAPES x m n hm
  refine ⟨_,rfl,1,rfl,_,rfl,p,_,0,_,rfl,rfl,SqT.of hp,at0,x,.ref pt,.ref pt,rfl,rfl,hv,rfl,pt,_,0,_,rfl,rfl,hpt H,at0,1,(m:Int),rfl,rfl,_,rfl,p,_,rfl,SqT.of hp,not_whole1 (by decide),fun z hz=>?_⟩
  rw [cut_fore hl]
  exact q z hz
theorem ok_parts_of (T:Txt P w K mg a):FnOk P w K mg base CX0 (k + 1) a.a_parts_of a.d_parts_of ["sentence"] spPartsOf:=by
  refine T.F_parts_of.ok sc_parts_of (fun vs H Q E h=>?_) (fun cdv A outer s H vs Q E hr h=>?_)
  · obtain ⟨p,x,m,n,rest,rfl,_⟩:=h
    rfl
  obtain ⟨p,x,m,n,rest,rfl,hp,hm,hl,q⟩:=h
  refine ⟨_,(pss_one (ps_ret (pe_slice sl_tup (pv 0) (po_some (pe_op op_add pe_int (pe_ix ix_tup (pe_ix (ix_dicK T.d_SHAPES) (pe_glob (v:=.ref a.a_SHAPES) rfl T.m_SHAPES rfl) (pe_ix ix_tup (pv 0) pe_int (fun _ _=>rfl)) (fun _ _=>rfl)) pe_int (fun _ _=>rfl)))) po_none))),?_⟩
  obtain ⟨pt,hv,hpt⟩:=T.y_SHAPES x m n hm
  refine ⟨_,rfl,_,rfl,p,_,0,_,rfl,rfl,SqT.of hp,at0,x,.ref pt,.ref pt,rfl,rfl,hv,rfl,pt,_,0,_,rfl,rfl,hpt H,at0,1,(m:Int),rfl,rfl,_,rfl,p,_,rfl,SqT.of hp,not_whole1 (by omega),fun z hz=>?_⟩
  rw [cut_rear hl]
  exact q z hz
theorem ok_parts_of_all (T:Txt P w K mg a) (G_parts_of:FnOk P w K mg base CX0 k a.a_parts_of a.d_parts_of ["sentence"] spPartsOf):FnOk P w K mg base CX0 (k + 1) a.a_parts_of_all a.d_parts_of_all ["level"] (spPartsOfAll K):=by
  refine T.F_parts_of_all.ok sc_parts_of_all (fun vs H Q E h=>?_) (fun cdv A outer s H vs Q E hr h=>?_)
  · obtain ⟨l,ss,ps,rfl,_⟩:=h
    rfl
  obtain ⟨l,ss,ps,rfl,hl,hp,hz,q⟩:=h
  refine ⟨_,(pss_cons (ps_set (i:=1) sc_parts_of_all.nd rfl (Or.inl rfl) (pe_lst pa_nil))
      (pss_cons (ps_for PassesOwn.never rfl (pi_list (pv 0)) (pg_name (i:=2) sc_parts_of_all.nd rfl (Or.inl rfl)) (pss_one (ps_expr (pe_bm PySem.F.plainAttrs_list PySem.F.slot_list_extend PySem.F.type_list_extend mt_extendT (pv 1) (pa_cons (pe_call G_parts_of hr rfl T.m_parts_of T.F_parts_of.2 T.b_parts_of .nil pass0 (pa_cons (pv 2) pa_nil)) pa_nil)))))
      (pss_one (ps_ret (pv 1))))),?_⟩
  have pl:=pd_len hp
  refine ⟨by show 0≤sizeLine; decide,fun f hf=>?_⟩
  have g0:=Same.new hf (.lst [])
  refine ⟨_,rfl,l,rfl,⟨_,g0.seq hl⟩,?_⟩
  refine for_list (xs:=ps.map V.ref) (fun i σ H'=>∃ (qs:List Addr) (f1:Option V),Same H H'∧H' f = some (.lst (qs.map V.ref))∧Paired (IsS H') ((ss.take i).flatMap Sn.parts) qs∧qs.length≤2 * i∧i≤ss.length∧σ = [some (.ref l),some (.ref f),f1])
    ⟨[],_,g0,upd_same,.nil,by simp,Nat.zero_le _,rfl⟩ ?_ ?_ ?_
  · rintro i σ H' _ ⟨qs,f1,g,_⟩
    exact g.seq hl
  · rintro i x σ H' hx ⟨qs,f1,g,hf',hqs,lq,li,rfl⟩
    rw [List.getElem?_map] at hx
    cases ho:ps[i]? with
    | none=>rw [ho] at hx; cases hx
    | some p =>
      rw [ho] at hx
      cases hx
      obtain ⟨sn,hsn,isp⟩:=pd_ta hp ho
      have hlt:=(List.getElem?_eq_some_iff.mp hsn).1
      obtain ⟨zs,c1,c2,c3,c4,c5⟩:=sen_cut (isp.mono (Tups.of g))
      have lz:=pd_len c2
      have lp2:=Sn.parts_le sn
      refine ⟨_,rfl,.inl ⟨rfl,_,SqL.of hf'⟩,_,rfl,p,sn.word,sn.letters.length,sn.parts.length,_,rfl,c1,shape_in sn,c3,fun b hb=>?_⟩
      rw [c5]
      have nfb:f≠b:=ne_of_none hf' hb
      have hf2:(upd H' b (.tup (zs.map V.ref))) f = some (.lst (qs.map V.ref)):=by rw [upd_ne nfb]; exact hf'
      refine ⟨f,b,qs.map V.ref,zs.map V.ref,rfl,rfl,hf2,?_,?_,?_⟩
      · exact SqT.of upd_same
      · rw [List.length_map,List.length_map]
        exact Nat.le_of_lt (small1000 (by omega))
      · refine ⟨qs ++ zs,_,(g.trans (Same.new hb _)).over hf _,by rw [upd_same,List.map_append],?_,?_,hlt,rfl⟩
        · rw [take_next hsn,List.flatMap_append,List.flatMap_singleton]
          have t1:Tups H' (upd (upd H' b (.tup (zs.map V.ref))) f (.lst (qs.map V.ref ++ zs.map V.ref))):=(Tups.new hb _).trans (Tups.lst hf2 _)
          exact pd_app (pd_imp (fun _ _ z=>z.mono t1) hqs) (pd_imp (fun _ _ z=>z.mono t1) c2)
        · rw [List.length_append]; omega
  · rintro σ H' ⟨qs,f1,g,hf',hqs,lq,li,rfl⟩
    rw [List.length_map,← pl,List.take_length] at hqs
    exact ⟨_,rfl,q f H' qs g hf hf' hqs⟩
theorem ok_is_shaped (T:Txt P w K mg a) (G_is_mark:FnOk P w K mg base CX0 k a.a_is_mark a.d_is_mark ["letter"] spIsMark) (G_letters_of:FnOk P w K mg base CX0 k a.a_letters_of a.d_letters_of ["sentence"] spLettersOf) (G_parts_of:FnOk P w K mg base CX0 k a.a_parts_of a.d_parts_of ["sentence"] spPartsOf) :
    FnOk P w K mg base CX0 (k + 1) a.a_is_shaped a.d_is_shaped ["some"] spShaped:=by
  refine T.F_is_shaped.ok sc_is_shaped (fun vs H Q E h=>?_) (fun cdv A outer s H vs Q E hr h=>?_)
  · obtain ⟨p,s,rfl,_⟩:=h
    rfl
  obtain ⟨p,sn,rfl,isp,hle,q⟩:=h
  refine ⟨_,(pss_cons (ps_if (PW.pt (pw_or (pt_cmpR op_eq (pe_callB call_len_seq rfl T.n_len bt_len (pa_cons (pv 0) pa_nil)) pe_int (nomark _)) (pw_or (pt_not (pt_truth (pe_callB call_isinst rfl T.n_isinstance bt_isinstance (pa_cons (pe_ix ix_tup (pv 0) pe_int (fun _ _=>rfl)) (pa_cons (pe_bltn (v:=.ty "str") rfl T.n_str bt_str rfl) pa_nil))) (fun _=>rfl))) (pw_or1 (pt_cmpR (op_notIn_dicK T.d_SHAPES) (pe_ix ix_tup (pv 0) pe_int (fun _ _=>rfl)) (pe_glob (v:=.ref a.a_SHAPES) rfl T.m_SHAPES rfl) (by with_unfolding_all rfl)))))) (pss_one (ps_ret pe_bl)) pss_nil)
      (pss_cons (ps_set (i:=1) sc_is_shaped.nd rfl (Or.inl rfl) (pe_ix (ix_dicK T.d_SHAPES) (pe_glob (v:=.ref a.a_SHAPES) rfl T.m_SHAPES rfl) (pe_ix ix_tup (pv 0) pe_int (fun _ _=>rfl)) (fun _ _=>rfl)))
      (pss_cons (ps_if (pt_cmpR op_ne (pe_callB call_len_seq rfl T.n_len bt_len (pa_cons (pv 0) pa_nil)) (pe_op op_add (pe_op op_add pe_int (pe_ix ix_tup (pv 1) pe_int (fun _ _=>rfl))) (pe_ix ix_tup (pv 1) pe_int (fun _ _=>rfl))) (nomark _)) (pss_one (ps_ret pe_bl)) pss_nil)
      (pss_cons (ps_if (pt_not (pt_truth (pe_callB (call_all rfl) rfl T.n_all bt_all (pa_cons (pe_lc0 (osc:=defScope S_is_shaped) (js:=[]) rfl (by show LcOk (defScope S_is_shaped) _ "letter" []; exact ⟨rfl,by decide +kernel,by decide +kernel,rfl,by decide +kernel,by decide +kernel,by decide +kernel⟩) rfl (pi_tup (pe_call G_letters_of hr rfl T.m_letters_of T.F_letters_of.2 T.b_letters_of .nil pass0 (pa_cons (pv 0) pa_nil))) (by show ∀ j∈([]:List Nat),j < 2; decide) (fun cl C s₂ H₂ fp=>(pe_call G_is_mark hr rfl T.m_is_mark T.F_is_mark.2 T.b_is_mark .nil pass0 (pa_cons (pv 0) pa_nil)))) pa_nil)) (fun _=>rfl))) (pss_one (ps_ret pe_bl)) pss_nil)
      (pss_one (ps_ret (pe_callB (call_all rfl) rfl T.n_all bt_all (pa_cons (pe_lc0 (osc:=defScope S_is_shaped) (js:=[]) rfl (by show LcOk (defScope S_is_shaped) _ "part" []; exact ⟨rfl,by decide +kernel,by decide +kernel,rfl,by decide +kernel,by decide +kernel,by decide +kernel⟩) rfl (pi_tup (pe_call G_parts_of hr rfl T.m_parts_of T.F_parts_of.2 T.b_parts_of .nil pass0 (pa_cons (pv 0) pa_nil))) (by show ∀ j∈([]:List Nat),j < 2; decide) (fun cl C s₂ H₂ fp=>(pe_callB (call_isinstK (K:=K) rfl) rfl T.n_isinstance bt_isinstance (pa_cons (pv 0) (pa_cons (pe_bltn (v:=.ty "tuple") rfl T.n_tuple bt_tuple rfl) pa_nil))))) pa_nil)))))))),?_⟩
  obtain ⟨zs,c1,c2,c3,c4,c5⟩:=sen_cut isp
  have lz:=pd_len c2
  obtain ⟨pt,hv,hpt⟩:=T.y_SHAPES _ _ _ (shape_in sn)
  have lp2:=Sn.parts_le sn
  have ll1:=Sn.letters_le sn
  refine ⟨_,rfl,p,_,rfl,.inr (SqT.of c1),rfl,_,rfl,ite2 (fun c=>?_) (fun _=>?_)⟩
  · exfalso
    have:=of_decide_eq_true c
    injection this with this
    rw [List.length_cons] at this
    omega
  refine ⟨_,rfl,p,_,0,_,rfl,rfl,SqT.of c1,at0,_,_,_,true,rfl,.str sn.word,rfl,_,rfl,iteF ?_⟩
  refine ⟨_,rfl,p,_,0,_,rfl,rfl,SqT.of c1,at0,sn.word,rfl,rfl,_,rfl,?_⟩
  rw [hv]
  refine iteF ?_
  refine ⟨_,rfl,p,_,0,_,rfl,rfl,SqT.of c1,at0,sn.word,.ref pt,.ref pt,rfl,rfl,hv,rfl,?_⟩
  refine ⟨_,rfl,p,_,rfl,.inr (SqT.of c1),_,rfl,pt,_,0,_,rfl,rfl,hpt H,at0,1,_,rfl,rfl,_,rfl,pt,_,1,_,rfl,rfl,hpt H,at1,_,_,rfl,rfl,rfl,_,rfl,ite2 (fun c=>?_) (fun _=>?_)⟩
  · exfalso
    have z:V.int ((VC sn zs).length:Nat) = V.int (1 + ((sn.letters.length:Nat):Int) + ((sn.parts.length:Nat):Int)):=by
      congr 1
      show (((V.str sn.word :: (sn.letters.map V.str ++ zs.map V.ref)).length:Nat):Int) = _
      rw [List.length_cons,c3]
      omega
    have c':(!decide (V.int ((VC sn zs).length:Nat) = V.int (1 + ((sn.letters.length:Nat):Int) + ((sn.parts.length:Nat):Int)))) = true:=c
    rw [decide_eq_true z] at c'
    cases c'
  refine ⟨_,rfl,p,sn.word,sn.letters.length,sn.parts.length,_,rfl,c1,shape_in sn,c3,fun b hb=>?_⟩
  rw [c4]
  have g1:=Same.new hb (.tup (sn.letters.map V.str))
  refine ⟨b,rfl,⟨_,SqT.of upd_same⟩,lc_relT (xs:=sn.letters.map V.str) (fun _ v=>v = .bl true) (SqT.of upd_same) (by rw [List.length_map]; exact Nat.le_of_lt (small1000 (by omega))) ?_ (mono1 mono_isMark) ?_⟩
  · intro i x H' hx g
    rw [List.getElem?_map] at hx
    cases ho:sn.letters[i]? with
    | none=>rw [ho] at hx; cases hx
    | some y =>
      rw [ho] at hx
      cases hx
      refine ⟨_,rfl,y,rfl,?_,g⟩
      rw [decide_eq_true (hle y (List.mem_of_getElem? ho))]
  intro ys H' p2 hr' g hp2
  have e:=pd_map (f:=fun _=>.bl true) hr'
  have e2:ys = (sn.letters.map fun _=>true).map V.bl:=by rw [e,List.map_map,List.map_map]; rfl
  subst e2
  have g2:=Same.new hp2 (.lst ((sn.letters.map fun _=>true).map V.bl))
  have ea:(sn.letters.map fun _=>true).all id = true:=by rw [List.all_map,List.all_eq_true]; exact fun _ _=>rfl
  refine ⟨p2,_,rfl,SqL.of upd_same,_,rfl,?_⟩
  rw [ea]
  refine iteF ?_
  have gg:=(g1.trans g).trans g2
  have c1':=gg _ _ c1
  refine ⟨_,rfl,p,sn.word,sn.letters.length,sn.parts.length,_,rfl,c1',shape_in sn,c3,fun b3 hb3=>?_⟩
  rw [c5]
  have g3:=Same.new hb3 (.tup (zs.map V.ref))
  refine ⟨b3,rfl,⟨_,SqT.of upd_same⟩,lc_relT (xs:=zs.map V.ref) (fun _ v=>v = .bl true) (SqT.of upd_same) (by rw [List.length_map]; exact Nat.le_of_lt (small1000 (by omega))) ?_ ?_ ?_⟩
  · intro i x H4 hx g4
    rw [List.getElem?_map] at hx
    cases ho:zs[i]? with
    | none=>rw [ho] at hx; cases hx
    | some y =>
      rw [ho] at hx
      cases hx
      obtain ⟨sy,_,iy⟩:=pd_ta c2 ho
      obtain ⟨ws,d1,_⟩:=sen_cut iy
      have d1':=((gg.trans g3).trans g4) _ _ d1
      exact ⟨_,rfl,_,_,_,true,rfl,.tup d1',rfl,rfl,g4⟩
  · rintro σ' H' Q1 Q2 hQ ⟨v,e,x,T',t,b',h1,h2,h3,h4⟩
    exact ⟨v,e,x,T',t,b',h1,h2,h3,hQ _ _ h4⟩
  · intro ys H4 p4 hr4 g4 hp4
    have e:=pd_map (f:=fun _=>.bl true) hr4
    have e2:ys = (zs.map fun _=>true).map V.bl:=by rw [e,List.map_map,List.map_map]; rfl
    subst e2
    have ea:(zs.map fun _=>true).all id = true:=by rw [List.all_map,List.all_eq_true]; exact fun _ _=>rfl
    refine ⟨p4,_,rfl,SqL.of upd_same,?_⟩
    rw [ea]
    exact q _ (((gg.trans g3).trans g4).trans (Same.new hp4 _))
theorem ok_is_sentence (T:Txt P w K mg a) (G_is_shaped:FnOk P w K mg base CX0 k a.a_is_shaped a.d_is_shaped ["some"] spShaped) (G_parts_of_all:FnOk P w K mg base CX0 k a.a_parts_of_all a.d_parts_of_all ["level"] (spPartsOfAll K)) :
    FnOk P w K mg base CX0 (k + 1) a.a_is_sentence a.d_is_sentence ["some"] spIsSen:=by
  refine T.F_is_sentence.ok sc_is_sentence (fun vs H Q E h=>?_) (fun cdv A outer s H vs Q E hr h=>?_)
  · obtain ⟨p,s,rfl,_⟩:=h
    rfl
  obtain ⟨p,sn,rfl,isp,hin,hc,hd,q⟩:=h
  refine ⟨_,(pss_cons (ps_set (i:=1) sc_is_sentence.nd rfl (Or.inl rfl) (pe_lst (pa_cons (pv 0) pa_nil)))
      (pss_cons (ps_set (i:=2) sc_is_sentence.nd rfl (Or.inl rfl) pe_int)
      (pss_cons (ps_set (i:=3) sc_is_sentence.nd rfl (Or.inl rfl) pe_int)
      (pss_cons (ps_while PassesOwn.never (pt_cmpR op_gt (pe_callB call_len_seq rfl T.n_len bt_len (pa_cons (pv 1) pa_nil)) pe_int (nomark _)) (pss_cons (ps_aug (i:=2) sc_is_sentence.nd rfl (Or.inl rfl) pe_int iop_add)
      (pss_cons (ps_aug (i:=3) sc_is_sentence.nd rfl (Or.inl rfl) (pe_callB call_len_seq rfl T.n_len bt_len (pa_cons (pv 1) pa_nil)) iop_add)
      (pss_cons (ps_if (PW.pt (pw_or (pt_cmpR op_gt (pv 2) (pe_glob (v:=.int 24) rfl T.m_MOST_DEEP ⟨_,rfl⟩) (nomark _)) (pw_or1 (pt_cmpR op_gt (pv 3) (pe_glob (v:=.int 200) rfl T.m_MOST_TUPLES ⟨_,rfl⟩) (nomark _))))) (pss_one (ps_ret pe_bl)) pss_nil)
      (pss_cons (ps_if (pt_not (pt_truth (pe_callB (call_all rfl) rfl T.n_all bt_all (pa_cons (pe_lc0 (osc:=defScope S_is_sentence) (js:=[]) rfl (by show LcOk (defScope S_is_sentence) _ "part" []; exact ⟨rfl,by decide +kernel,by decide +kernel,rfl,by decide +kernel,by decide +kernel,by decide +kernel⟩) rfl (pi_list (pv 1)) (by show ∀ j∈([]:List Nat),j < 4; decide) (fun cl C s₂ H₂ fp=>(pe_call G_is_shaped hr rfl T.m_is_shaped T.F_is_shaped.2 T.b_is_shaped .nil pass0 (pa_cons (pv 0) pa_nil)))) pa_nil)) (fun _=>rfl))) (pss_one (ps_ret pe_bl)) pss_nil)
      (pss_one (ps_set (i:=1) sc_is_sentence.nd rfl (Or.inl rfl) (pe_call G_parts_of_all hr rfl T.m_parts_of_all T.F_parts_of_all.2 T.b_parts_of_all .nil pass0 (pa_cons (pv 1) pa_nil)))))))))
      (pss_one (ps_ret pe_bl)))))),?_⟩
  refine ⟨_,rfl,by show 1≤sizeLine; decide,fun l0 hl0=>?_⟩
  have g0:=Same.new hl0 (.lst [.ref p])
  refine ⟨fun m σ H'=>∃ (ss:List Sn) (ps:List Addr) (l:Addr) (d t:Nat),m = cnt ss∧Same H H'∧H' l = some (.lst (ps.map V.ref))∧Paired (IsS H') ss ps∧(∀ u∈ss,u.inO letts∧d + u.depth≤24)∧t + cnt ss≤200∧σ = [some (.ref p),some (.ref l),some (.int d),some (.int t)],
    ⟨_,[sn],[p],l0,0,0,rfl,g0,upd_same,.cons (isp.mono (Tups.of g0)) .nil,?_,?_,rfl⟩,?_⟩
  · intro u hu
    have e:u = sn:=by simpa using hu
    subst e
    exact ⟨hin,by omega⟩
  · show 0 + (sn.count + 0)≤200
    omega
  rintro m σ H' ⟨ss,ps,l,d,t,rfl,g,hl,hp,hi,ht,rfl⟩
  have lp:=pd_len hp
  have le:(ps.map V.ref).length = ss.length:=by rw [List.length_map]; exact lp.symm
  have cl:=cnt_len ss
  refine ⟨_,rfl,l,_,rfl,.inl (SqL.of hl),_,_,rfl,rfl,_,rfl,ite2 (fun c=>?_) (fun c=>?_)⟩
  · have c':0 < ss.length:=by have:=of_decide_eq_true c; rw [le] at this; omega
    have hd1:d + 1≤24:=by
      have hm:ss[0]∈ss:=List.getElem_mem c'
      have:=(hi _ hm).2
      have:=Sn.depth_pos ss[0]
      omega
    refine ⟨_,fun σ' H2 h=>h,?_⟩
    refine ⟨_,rfl,(d:Int),1,rfl,rfl,?_⟩
    refine ⟨_,rfl,_,rfl,l,_,rfl,.inl (SqL.of hl),(t:Int),_,rfl,rfl,?_⟩
    refine ⟨_,rfl,_,_,rfl,rfl,_,rfl,ite2 (fun c2=>?_) (fun _=>?_)⟩
    · exfalso
      have:=of_decide_eq_true c2
      omega
    refine ⟨_,rfl,_,_,rfl,rfl,_,rfl,ite2 (fun c2=>?_) (fun _=>?_)⟩
    · exfalso
      have:=of_decide_eq_true c2
      rw [le] at this
      omega
    refine ⟨_,rfl,l,rfl,⟨_,SqL.of hl⟩,lc_relL (fun _ v=>v = .bl true) (SqL.of hl) (by rw [le]; exact Nat.le_of_lt (small1000 (by omega))) ?_ (mono1 mono_shaped) ?_⟩
    · intro i x H2 hx g2
      rw [List.getElem?_map] at hx
      cases ho:ps[i]? with
      | none=>rw [ho] at hx; cases hx
      | some y =>
        rw [ho] at hx
        cases hx
        obtain ⟨sy,hsy,iy⟩:=pd_ta hp ho
        exact ⟨_,rfl,y,sy,rfl,iy.mono (Tups.of g2),Sn.inO_letters sy (hi sy (List.mem_of_getElem? hsy)).1,fun H3 g3=>⟨rfl,g2.trans g3⟩⟩
    intro ys H2 p2 hr' g2 hp2
    have e:=pd_map (f:=fun _=>.bl true) hr'
    have e2:ys = (ps.map fun _=>true).map V.bl:=by rw [e,List.map_map,List.map_map]; rfl
    subst e2
    have g3:=Same.new hp2 (.lst ((ps.map fun _=>true).map V.bl))
    have ea:(ps.map fun _=>true).all id = true:=by rw [List.all_map,List.all_eq_true]; exact fun _ _=>rfl
    refine ⟨p2,_,rfl,SqL.of upd_same,_,rfl,?_⟩
    rw [ea]
    refine iteF ?_
    have gg:=g2.trans g3
    refine ⟨_,rfl,l,ss,ps,rfl,gg.seq (SqL.of hl),pd_imp (fun _ _ z=>z.mono (Tups.of gg)) hp,by omega,fun l' H4 ps' g4 hn hl' hp'=>?_⟩
    have cp:=cnt_parts ss
    refine ⟨cnt (ss.flatMap Sn.parts),by omega,ss.flatMap Sn.parts,ps',l',d + 1,t + (ps.map V.ref).length,rfl,(g.trans gg).trans g4,hl',hp',?_,by omega,rfl⟩
    intro u hu
    obtain ⟨s',hs',hu'⟩:=mem_level.mp hu
    obtain ⟨i1,i2⟩:=hi s' hs'
    have:=Sn.depth_parts s' u hu'
    exact ⟨Sn.inO_parts s' i1 u hu',by omega⟩
  · exact q _ g
theorem ok_must_be_order (T:Txt P w K mg a) (G_is_order:FnOk P w K mg base CX0 k a.a_is_order a.d_is_order ["order"] (spIsOrder K)):FnOk P w K mg base CX0 (k + 1) a.a_must_be_order a.d_must_be_order ["order"] (spMustOrder K):=by
  refine T.F_must_be_order.ok sc_must_be_order (fun vs H Q E h=>?_) (fun cdv A outer s H vs Q E hr h=>?_)
  · obtain ⟨l,os,rfl,_⟩:=h
    rfl
  obtain ⟨l,os,rfl,hq,ho,q⟩:=h
  refine ⟨_,(pss_one (ps_if (pt_not (pt_truth (pe_call G_is_order hr rfl T.m_is_order T.F_is_order.2 T.b_is_order .nil pass0 (pa_cons (pv 0) pa_nil)) (fun _=>rfl))) (pss_one ps_never) pss_nil)),?_⟩
  refine ⟨_,rfl,l,os,rfl,hq,Nat.le_trans ho.le (by decide),fun H' g=>⟨_,rfl,?_⟩⟩
  rw [ordB_of ho]
  exact iteF (q H' g)
theorem ok_must_be_sentence (T:Txt P w K mg a) (G_is_sentence:FnOk P w K mg base CX0 k a.a_is_sentence a.d_is_sentence ["some"] spIsSen):FnOk P w K mg base CX0 (k + 1) a.a_must_be_sentence a.d_must_be_sentence ["some"] spMustSen:=by
  refine T.F_must_be_sentence.ok sc_must_be_sentence (fun vs H Q E h=>?_) (fun cdv A outer s H vs Q E hr h=>?_)
  · obtain ⟨p,s,rfl,_⟩:=h
    rfl
  obtain ⟨p,sn,rfl,h1,h2,h3,h4,q⟩:=h
  refine ⟨_,(pss_one (ps_if (pt_not (pt_truth (pe_call G_is_sentence hr rfl T.m_is_sentence T.F_is_sentence.2 T.b_is_sentence .nil pass0 (pa_cons (pv 0) pa_nil)) (fun _=>rfl))) (pss_one ps_never) pss_nil)),?_⟩
  exact ⟨_,rfl,p,sn,rfl,h1,h2,h3,h4,fun H' g=>⟨_,rfl,iteF (q H' g)⟩⟩
theorem ok_tuples_in (T:Txt P w K mg a) (G_parts_of_all:FnOk P w K mg base CX0 k a.a_parts_of_all a.d_parts_of_all ["level"] (spPartsOfAll K)):FnOk P w K mg base CX0 (k + 1) a.a_tuples_in a.d_tuples_in ["sentence"] spTuplesIn:=by
  refine T.F_tuples_in.ok sc_tuples_in (fun vs H Q E h=>?_) (fun cdv A outer s H vs Q E hr h=>?_)
  · obtain ⟨p,s,rfl,_⟩:=h
    rfl
  obtain ⟨p,sn,rfl,isp,hc,q⟩:=h
  refine ⟨_,(pss_cons (ps_set (i:=1) sc_tuples_in.nd rfl (Or.inl rfl) (pe_lst pa_nil))
      (pss_cons (ps_set (i:=2) sc_tuples_in.nd rfl (Or.inl rfl) (pe_lst (pa_cons (pv 0) pa_nil)))
      (pss_cons (ps_while PassesOwn.never (pt_cmpR op_gt (pe_callB call_len_seq rfl T.n_len bt_len (pa_cons (pv 2) pa_nil)) pe_int (nomark _)) (pss_cons (ps_expr (pe_bm PySem.F.plainAttrs_list PySem.F.slot_list_extend PySem.F.type_list_extend mt_extend (pv 1) (pa_cons (pv 2) pa_nil)))
      (pss_one (ps_set (i:=2) sc_tuples_in.nd rfl (Or.inl rfl) (pe_call G_parts_of_all hr rfl T.m_parts_of_all T.F_parts_of_all.2 T.b_parts_of_all .nil pass0 (pa_cons (pv 2) pa_nil))))))
      (pss_one (ps_ret (pv 1)))))),?_⟩
  refine ⟨by show 0≤sizeLine; decide,fun f hf=>?_⟩
  refine ⟨_,rfl,by show 1≤sizeLine; decide,fun l0 hl0=>?_⟩
  have g0:=(Same.new hf (.lst [])).trans (Same.new hl0 (.lst [.ref p]))
  have nfl:f≠l0:=ne_of_none upd_same hl0
  refine ⟨fun m σ H'=>∃ (ts ss:List Sn) (qs ps:List Addr) (l:Addr),m = cnt ss∧Same H H'∧H' f = some (.lst (qs.map V.ref))∧H' l = some (.lst (ps.map V.ref))∧f≠l∧Paired (IsS H') ts qs∧Paired (IsS H') ss ps∧ts.length + cnt ss = sn.count ∧
      (∀ x,((∃ t∈ts,x∈t.letters)∨∃ u∈ss,x∈u.all)↔x∈sn.all)∧σ = [some (.ref p),some (.ref f),some (.ref l)],
    ⟨_,[],[sn],[],[p],l0,rfl,g0,by rw [upd_ne nfl]; exact upd_same,upd_same,nfl,.nil,.cons (isp.mono (Tups.of g0)) .nil,?_,?_,rfl⟩,?_⟩
  · show 0 + (sn.count + 0) = sn.count
    omega
  · intro x
    simp
  rintro m σ H' ⟨ts,ss,qs,ps,l,rfl,g,hf',hl,nfl,hts,hss,hcn,hle,rfl⟩
  have lt:=pd_len hts
  have lp:=pd_len hss
  have cl:=cnt_len ss
  have le:(ps.map V.ref).length = ss.length:=by rw [List.length_map]; exact lp.symm
  refine ⟨_,rfl,l,_,rfl,.inl (SqL.of hl),_,_,rfl,rfl,_,rfl,ite2 (fun c=>?_) (fun c=>?_)⟩
  · have c':0 < ss.length:=by have:=of_decide_eq_true c; rw [le] at this; omega
    refine ⟨_,fun σ' H2 h=>h,?_⟩
    refine ⟨_,rfl,.inl ⟨rfl,_,SqL.of hf'⟩,_,rfl,f,l,_,_,rfl,rfl,hf',hl,by rw [List.length_map,List.length_map]; exact Nat.le_of_lt (small1000 (by omega)),?_⟩
    have t1:Tups H' (upd H' f (.lst (qs.map V.ref ++ ps.map V.ref))):=Tups.lst hf' _
    have g1:Same H (upd H' f (.lst (qs.map V.ref ++ ps.map V.ref))):=g.over hf _
    have hl1:(upd H' f (.lst (qs.map V.ref ++ ps.map V.ref))) l = some (.lst (ps.map V.ref)):=by rw [upd_ne (Ne.symm nfl)]; exact hl
    refine ⟨_,rfl,l,ss,ps,rfl,SqL.of hl1,pd_imp (fun _ _ z=>z.mono t1) hss,by omega,fun l' H3 ps' g3 hn hl' hp'=>?_⟩
    have cp:=cnt_parts ss
    have t3:=t1.trans (Tups.of g3)
    refine ⟨cnt (ss.flatMap Sn.parts),by omega,ts ++ ss,ss.flatMap Sn.parts,qs ++ ps,ps',l',rfl,g1.trans g3,by rw [List.map_append]; exact g3 _ _ upd_same,hl',ne_of_none upd_same hn,
      pd_app (pd_imp (fun _ _ z=>z.mono t3) hts) (pd_imp (fun _ _ z=>z.mono t3) hss),hp',by rw [List.length_append]; omega,fun x=>?_,rfl⟩
    rw [← hle x]
    constructor
    · rintro (⟨t,ht,hx⟩ | ⟨u,hu,hx⟩)
      · rcases List.mem_append.mp ht with z | z
        · exact .inl ⟨t,z,hx⟩
        · exact .inr ⟨t,z,(Sn.all_iff t x).mpr (.inl hx)⟩
      · obtain ⟨s',hs',hu'⟩:=mem_level.mp hu
        exact .inr ⟨s',hs',(Sn.all_iff s' x).mpr (.inr ⟨u,hu',hx⟩)⟩
    · rintro (⟨t,ht,hx⟩ | ⟨u,hu,hx⟩)
      · exact .inl ⟨t,List.mem_append_left _ ht,hx⟩
      · rcases (Sn.all_iff u x).mp hx with z | ⟨v,hv,z⟩
        · exact .inl ⟨u,List.mem_append_right _ hu,z⟩
        · exact .inr ⟨v,mem_level.mpr ⟨u,hu,hv⟩,z⟩
  · have c':ss = []:=by
      have:¬ 0 < ss.length:=fun z=>c (decide_eq_true (by rw [le]; omega))
      exact List.length_eq_zero_iff.mp (by omega)
    subst c'
    refine ⟨_,rfl,q f H' ts qs g hf hf' hts ?_ fun x=>?_⟩
    · have:cnt [] = 0:=rfl
      omega
    · rw [← hle x]
      constructor
      · exact fun z=>.inl z
      · rintro (z | ⟨u,hu,_⟩)
        · exact z
        · cases hu
theorem ok_letters_in (T:Txt P w K mg a) (G_tuples_in:FnOk P w K mg base CX0 k a.a_tuples_in a.d_tuples_in ["sentence"] spTuplesIn) (G_letters_of:FnOk P w K mg base CX0 k a.a_letters_of a.d_letters_of ["sentence"] spLettersOf):FnOk P w K mg base CX0 (k + 1) a.a_letters_in a.d_letters_in ["sentence"] spLettersIn:=by
  refine T.F_letters_in.ok sc_letters_in (fun vs H Q E h=>?_) (fun cdv A outer s H vs Q E hr h=>?_)
  · obtain ⟨p,s,rfl,_⟩:=h
    rfl
  obtain ⟨p,sn,rfl,isp,hc,q⟩:=h
  refine ⟨_,(pss_cons (ps_set (i:=1) sc_letters_in.nd rfl (Or.inl rfl) (pe_lst pa_nil))
      (pss_cons (ps_for PassesOwn.never rfl (pi_list (pe_call G_tuples_in hr rfl T.m_tuples_in T.F_tuples_in.2 T.b_tuples_in .nil pass0 (pa_cons (pv 0) pa_nil))) (pg_name (i:=2) sc_letters_in.nd rfl (Or.inl rfl)) (pss_one (ps_expr (pe_bm PySem.F.plainAttrs_list PySem.F.slot_list_extend PySem.F.type_list_extend mt_extendT (pv 1) (pa_cons (pe_call G_letters_of hr rfl T.m_letters_of T.F_letters_of.2 T.b_letters_of .nil pass0 (pa_cons (pv 2) pa_nil)) pa_nil)))))
      (pss_one (ps_ret (pv 1))))),?_⟩
  refine ⟨by show 0≤sizeLine; decide,fun f hf=>?_⟩
  have g0:=Same.new hf (.lst [])
  refine ⟨_,rfl,p,sn,rfl,isp.mono (Tups.of g0),hc,fun l H1 ts ps g1 hn hl hts htl hle=>?_⟩
  have nfl:f≠l:=ne_of_none upd_same hn
  have lt:=pd_len hts
  refine ⟨l,rfl,⟨_,SqL.of hl⟩,?_⟩
  refine for_list (xs:=ps.map V.ref) (fun i σ H'=>∃ (f1:Option V),Same H H'∧H' f = some (.lst (((ts.take i).flatMap Sn.letters).map V.str))∧H' l = some (.lst (ps.map V.ref))∧Paired (IsS H') ts ps∧((ts.take i).flatMap Sn.letters).length≤i∧i≤ts.length∧σ = [some (.ref p),some (.ref f),f1])
    ⟨_,g0.trans g1,g1 _ _ upd_same,hl,hts,by simp,Nat.zero_le _,rfl⟩ ?_ ?_ ?_
  · rintro i σ H' _ ⟨f1,g,hf',hl',_⟩
    exact SqL.of hl'
  · rintro i x σ H' hx ⟨f1,g,hf',hl',hts',lq,li,rfl⟩
    rw [List.getElem?_map] at hx
    cases ho:ps[i]? with
    | none=>rw [ho] at hx; cases hx
    | some pp =>
      rw [ho] at hx
      cases hx
      obtain ⟨sy,hsy,iy⟩:=pd_ta hts' ho
      have hlt:=(List.getElem?_eq_some_iff.mp hsy).1
      obtain ⟨zs,c1,c2,c3,c4,c5⟩:=sen_cut iy
      have l1:=Sn.letters_le sy
      refine ⟨_,rfl,.inl ⟨rfl,_,SqL.of hf'⟩,_,rfl,pp,sy.word,sy.letters.length,sy.parts.length,_,rfl,c1,shape_in sy,c3,fun b hb=>?_⟩
      rw [c4]
      have hf2:(upd H' b (.tup (sy.letters.map V.str))) f = some (.lst (((ts.take i).flatMap Sn.letters).map V.str)):=by rw [upd_ne (ne_of_none hf' hb)]; exact hf'
      refine ⟨f,b,_,sy.letters.map V.str,rfl,rfl,hf2,SqT.of upd_same,?_,?_⟩
      · rw [List.length_map,List.length_map]
        exact Nat.le_of_lt (small1000 (by omega))
      · have t1:Tups H' (upd (upd H' b (.tup (sy.letters.map V.str))) f (.lst (((ts.take i).flatMap Sn.letters).map V.str ++ sy.letters.map V.str))):=(Tups.new hb _).trans (Tups.lst hf2 _)
        have e:(ts.take (i + 1)).flatMap Sn.letters = (ts.take i).flatMap Sn.letters ++ sy.letters:=by rw [take_next hsy,List.flatMap_append,List.flatMap_singleton]
        refine ⟨_,(g.trans (Same.new hb _)).over hf _,by rw [upd_same,e,List.map_append],?_,pd_imp (fun _ _ z=>z.mono t1) hts',by rw [e,List.length_append]; omega,hlt,rfl⟩
        rw [upd_ne (Ne.symm nfl),upd_ne (ne_of_none hl' hb)]
        exact hl'
  · rintro σ H' ⟨f1,g,hf',hl',hts',lq,li,rfl⟩
    rw [List.length_map,← lt,List.take_length] at hf' lq
    refine ⟨_,rfl,q f H' _ g hf hf' (fun x=>?_) (by omega)⟩
    rw [← hle x,List.mem_flatMap]
theorem ok_must_have_mark (T:Txt P w K mg a):FnOk P w K mg base CX0 (k + 1) a.a_must_have_mark a.d_must_have_mark ["order", "letter"] (spMustMark K):=by
  refine T.F_must_have_mark.ok sc_must_have_mark (fun vs H Q E h=>?_) (fun cdv A outer s H vs Q E hr h=>?_)
  · obtain ⟨l,x,os,rfl,_⟩:=h
    rfl
  obtain ⟨l,x,os,rfl,hO,hx,q⟩:=h
  refine ⟨_,(pss_one (ps_if (pt_cmpR op_notIn_seq (pv 1) (pv 0) (by with_unfolding_all rfl)) (pss_one ps_never) pss_nil)),?_⟩
  refine ⟨_,rfl,_,rfl,l,_,rfl,.inl hO,rfl,flat_strs _,_,rfl,?_⟩
  have e:(if true = true then !inV (.str x) (os.map V.str) else inV (.str x) (os.map V.str)) = false:=by
    rw [if_pos rfl,inV_strs,decide_eq_true hx]; rfl
  rw [e]
  exact iteF q
theorem ok_must_have_marks (T:Txt P w K mg a) (G_letters_in:FnOk P w K mg base CX0 k a.a_letters_in a.d_letters_in ["sentence"] spLettersIn) (G_must_have_mark:FnOk P w K mg base CX0 k a.a_must_have_mark a.d_must_have_mark ["order", "letter"] (spMustMark K)):FnOk P w K mg base CX0 (k + 1) a.a_must_have_marks a.d_must_have_marks ["order", "sentence"] (spMustMarks K):=by
  refine T.F_must_have_marks.ok sc_must_have_marks (fun vs H Q E h=>?_) (fun cdv A outer s H vs Q E hr h=>?_)
  · obtain ⟨l,p,os,s,rfl,_⟩:=h
    rfl
  obtain ⟨l,p,os,sn,rfl,hO,isp,hc,hin,q⟩:=h
  refine ⟨_,(pss_one (ps_for PassesOwn.never rfl (pi_list (pe_call G_letters_in hr rfl T.m_letters_in T.F_letters_in.2 T.b_letters_in .nil pass0 (pa_cons (pv 1) pa_nil))) (pg_name (i:=2) sc_must_have_marks.nd rfl (Or.inl rfl)) (pss_one (ps_expr (pe_call G_must_have_mark hr rfl T.m_must_have_mark T.F_must_have_mark.2 T.b_must_have_mark .nil pass0 (pa_cons (pv 0) (pa_cons (pv 2) pa_nil))))))),?_⟩
  refine ⟨_,rfl,p,sn,rfl,isp,hc,fun f H1 xs g1 hn hl hmem hxl=>?_⟩
  refine ⟨f,rfl,⟨_,SqL.of hl⟩,?_⟩
  refine for_list (xs:=xs.map V.str) (fun i σ H'=>∃ f1:Option V,H' = H1∧σ = [some (.ref l),some (.ref p),f1]) ⟨_,rfl,rfl⟩ ?_ ?_ ?_
  · rintro i σ H' _ ⟨f1,rfl,_⟩
    exact SqL.of hl
  · rintro i x σ H' hx ⟨f1,rfl,rfl⟩
    rw [List.getElem?_map] at hx
    cases ho:xs[i]? with
    | none=>rw [ho] at hx; cases hx
    | some y =>
      rw [ho] at hx
      cases hx
      have hy:y∈os:=(Sn.inO_iff sn).mp hin y ((hmem y).mp (List.mem_of_getElem? ho))
      exact ⟨_,rfl,_,rfl,l,y,os,rfl,g1.seq hO,hy,_,rfl,rfl⟩
  · rintro σ H' ⟨f1,rfl,rfl⟩
    exact q _ g1
theorem ok_table_of_two (T:Txt P w K mg a):FnOk P w K mg base CX0 (k + 1) a.a_table_of_two a.d_table_of_two ["word", "one", "other", "every"] spTwo:=by
  refine T.F_table_of_two.ok sc_table_of_two (fun vs H Q E h=>?_) (fun cdv A outer s H vs Q E hr h=>?_)
  · obtain ⟨o,N,M,n,f,g,rfl,_⟩:=h
    rfl
  obtain ⟨o,N,M,n,f,g,rfl,hN,hM,q⟩:=h
  refine ⟨_,(pss_cons (ps_if (pt_cmpR op_eq (pv 0) pe_str (nomark _)) (pss_one (ps_ret (pe_op op_andN (pv 1) (pv 2)))) pss_nil)
      (pss_cons (ps_if (pt_cmpR op_eq (pv 0) pe_str (nomark _)) (pss_one (ps_ret (pe_op op_orN (pv 1) (pv 2)))) pss_nil)
      (pss_cons (ps_if (pt_cmpR op_eq (pv 0) pe_str (nomark _)) (pss_one (ps_ret (pe_op op_xorN (pv 1) (pv 2)))) pss_nil)
      (pss_one (ps_ret (pe_op op_orN (pe_op op_xorN (pv 3) (pv 1)) (pv 2))))))),?_⟩
  rcases fin4 o with e | e | e | e
  · subst e
    exact ⟨_,rfl,rfl,_,rfl,ite2 (fun _=>⟨_,rfl,_,rfl,N,M,rfl,rfl,q _ (tab_and hN hM)⟩) (fun c=>absurd (decide_eq_true rfl) c)⟩
  · subst e
    refine ⟨_,rfl,rfl,_,rfl,ite2 (fun c=>absurd c (ne_str (show Str.ofString "or" ≠ Str.ofString "and" by decide +kernel))) (fun _=>?_)⟩
    exact ⟨_,rfl,rfl,_,rfl,ite2 (fun _=>⟨_,rfl,_,rfl,N,M,rfl,rfl,q _ (tab_or hN hM)⟩) (fun c=>absurd (decide_eq_true rfl) c)⟩
  · subst e
    refine ⟨_,rfl,rfl,_,rfl,ite2 (fun c=>absurd c (ne_str (show Str.ofString "either" ≠ Str.ofString "and" by decide +kernel))) (fun _=>?_)⟩
    refine ⟨_,rfl,rfl,_,rfl,ite2 (fun c=>absurd c (ne_str (show Str.ofString "either" ≠ Str.ofString "or" by decide +kernel))) (fun _=>?_)⟩
    exact ⟨_,rfl,rfl,_,rfl,ite2 (fun _=>⟨_,rfl,_,rfl,N,M,rfl,rfl,q _ (tab_xor hN hM)⟩) (fun c=>absurd (decide_eq_true rfl) c)⟩
  · subst e
    refine ⟨_,rfl,rfl,_,rfl,ite2 (fun c=>absurd c (ne_str (show Str.ofString "if" ≠ Str.ofString "and" by decide +kernel))) (fun _=>?_)⟩
    refine ⟨_,rfl,rfl,_,rfl,ite2 (fun c=>absurd c (ne_str (show Str.ofString "if" ≠ Str.ofString "or" by decide +kernel))) (fun _=>?_)⟩
    refine ⟨_,rfl,rfl,_,rfl,ite2 (fun c=>absurd c (ne_str (show Str.ofString "if" ≠ Str.ofString "either" by decide +kernel))) (fun _=>?_)⟩
    refine ⟨_,rfl,_,rfl,_,N,rfl,rfl,_,rfl,_,M,rfl,rfl,q _ (tab_congr (tab_or (tab_xor (tab_all n) hN) hM) fun b _=>?_)⟩
    show ((true != f b) || g b) = (!f b || g b)
    cases f b <;> rfl
theorem ok_table_step {d:Nat} (T:Txt P w K mg a) (G_all_rows:FnOk P w K mg base CX0 k a.a_all_rows a.d_all_rows ["marks"] spAllRows) (G_rows_with:FnOk P w K mg base CX0 k a.a_rows_with a.d_rows_with ["place", "marks"] spRowsWith)
    (G_flipped:FnOk P w K mg base CX0 k a.a_flipped a.d_flipped ["table", "place", "marks"] spFlipped) (G_parts_of:FnOk P w K mg base CX0 k a.a_parts_of a.d_parts_of ["sentence"] spPartsOf)
    (G_table_of_two:FnOk P w K mg base CX0 k a.a_table_of_two a.d_table_of_two ["word", "one", "other", "every"] spTwo)
    (G_table_of:FnOk P w K mg base CX0 k a.a_table_of a.d_table_of ["sentence", "order"] (spTable K d)):FnOk P w K mg base CX0 (k + 1) a.a_table_of a.d_table_of ["sentence", "order"] (spTable K (d + 1)):=by
  refine T.F_table_of.ok sc_table_of (fun vs H Q E h=>?_) (fun cdv A outer s H vs Q E hr h=>?_)
  · obtain ⟨p,l,sn,os,rfl,_⟩:=h
    rfl
  obtain ⟨p,l,sn,os,rfl,isp,hO,hin,h8,hd,q⟩:=h
  refine ⟨_,(pss_cons (ps_set (i:=2) sc_table_of.nd rfl (Or.inl rfl) (pe_ix ix_tup (pv 0) pe_int (fun _ _=>rfl)))
      (pss_cons (ps_set (i:=3) sc_table_of.nd rfl (Or.inl rfl) (pe_callB call_len_seq rfl T.n_len bt_len (pa_cons (pv 1) pa_nil)))
      (pss_cons (ps_if (pt_cmpR op_eq (pv 2) pe_str (nomark _)) (pss_one (ps_ret pe_int)) pss_nil)
      (pss_cons (ps_if (pt_cmpR op_eq (pv 2) pe_str (nomark _)) (pss_one (ps_ret (pe_call G_all_rows hr rfl T.m_all_rows T.F_all_rows.2 T.b_all_rows .nil pass0 (pa_cons (pv 3) pa_nil)))) pss_nil)
      (pss_cons (ps_if (pt_cmpR op_eq (pv 2) pe_str (nomark _)) (pss_one (ps_ret (pe_call G_rows_with hr rfl T.m_rows_with T.F_rows_with.2 T.b_rows_with .nil pass0 (pa_cons (pe_bm PySem.F.plainAttrs_list PySem.F.slot_list_index PySem.F.type_list_index mt_index (pv 1) (pa_cons (pe_ix ix_tup (pv 0) pe_int (fun _ _=>rfl)) pa_nil)) (pa_cons (pv 3) pa_nil))))) pss_nil)
      (pss_cons (ps_setLC (tt:=tYes) (i:=4) sc_table_of.nd rfl (Or.inl rfl) (.inl rfl) (osc:=defScope S_table_of) (js:=[1]) rfl (by show LcOk (defScope S_table_of) _ "part" ["order"]; exact ⟨rfl,by decide +kernel,by decide +kernel,rfl,by decide +kernel,by decide +kernel,by decide +kernel⟩) rfl (pi_tup (pe_call G_parts_of hr rfl T.m_parts_of T.F_parts_of.2 T.b_parts_of .nil pass0 (pa_cons (pv 0) pa_nil))) (by show ∀ j∈([1]:List Nat),j < 5; decide) (fun cl C s₂ H₂ fp pins s' σ' H' Q I h=>wpAny_pure ⟨H',I,h⟩) (fun cl C s₂ H₂ fp=>(pe_call G_table_of hr rfl T.m_table_of T.F_table_of.2 T.b_table_of .nil pass0 (pa_cons (pv 0) (pa_cons (pv 1) pa_nil)))) rfl)
      (pss_cons (ps_if (pt_cmpR op_eq (pv 2) pe_str (nomark _)) (pss_one (ps_ret (pe_op op_xorN (pe_call G_all_rows hr rfl T.m_all_rows T.F_all_rows.2 T.b_all_rows .nil pass0 (pa_cons (pv 3) pa_nil)) (pe_ix ix_list (pv 4) pe_int (fun _ _=>rfl))))) pss_nil)
      (pss_cons (ps_if (pt_cmpR op_eq (pv 2) pe_str (nomark _)) (pss_one (ps_ret (pe_op op_orN (pe_ix ix_list (pv 4) pe_int (fun _ _=>rfl)) (pe_call G_flipped hr rfl T.m_flipped T.F_flipped.2 T.b_flipped .nil pass0 (pa_cons (pe_ix ix_list (pv 4) pe_int (fun _ _=>rfl)) (pa_cons (pe_bm PySem.F.plainAttrs_list PySem.F.slot_list_index PySem.F.type_list_index mt_index (pv 1) (pa_cons (pe_ix ix_tup (pv 0) pe_int (fun _ _=>rfl)) pa_nil)) (pa_cons (pv 3) pa_nil))))))) pss_nil)
      (pss_cons (ps_if (pt_cmpR op_eq (pv 2) pe_str (nomark _)) (pss_one (ps_ret (pe_op op_andN (pe_ix ix_list (pv 4) pe_int (fun _ _=>rfl)) (pe_call G_flipped hr rfl T.m_flipped T.F_flipped.2 T.b_flipped .nil pass0 (pa_cons (pe_ix ix_list (pv 4) pe_int (fun _ _=>rfl)) (pa_cons (pe_bm PySem.F.plainAttrs_list PySem.F.slot_list_index PySem.F.type_list_index mt_index (pv 1) (pa_cons (pe_ix ix_tup (pv 0) pe_int (fun _ _=>rfl)) pa_nil)) (pa_cons (pv 3) pa_nil))))))) pss_nil)
      (pss_one (ps_ret (pe_call G_table_of_two hr rfl T.m_table_of_two T.F_table_of_two.2 T.b_table_of_two .nil pass0 (pa_cons (pv 2) (pa_cons (pe_ix ix_list (pv 4) pe_int (fun _ _=>rfl)) (pa_cons (pe_ix ix_list (pv 4) pe_int (fun _ _=>rfl)) (pa_cons (pe_call G_all_rows hr rfl T.m_all_rows T.F_all_rows.2 T.b_all_rows .nil pass0 (pa_cons (pv 3) pa_nil)) pa_nil)))))))))))))))),?_⟩
  have hlen:(os.map V.str).length = os.length:=List.length_map _
  obtain ⟨zs,c1,c2,c3,c4,c5⟩:=sen_cut isp
  have lz:=pd_len c2
  have lp2:=Sn.parts_le sn
  refine ⟨_,rfl,p,_,0,_,rfl,rfl,SqT.of c1,at0,?_⟩
  refine ⟨_,rfl,l,_,rfl,.inl hO,?_⟩
  rw [hlen]
  have comp:∀ {σ:St} {Q2:Addr→Hp→List V→Prop},σ.getD 1 none = some (.ref l)→(∀ (b:Addr) (ys:List V) (H':Hp),Same H H'→H' b = none→ys.length = sn.parts.length→(∀ (j:Nat) v,ys[j]? = some v→∃ t N,sn.parts[j]? = some t∧v = .int (N:Nat)∧TabOf os t N)→Q2 b H' ys) →
      ∀ b0,H b0 = none→∃ W:Nat→Nat→List V→Hp→Prop,(∃ m,W 0 m [] (upd H b0 (.tup (zs.map V.ref))))∧∀ i m ys H,W i m ys H →
        ((Itt K b0).stop i H∧∀ p,H p = none→Q2 p H ys) ∨
        ((Itt K b0).go i H∧ys.length < sizeLine∧∀ x H',(Itt K b0).yld i H x H'→tYes (lcS σ [1] (some x)) H' fun b H2 =>
          if b = true then tCall (spTable K d) [] E0 (tCons (tVar 0) (tCons (tVar 1) tNil)) (lcS σ [1] (some x)) H2 fun v H3=>∃ m',m' < m∧W (i + 1) m' (ys ++ [v]) H3 else ∃ m',m' < m∧W (i + 1) m' ys H2):=by
    intro σ Q2 hσ hQ2 b0 hb0
    have g0:=Same.new hb0 (.tup (zs.map V.ref))
    refine lc_idxT (fun j v=>∃ t N,sn.parts[j]? = some t∧v = .int ((N:Nat):Int)∧TabOf os t N) (SqT.of upd_same) (by rw [List.length_map]; exact Nat.le_of_lt (small1000 (by omega))) ?_ (mono2 (mono_table d)) ?_
    · intro i x H' hx g
      rw [List.getElem?_map] at hx
      cases ho:zs[i]? with
      | none=>rw [ho] at hx; cases hx
      | some y =>
        rw [ho] at hx
        cases hx
        obtain ⟨t,ht,it⟩:=pd_ta c2 ho
        have htm:=List.mem_of_getElem? ht
        have dp:=Sn.depth_parts sn t htm
        refine ⟨_,rfl,.ref l,?_,y,l,t,os,rfl,it.mono (Tups.of (g0.trans g)),(g0.trans g).seq hO,Sn.inO_parts sn hin t htm,h8,by omega,fun N H3 g3 hN=>⟨⟨t,N,ht,rfl,hN⟩,g.trans g3⟩⟩
        show some (σ.getD 1 none) = _
        rw [hσ]
    · intro ys H' pp hl hy g hpp
      exact hQ2 pp ys H' (g0.trans g) hpp (by rw [hl,List.length_map]; exact lz.symm) hy
  cases sn with
  | c0 y =>
    cases y with
    | false=>exact ⟨_,rfl,rfl,_,rfl,ite2 (fun _=>q 0 _ (Same.refl _) (tab_zero _)) (fun c=>absurd (decide_eq_true rfl) c)⟩
    | true =>
      refine ⟨_,rfl,rfl,_,rfl,ite2 (fun c=>absurd c (ne_str (show Str.ofString "yes" ≠ Str.ofString "no" by decide +kernel))) (fun _=>?_)⟩
      exact ⟨_,rfl,rfl,_,rfl,ite2 (fun _=>⟨_,rfl,os.length,rfl,h8,q _ _ (Same.refl _) (tab_all _)⟩) (fun c=>absurd (decide_eq_true rfl) c)⟩
  | mk x =>
    refine ⟨_,rfl,rfl,_,rfl,ite2 (fun c=>absurd c (ne_str (show Str.ofString "mark" ≠ Str.ofString "no" by decide +kernel))) (fun _=>?_)⟩
    refine ⟨_,rfl,rfl,_,rfl,ite2 (fun c=>absurd c (ne_str (show Str.ofString "mark" ≠ Str.ofString "yes" by decide +kernel))) (fun _=>?_)⟩
    obtain ⟨i1,i2,i3⟩:=ix_spec (show x∈os from hin)
    have isp':H p = some (.tup [.str "mark", .str x]):=isp
    exact ⟨_,rfl,rfl,_,rfl,ite2 (fun _=>⟨_,rfl,.inl ⟨rfl,_,hO⟩,_,rfl,p,_,1,_,rfl,rfl,SqT.of isp',at1,l,_,.str x,_,rfl,rfl,hO,rfl,flat_strs _,i1,_,rfl,ix os x,os.length,rfl,i2,h8,fun R hR=>q R _ (Same.refl _) hR⟩) (fun c=>absurd (decide_eq_true rfl) c)⟩
  | nt s1 =>
    refine ⟨_,rfl,rfl,_,rfl,ite2 (fun c=>absurd c (ne_str (show Str.ofString "not" ≠ Str.ofString "no" by decide +kernel))) (fun _=>?_)⟩
    refine ⟨_,rfl,rfl,_,rfl,ite2 (fun c=>absurd c (ne_str (show Str.ofString "not" ≠ Str.ofString "yes" by decide +kernel))) (fun _=>?_)⟩
    refine ⟨_,rfl,rfl,_,rfl,ite2 (fun c=>absurd c (ne_str (show Str.ofString "not" ≠ Str.ofString "mark" by decide +kernel))) (fun _=>?_)⟩
    refine ⟨_,rfl,p,_,_,_,_,rfl,c1,shape_in (.nt s1),c3,fun b0 hb0=>?_⟩
    rw [c5]
    refine ⟨b0,rfl,⟨_,SqT.of upd_same⟩,comp rfl (fun b ys H0 g0 hb0' hyl hy=>?_) b0 hb0⟩
    have hb:=upd_same (H:=H0) (a:=b) (o:=.lst ys)
    have g:=g0.trans (Same.new hb0' (.lst ys))
    obtain ⟨v,rfl⟩:=len1 hyl
    obtain ⟨t,N,ht,rfl,hN⟩:=hy 0 v rfl
    cases ht
    refine ⟨_,rfl,rfl,_,rfl,ite2 (fun _=>⟨_,rfl,os.length,rfl,h8,_,rfl,b,_,0,_,rfl,rfl,SqL.of hb,at0,_,N,rfl,rfl,q _ _ g (tab_congr (tab_xor (tab_all _) hN) fun z _=>?_)⟩) (fun c=>absurd (decide_eq_true rfl) c)⟩
    show (true != s1.val (envB os z)) = !s1.val (envB os z)
    cases s1.val (envB os z) <;> rfl
  | b2 o s1 s2 =>
    have w1:w2 o≠Str.ofString "no" := w2_no o
    have w2':w2 o≠Str.ofString "yes" := w2_yes o
    have w3:w2 o≠Str.ofString "mark" := w2_mark o
    have w4:w2 o≠Str.ofString "not" := w2_not o
    have w5:w2 o≠Str.ofString "some" := w2_some o
    have w6:w2 o≠Str.ofString "each" := w2_each o
    refine ⟨_,rfl,rfl,_,rfl,ite2 (fun c=>absurd c (ne_str w1)) (fun _=>?_)⟩
    refine ⟨_,rfl,rfl,_,rfl,ite2 (fun c=>absurd c (ne_str w2')) (fun _=>?_)⟩
    refine ⟨_,rfl,rfl,_,rfl,ite2 (fun c=>absurd c (ne_str w3)) (fun _=>?_)⟩
    refine ⟨_,rfl,p,_,_,_,_,rfl,c1,shape_in (.b2 o s1 s2),c3,fun b0 hb0=>?_⟩
    rw [c5]
    refine ⟨b0,rfl,⟨_,SqT.of upd_same⟩,comp rfl (fun b ys H0 g0 hb0' hyl hy=>?_) b0 hb0⟩
    have hb:=upd_same (H:=H0) (a:=b) (o:=.lst ys)
    have g:=g0.trans (Same.new hb0' (.lst ys))
    obtain ⟨v,u,rfl⟩:=len2 hyl
    obtain ⟨t,N,ht,rfl,hN⟩:=hy 0 v rfl
    obtain ⟨t',M,ht',rfl,hM⟩:=hy 1 u rfl
    cases ht
    cases ht'
    refine ⟨_,rfl,rfl,_,rfl,ite2 (fun c=>absurd c (ne_str w4)) (fun _=>?_)⟩
    refine ⟨_,rfl,rfl,_,rfl,ite2 (fun c=>absurd c (ne_str w5)) (fun _=>?_)⟩
    refine ⟨_,rfl,rfl,_,rfl,ite2 (fun c=>absurd c (ne_str w6)) (fun _=>?_)⟩
    exact ⟨_,rfl,_,rfl,b,_,0,_,rfl,rfl,SqL.of hb,at0,_,rfl,b,_,1,_,rfl,rfl,SqL.of hb,at1,_,rfl,os.length,rfl,h8,o,N,M,os.length,_,_,rfl,hN,hM,fun R hR=>q R _ g hR⟩
  | q1 o x s1 =>
    obtain ⟨hx,hs1⟩:=hin
    obtain ⟨i1,i2,i3⟩:=ix_spec hx
    cases o with
    | true =>
      refine ⟨_,rfl,rfl,_,rfl,ite2 (fun c=>absurd c (ne_str (show Str.ofString "some" ≠ Str.ofString "no" by decide +kernel))) (fun _=>?_)⟩
      refine ⟨_,rfl,rfl,_,rfl,ite2 (fun c=>absurd c (ne_str (show Str.ofString "some" ≠ Str.ofString "yes" by decide +kernel))) (fun _=>?_)⟩
      refine ⟨_,rfl,rfl,_,rfl,ite2 (fun c=>absurd c (ne_str (show Str.ofString "some" ≠ Str.ofString "mark" by decide +kernel))) (fun _=>?_)⟩
      refine ⟨_,rfl,p,_,_,_,_,rfl,c1,shape_in (.q1 true x s1),c3,fun b0 hb0=>?_⟩
      rw [c5]
      refine ⟨b0,rfl,⟨_,SqT.of upd_same⟩,comp rfl (fun b ys H0 g0 hb0' hyl hy=>?_) b0 hb0⟩
      have hb:=upd_same (H:=H0) (a:=b) (o:=.lst ys)
      have g:=g0.trans (Same.new hb0' (.lst ys))
      obtain ⟨v,rfl⟩:=len1 hyl
      obtain ⟨t,N,ht,rfl,hN⟩:=hy 0 v rfl
      cases ht
      have c1':=g _ _ c1
      refine ⟨_,rfl,rfl,_,rfl,ite2 (fun c=>absurd c (ne_str (show Str.ofString "some" ≠ Str.ofString "not" by decide +kernel))) (fun _=>?_)⟩
      refine ⟨_,rfl,rfl,_,rfl,ite2 (fun _=>?_) (fun c=>absurd (decide_eq_true rfl) c)⟩
      refine ⟨_,rfl,b,_,0,_,rfl,rfl,SqL.of hb,at0,_,rfl,b,_,0,_,rfl,rfl,SqL.of hb,at0,_,rfl,.inl ⟨rfl,_,g.seq hO⟩,_,rfl,p,_,1,_,rfl,rfl,SqT.of c1',at1,l,_,.str x,_,rfl,rfl,g.seq hO,rfl,flat_strs _,i1,_,rfl,N,ix os x,os.length,_,rfl,i2,h8,hN,fun R hR=>⟨N,R,rfl,rfl,q _ _ g (tab_congr (tab_or hN hR) fun z _=>?_)⟩⟩
      exact (val_some hs1 hx z).symm
    | false =>
      refine ⟨_,rfl,rfl,_,rfl,ite2 (fun c=>absurd c (ne_str (show Str.ofString "each" ≠ Str.ofString "no" by decide +kernel))) (fun _=>?_)⟩
      refine ⟨_,rfl,rfl,_,rfl,ite2 (fun c=>absurd c (ne_str (show Str.ofString "each" ≠ Str.ofString "yes" by decide +kernel))) (fun _=>?_)⟩
      refine ⟨_,rfl,rfl,_,rfl,ite2 (fun c=>absurd c (ne_str (show Str.ofString "each" ≠ Str.ofString "mark" by decide +kernel))) (fun _=>?_)⟩
      refine ⟨_,rfl,p,_,_,_,_,rfl,c1,shape_in (.q1 false x s1),c3,fun b0 hb0=>?_⟩
      rw [c5]
      refine ⟨b0,rfl,⟨_,SqT.of upd_same⟩,comp rfl (fun b ys H0 g0 hb0' hyl hy=>?_) b0 hb0⟩
      have hb:=upd_same (H:=H0) (a:=b) (o:=.lst ys)
      have g:=g0.trans (Same.new hb0' (.lst ys))
      obtain ⟨v,rfl⟩:=len1 hyl
      obtain ⟨t,N,ht,rfl,hN⟩:=hy 0 v rfl
      cases ht
      have c1':=g _ _ c1
      refine ⟨_,rfl,rfl,_,rfl,ite2 (fun c=>absurd c (ne_str (show Str.ofString "each" ≠ Str.ofString "not" by decide +kernel))) (fun _=>?_)⟩
      refine ⟨_,rfl,rfl,_,rfl,ite2 (fun c=>absurd c (ne_str (show Str.ofString "each" ≠ Str.ofString "some" by decide +kernel))) (fun _=>?_)⟩
      refine ⟨_,rfl,rfl,_,rfl,ite2 (fun _=>?_) (fun c=>absurd (decide_eq_true rfl) c)⟩
      refine ⟨_,rfl,b,_,0,_,rfl,rfl,SqL.of hb,at0,_,rfl,b,_,0,_,rfl,rfl,SqL.of hb,at0,_,rfl,.inl ⟨rfl,_,g.seq hO⟩,_,rfl,p,_,1,_,rfl,rfl,SqT.of c1',at1,l,_,.str x,_,rfl,rfl,g.seq hO,rfl,flat_strs _,i1,_,rfl,N,ix os x,os.length,_,rfl,i2,h8,hN,fun R hR=>⟨N,R,rfl,rfl,q _ _ g (tab_congr (tab_and hN hR) fun z _=>?_)⟩⟩
      exact (val_each hs1 hx z).symm
theorem ok_table_of (T:Txt P w K mg a) (G_all_rows:FnOk P w K mg base CX0 k a.a_all_rows a.d_all_rows ["marks"] spAllRows) (G_rows_with:FnOk P w K mg base CX0 k a.a_rows_with a.d_rows_with ["place", "marks"] spRowsWith)
    (G_flipped:FnOk P w K mg base CX0 k a.a_flipped a.d_flipped ["table", "place", "marks"] spFlipped) (G_parts_of:FnOk P w K mg base CX0 k a.a_parts_of a.d_parts_of ["sentence"] spPartsOf)
    (G_table_of_two:FnOk P w K mg base CX0 k a.a_table_of_two a.d_table_of_two ["word", "one", "other", "every"] spTwo):∀ d:Nat,FnOk P w K mg base CX0 (k + d) a.a_table_of a.d_table_of ["sentence", "order"] (spTable K d)
  | 0=>by
    refine ⟨fun vs H Q E h=>?_,fun A outer s H args us vs Q E _ _ _ _ h=>?_⟩
    · obtain ⟨p,l,sn,os,rfl,_⟩:=h
      rfl
    · obtain ⟨p,l,sn,os,_,_,_,_,_,hd,_⟩:=h
      have:=Sn.depth_pos sn
      omega
  | d + 1=>ok_table_step T (G_all_rows.mono (Nat.le_add_right _ _)) (G_rows_with.mono (Nat.le_add_right _ _)) (G_flipped.mono (Nat.le_add_right _ _)) (G_parts_of.mono (Nat.le_add_right _ _)) (G_table_of_two.mono (Nat.le_add_right _ _)) (ok_table_of T G_all_rows G_rows_with G_flipped G_parts_of G_table_of_two d)
end
end K77
namespace K77
open PySem L2 Sen
section
variable {P:Program} {w:World} {K:PySem.W.Frag} {mg:Str→Option Value} {base:Heap} {a:Ad} {k:Nat}
theorem ok_held_at (T:Txt P w K mg a) (G_rows_with:FnOk P w K mg base CX0 k a.a_rows_with a.d_rows_with ["place", "marks"] spRowsWith) (G_flipped:FnOk P w K mg base CX0 k a.a_flipped a.d_flipped ["table", "place", "marks"] spFlipped):FnOk P w K mg base CX0 (k + 1) a.a_held_at a.d_held_at ["table", "place", "value", "marks"] spHeldAt:=by
  refine T.F_held_at.ok sc_held_at (fun vs H Q E h=>?_) (fun cdv A outer s H vs Q E hr h=>?_)
  · obtain ⟨N,p,n,v,f,rfl,_⟩:=h
    rfl
  obtain ⟨N,p,n,v,f,rfl,hp,hn,tb,q⟩:=h
  refine ⟨_,(pss_cons (ps_set (i:=4) sc_held_at.nd rfl (Or.inl rfl) (pe_op op_andN (pv 0) (pe_call G_rows_with hr rfl T.m_rows_with T.F_rows_with.2 T.b_rows_with .nil pass0 (pa_cons (pv 1) (pa_cons (pv 3) pa_nil)))))
      (pss_cons (ps_set (i:=5) sc_held_at.nd rfl (Or.inl rfl) (pe_ifExp (pt_cmpR op_eq (pv 2) pe_int (nomark _)) (pv 4) (pe_op op_xorN (pv 0) (pv 4))))
      (pss_one (ps_ret (pe_op op_orN (pv 5) (pe_call G_flipped hr rfl T.m_flipped T.F_flipped.2 T.b_flipped .nil pass0 (pa_cons (pv 5) (pa_cons (pv 1) (pa_cons (pv 3) pa_nil))))))))),?_⟩
  refine ⟨_,rfl,_,rfl,_,rfl,p,n,rfl,hp,hn,fun R tr=>?_⟩
  refine ⟨N,R,rfl,rfl,?_⟩
  have o:=Sen.tab_and tb tr
  refine ⟨_,rfl,rfl,_,rfl,?_⟩
  cases v with
  | true =>
    refine ite2 (fun _=>?_) (fun c=>absurd (decide_eq_true rfl) c)
    refine ⟨_,rfl,?_⟩
    refine ⟨_,rfl,_,rfl,_,rfl,_,rfl,N &&& R,p,n,_,rfl,hp,hn,o,fun R2 t2=>?_⟩
    refine ⟨_,_,rfl,rfl,q _ (tab_congr (Sen.tab_or o t2) fun b hb=>?_)⟩
    show ((f b && b.testBit p) || (f (putBit b p (!b.testBit p)) && (putBit b p (!b.testBit p)).testBit p)) = f (putBit b p true)
    rw [putBit_bit,if_pos rfl]
    cases e:b.testBit p
    · simp
    · rw [← e,Bdd.putBit_self,e]; simp
  | false =>
    refine ite2 (fun c=>absurd (of_decide_eq_true c) (fun z=>by injection z with z; revert z; decide)) (fun _=>?_)
    have z:=Sen.tab_xor tb o
    refine ⟨_,rfl,_,rfl,N,N &&& R,rfl,rfl,?_⟩
    refine ⟨_,rfl,_,rfl,_,rfl,_,rfl,N ^^^ (N &&& R),p,n,_,rfl,hp,hn,z,fun R2 t2=>?_⟩
    refine ⟨_,_,rfl,rfl,q _ (tab_congr (Sen.tab_or z t2) fun b hb=>?_)⟩
    show ((f b != (f b && b.testBit p)) || (f (putBit b p (!b.testBit p)) != (f (putBit b p (!b.testBit p)) && (putBit b p (!b.testBit p)).testBit p))) = f (putBit b p false)
    rw [putBit_bit,if_pos rfl]
    cases e:b.testBit p
    · rw [← e,Bdd.putBit_self,e]; simp
    · simp
theorem ok_hangs_on (T:Txt P w K mg a) (G_flipped:FnOk P w K mg base CX0 k a.a_flipped a.d_flipped ["table", "place", "marks"] spFlipped):FnOk P w K mg base CX0 (k + 1) a.a_hangs_on a.d_hangs_on ["table", "place", "marks"] spHangs:=by
  refine T.F_hangs_on.ok sc_hangs_on (fun vs H Q E h=>?_) (fun cdv A outer s H vs Q E hr h=>?_)
  · obtain ⟨N,p,n,f,rfl,_⟩:=h
    rfl
  obtain ⟨N,p,n,f,rfl,hp,hn,tb,q⟩:=h
  refine ⟨_,(pss_one (ps_ret (pe_cmpR op_ne (pe_call G_flipped hr rfl T.m_flipped T.F_flipped.2 T.b_flipped .nil pass0 (pa_cons (pv 0) (pa_cons (pv 1) (pa_cons (pv 2) pa_nil)))) (pv 0) (nomark _)))),?_⟩
  refine ⟨_,rfl,_,rfl,_,rfl,N,p,n,f,rfl,hp,hn,tb,fun R tr=>?_⟩
  refine ⟨_,rfl,rfl,?_⟩
  refine q _ (fun e=>?_) (fun e=>?_)
  · have e1:R = N:=by
      have z:V.int (R:Nat) = V.int (N:Nat):=of_decide_eq_true (by simpa using e)
      injection z with z
      omega
    subst e1
    refine Bdd.Free.of_flip fun b hb=>?_
    rw [← Bdd.tab_val tr hb,Bdd.tab_val tb hb]
  · refine Classical.byContradiction fun no=>?_
    have e1:R = N:=Bdd.tab_inj tr tb fun b hb=>by
      refine Classical.byContradiction fun ne=>no ⟨b,hb,fun z=>ne ?_⟩
      show f (putBit b p (!b.testBit p)) = f b
      cases e:b.testBit p
      · rw [Bool.not_false,← z,← e,Bdd.putBit_self]
      · rw [Bool.not_true,z,← e,Bdd.putBit_self]
    subst e1
    rw [decide_eq_true rfl] at e
    cases e
theorem ok_first_place (T:Txt P w K mg a) (G_hangs_on:FnOk P w K mg base CX0 k a.a_hangs_on a.d_hangs_on ["table", "place", "marks"] spHangs):FnOk P w K mg base CX0 (k + 1) a.a_first_place a.d_first_place ["table", "marks"] spFirst:=by
  refine T.F_first_place.ok sc_first_place (fun vs H Q E h=>?_) (fun cdv A outer s H vs Q E hr h=>?_)
  · obtain ⟨N,n,f,rfl,_⟩:=h
    rfl
  obtain ⟨N,n,f,rfl,hn,tb,q⟩:=h
  refine ⟨_,(pss_cons (ps_set (i:=2) sc_first_place.nd rfl (Or.inl rfl) pe_int)
      (pss_cons (ps_while PassesOwn.never (PW.pt (pw_and (pt_cmpR op_lt (pv 2) (pv 1) (nomark _)) (pw_and1 (pt_not (pt_truth (pe_call G_hangs_on hr rfl T.m_hangs_on T.F_hangs_on.2 T.b_hangs_on .nil pass0 (pa_cons (pv 0) (pa_cons (pv 2) (pa_cons (pv 1) pa_nil)))) (fun _=>rfl)))))) (pss_one (ps_aug (i:=2) sc_first_place.nd rfl (Or.inl rfl) pe_int iop_add)))
      (pss_one (ps_ret (pv 2))))),?_⟩
  refine ⟨fun m σ H'=>∃ p:Nat,m = n - p∧H' = H∧p≤n∧(∀ i,i < p→Bdd.Free n f i)∧σ = [some (.int N),some (.int n),some (.int p)],⟨_,0,rfl,rfl,Nat.zero_le _,fun i hi=>absurd hi (Nat.not_lt_zero _),rfl⟩,?_⟩
  rintro m σ H' ⟨p,rfl,rfl,hp,fr,rfl⟩
  refine ⟨_,rfl,_,rfl,_,_,rfl,rfl,_,rfl,ite2 (fun c=>?_) (fun c=>?_)⟩
  · have hpn:p < n:=by have:=of_decide_eq_true c; omega
    refine ⟨_,rfl,_,rfl,_,rfl,N,p,n,f,rfl,hpn,hn,tb,fun b hf ht=>?_⟩
    cases b with
    | false =>
      refine ⟨_,rfl,ite2 (fun c2=>?_) (fun c2=>absurd rfl c2)⟩
      refine ⟨_,fun σ' H2 h=>h,?_⟩
      refine ⟨_,rfl,_,_,rfl,rfl,n - (p + 1),by omega,p + 1,rfl,rfl,hpn,fun i hi=>?_,rfl⟩
      by_cases e:i = p
      · subst e
        exact hf rfl
      · exact fr i (by omega)
    | true =>
      refine ⟨_,rfl,ite2 (fun c2=>absurd c2 Bool.false_ne_true) (fun c2=>?_)⟩
      exact ⟨_,rfl,q p hp fr fun _=>ht rfl⟩
  · refine ⟨_,rfl,q p hp fr fun h=>absurd (decide_eq_true (by omega)) c⟩
theorem ok_Book_room_stepH {d:Nat} (T:Txt P w K mg a) (G_first_place:FnOk P w K mg base CX0 k a.a_first_place a.d_first_place ["table", "marks"] spFirst) (G_held_at:FnOk P w K mg base CX0 k a.a_held_at a.d_held_at ["table", "place", "value", "marks"] spHeldAt)
    (G_Book_room_with:FnOk P w K mg base CX0 k a.a_Book_room_with a.d_Book_room_with ["self", "table"] (spRoomWithH a.a_Book d)):FnOk P w K mg base CX0 (k + 1) a.a_Book_room_with a.d_Book_room_with ["self", "table"] (spRoomWithH a.a_Book (d + 1)):=by
  refine T.F_Book_room_with.ok sc_Book_room_with (fun vs H Q E h=>?_) (fun cdv A outer s H vs Q E hr h=>?_)
  · obtain ⟨b,os,rs,F,t,u,f,rfl,_⟩:=h
    rfl
  obtain ⟨b,os,rs,F,t,u,f,rfl,hB,hlen,hu,hd,tb,fr,q⟩:=h
  refine ⟨_,(pss_cons (ps_if (pt_cmp (pc_dnotin (hu_of hr) (pv 1) (pe_fld (pv 0) rfl))) (pss_cons (ps_set (i:=2) sc_Book_room_with.nd rfl (Or.inl rfl) (pe_callB call_len_seq rfl T.n_len bt_len (pa_cons (pe_fld (pv 0) rfl) pa_nil)))
      (pss_cons (ps_set (i:=3) sc_Book_room_with.nd rfl (Or.inl rfl) (pe_call G_first_place hr rfl T.m_first_place T.F_first_place.2 T.b_first_place .nil pass0 (pa_cons (pv 1) (pa_cons (pv 2) pa_nil))))
      (pss_cons (ps_set (i:=4) sc_Book_room_with.nd rfl (Or.inl rfl) (pe_meth (pv 0) T.c_Book T.e_Book_room_with G_Book_room_with hr T.b_Book_room_with .nil pass0 (pa_cons (pe_call G_held_at hr rfl T.m_held_at T.F_held_at.2 T.b_held_at .nil pass0 (pa_cons (pv 1) (pa_cons (pv 3) (pa_cons pe_int (pa_cons (pv 2) pa_nil))))) pa_nil)))
      (pss_cons (ps_set (i:=5) sc_Book_room_with.nd rfl (Or.inl rfl) (pe_meth (pv 0) T.c_Book T.e_Book_room_with G_Book_room_with hr T.b_Book_room_with .nil pass0 (pa_cons (pe_call G_held_at hr rfl T.m_held_at T.F_held_at.2 T.b_held_at .nil pass0 (pa_cons (pv 1) (pa_cons (pv 3) (pa_cons pe_int (pa_cons (pv 2) pa_nil))))) pa_nil)))
      (pss_cons (ps_dput (hu_of hr) (pe_fld (pv 0) rfl) (pv 1) (pe_callB call_len_seq rfl T.n_len bt_len (pa_cons (pe_fld (pv 0) rfl) pa_nil)) rfl)
      (pss_cons (ps_expr (pe_bm PySem.F.plainAttrs_list PySem.F.slot_list_append PySem.F.type_list_append mt_append (pe_fld (pv 0) rfl) (pa_cons (pe_tup (pa_cons (pv 3) (pa_cons (pv 4) (pa_cons (pv 5) pa_nil)))) pa_nil)))
      (pss_one (ps_expr (pe_bm PySem.F.plainAttrs_list PySem.F.slot_list_append PySem.F.type_list_append mt_append (pe_fld (pv 0) rfl) (pa_cons (pv 1) pa_nil)))))))))) pss_nil)
      (pss_one (ps_ret (pe_dget (hu_of hr) (pe_fld (pv 0) rfl) (pv 1) (fun _ _=>rfl))))),?_⟩
  have hB0:=hB
  obtain ⟨dx,ml,rl,tl,nd,rv,ts,kvs,h⟩:=hB
  have n8:os.length≤8:=h.ord.le
  have hml:(os.map V.str).length = os.length:=List.length_map _
  have pw:2 ^ (d + 1) = 2 ^ d + 2 ^ d:=by rw [Nat.pow_succ]; omega
  have pd:1≤2 ^ d:=Nat.one_le_two_pow
  have pn:2 ^ os.length≤256:=Sen.two8 n8
  refine ⟨_,rfl,_,rfl,b,a.a_Book,dx,_,_,rfl,h.hb,T.c_Book,T.na_Book_numbers,rfl,nd,_,rfl,DGet.k (k:=.inl (t:Int)) h.hd,?_⟩
  by_cases hm:t∈ts
  · obtain ⟨j,hj,ej⟩:=List.getElem_of_mem hm
    have ej':ts[j]? = some t:=by rw [List.getElem?_eq_getElem hj,ej]
    have ev:=h.nums.get j t ej'
    have z:=DGet.k (k:=.inl (t:Int)) h.hd
    rw [ev] at z
    rw [ev]
    refine ⟨_,rfl,iteF ?_⟩
    refine ⟨_,rfl,b,a.a_Book,dx,_,_,rfl,h.hb,T.c_Book,T.na_Book_numbers,rfl,_,rfl,nd,_,rfl,z,?_⟩
    refine q j rs H (fun x o e _=>e) (fun _ _ e=>e) hB0 (.refl _) (by rw [← h.tabs.len]; exact hj) (h.tabs.find h.bk ej' tb) (by omega) (fun j h1 h2=>by omega) (Nat.le_add_right _ _)
  · have ev:=h.nums.non t hm
    rw [ev]
    refine ⟨_,rfl,iteT ?_⟩
    refine ⟨_,rfl,b,a.a_Book,dx,_,_,rfl,h.hb,T.c_Book,T.na_Book_marks,rfl,ml,_,rfl,.inl (SqL.of h.hm),?_⟩
    rw [hml]
    refine ⟨_,rfl,_,rfl,t,os.length,f,rfl,n8,tb,fun p hp0 frp dep=>?_⟩
    have hp:p < os.length:=by
      refine Nat.lt_of_le_of_ne hp0 fun e=>hm ?_
      subst e
      have cs:=Bdd.const_of_free frp
      have two:=Bdd.len2 h.bk
      cases hf:f 0 with
      | false=>exact List.mem_of_getElem? (h.tabs.same (j:=0) (by omega) tb fun r=>by rw [cs _ (Bdd.bits_lt _ _),hf]; rfl)
      | true=>exact List.mem_of_getElem? (h.tabs.same (j:=1) (by omega) tb fun r=>by rw [cs _ (Bdd.bits_lt _ _),hf]; exact Bdd.yes_yes h.bk r)
    have hup:u≤p:=by
      refine Nat.le_of_not_lt fun hlt=>?_
      obtain ⟨c,hc,hne⟩:=dep hp
      exact hne (by rw [fr p hlt c hc,fr p hlt c hc])
    have fre:∀ (v:Bool) i,i < p + 1→Bdd.Free os.length (fun c=>f (putBit c p v)) i:=fun v i hi c hc v'=>by
      show f (putBit (putBit c i v') p v) = f (putBit c p v)
      by_cases e:i = p
      · subst e
        congr 1
        refine Bdd.eq_bits (putBit_lt (putBit_lt hc hp) hp) (putBit_lt hc hp) fun j _=>?_
        rw [putBit_bit,putBit_bit,putBit_bit]
        by_cases e:j = i
        · rw [if_pos e,if_pos e]
        · rw [if_neg e,if_neg e,if_neg e]
      · rw [← frp i (by omega) _ (putBit_lt (v:=v) hc hp) v']
        congr 1
        refine Bdd.eq_bits (putBit_lt (putBit_lt hc (by omega)) hp) (putBit_lt (putBit_lt hc hp) (by omega)) fun j _=>?_
        rw [putBit_bit,putBit_bit,putBit_bit,putBit_bit]
        by_cases e1:j = p
        · rw [if_pos e1,if_pos e1,if_neg (by omega)]
        · rw [if_neg e1,if_neg e1]
    refine ⟨_,rfl,b,dx,_,rfl,h.hb,rfl,_,rfl,_,rfl,_,rfl,t,p,os.length,false,f,rfl,hp,n8,tb,fun R0 tr0=>?_⟩
    refine ⟨b,os,rs,F,R0,p + 1,_,rfl,hB0,by omega,hp,by omega,tr0,fre false,fun k0 rs1 H1 aw1 tu1 hB1 gr1 lt1 y1 ln1 lv1 hh1=>?_⟩
    have hB1':=hB1
    obtain ⟨dx1,ml1,rl1,tl1,nd1,rv1,ts1,kvs1,h1⟩:=hB1
    refine ⟨_,rfl,b,dx1,_,rfl,h1.hb,rfl,_,rfl,_,rfl,_,rfl,t,p,os.length,true,f,rfl,hp,n8,tb,fun R1 tr1=>?_⟩
    refine ⟨b,os,rs1,F,R1,p + 1,_,rfl,hB1',by omega,hp,by omega,tr1,fre true,fun k1 rs2 H2 aw2 tu2 hB2 gr2 lt2 y2 ln2 lv2 hh2=>?_⟩
    obtain ⟨dx2,ml2,rl2,tl2,nd2,rv2,ts2,kvs2,h2⟩:=hB2
    have lt1':k0 < rs2.length:=Nat.lt_of_lt_of_le lt1 gr2.len
    have y1':∀ r,Bdd.yes rs2 k0 r = f (putBit (Bdd.bits r os.length) p false):=fun r=>by rw [gr2.yes h1.bk lt1]; exact y1 r
    have g02:=gr1.trans gr2
    have lrs:=g02.len
    have lvs:∀ j,rs.length≤j→j < rs2.length→p < Bdd.lev os.length rs2 j:=fun j a1 a2=>by
      by_cases hj:j < rs1.length
      · rw [gr2.lev hj]; exact lv1 j a1 hj
      · exact lv2 j (by omega) a2
    have old:∀ j,j < rs.length→¬ ∀ r,Bdd.yes rs2 j r = f (Bdd.bits r os.length):=fun j hj hy=>hm (List.mem_of_getElem? (h.tabs.same hj tb fun r=>by rw [← g02.yes h.bk hj]; exact hy r))
    obtain ⟨B',yn⟩:=Bdd.room_new h2.bk hp lt1' lt2 y1' y2 frp (dep hp) old lvs
    have hn2:t ∉ ts2:=fun hm2=>by
      obtain ⟨j,hj,ej⟩:=List.getElem_of_mem hm2
      have ej':ts2[j]? = some t:=by rw [List.getElem?_eq_getElem hj,ej]
      have hjr:j < rs2.length:=by rw [← h2.tabs.len]; exact hj
      have hy:=h2.tabs.find h2.bk ej' tb
      by_cases hjo:j < rs.length
      · exact old j hjo hy
      · obtain ⟨c,hc,hne⟩:=dep hp
        have lv:=lvs j (by omega) hjr
        refine hne ?_
        have a1:=hy (Bdd.put (Bdd.rowN c) p false)
        have a2:=hy (Bdd.put (Bdd.rowN c) p true)
        rw [Bdd.yes_put h2.bk hjr lv,Bdd.bits_put hp,Bdd.bits_rowN hc] at a1 a2
        exact a1.symm.trans a2
    have l2:=h2.len
    have s2:rs2.length < sizeLine:=Nat.lt_of_lt_of_le (show rs2.length < 9000001 by omega) (by decide)
    refine ⟨_,rfl,b,a.a_Book,dx2,_,_,rfl,h2.hb,T.c_Book,T.na_Book_rooms,rfl,rl2,_,rfl,.inl (SqL.of h2.hr),?_⟩
    rw [l2]
    refine ⟨_,rfl,b,a.a_Book,dx2,_,_,rfl,h2.hb,T.c_Book,T.na_Book_numbers,rfl,_,rfl,nd2,_,rfl,DPut.k (k:=.inl (t:Int)) h2.hd (by have:=h2.nums.len; have:=h2.tabs.len; omega),?_⟩
    have nb:nd2≠b:=ne_of h2.hd h2.hb (by intro z; cases z)
    have nm:nd2≠ml2:=ne_of h2.hd h2.hm (by intro z; cases z)
    have nr:nd2≠rl2:=ne_of h2.hd h2.hr (by intro z; cases z)
    have nt:nd2≠tl2:=ne_of h2.hd h2.ht (by intro z; cases z)
    have br:b≠rl2:=ne_of h2.hb h2.hr (by intro z; cases z)
    have bt:b≠tl2:=ne_of h2.hb h2.ht (by intro z; cases z)
    generalize hO3:HO.dK (putK kvs2 (Sum.inl (t:Int)) (V.int (rs2.length:Nat))) = o3
    have b3:upd H2 nd2 o3 b = some (.ins a.a_Book dx2 (bookFs ml2 rl2 tl2 nd2)):=by rw [upd_ne (Ne.symm nb)]; exact h2.hb
    have r3:upd H2 nd2 o3 rl2 = some (.lst rv2):=by rw [upd_ne (Ne.symm nr)]; exact h2.hr
    refine ⟨_,rfl,b,a.a_Book,dx2,_,_,rfl,b3,T.c_Book,T.na_Book_rooms,rfl,.inl ⟨rfl,_,SqL.of r3⟩,?_⟩
    refine ⟨_,rfl,_,rfl,_,rfl,by show 3≤sizeLine; decide,fun q4 hq4=>?_⟩
    generalize hO4:HO.tup [V.int (p:Nat),V.int (k0:Nat),V.int (k1:Nat)] = o4
    have r4:upd (upd H2 nd2 o3) q4 o4 rl2 = some (.lst rv2):=by rw [upd_ne (ne_of_none r3 hq4)]; exact r3
    refine ⟨rl2,_,_,rfl,rfl,r4,by rw [l2]; exact s2,?_⟩
    have b4:upd (upd H2 nd2 o3) q4 o4 b = some (.ins a.a_Book dx2 (bookFs ml2 rl2 tl2 nd2)):=by rw [upd_ne (ne_of_none b3 hq4)]; exact b3
    have t3:upd H2 nd2 o3 tl2 = some (.lst (ts2.map fun t=>V.int (t:Nat))):=by rw [upd_ne (Ne.symm nt)]; exact h2.ht
    have t4:upd (upd H2 nd2 o3) q4 o4 tl2 = some (.lst (ts2.map fun t=>V.int (t:Nat))):=by rw [upd_ne (ne_of_none t3 hq4)]; exact t3
    have m3:upd H2 nd2 o3 ml2 = some (.lst (os.map V.str)):=by rw [upd_ne (Ne.symm nm)]; exact h2.hm
    have m4:upd (upd H2 nd2 o3) q4 o4 ml2 = some (.lst (os.map V.str)):=by rw [upd_ne (ne_of_none m3 hq4)]; exact m3
    have n3:upd H2 nd2 o3 nd2 = some o3:=upd_same
    have n4:upd (upd H2 nd2 o3) q4 o4 nd2 = some o3:=by rw [upd_ne (ne_of_none n3 hq4)]; exact n3
    have qr:q4≠rl2:=Ne.symm (ne_of_none r3 hq4)
    have qt:q4≠tl2:=Ne.symm (ne_of_none t3 hq4)
    have q4':upd (upd H2 nd2 o3) q4 o4 q4 = some o4:=upd_same
    have tu4:Tups H2 (upd (upd H2 nd2 o3) q4 o4):=fun x xs e=>by
      have e3:upd H2 nd2 o3 x = some (.tup xs):=by rw [upd_ne (ne_of e h2.hd (by intro z; cases z))]; exact e
      rw [upd_ne (ne_of_none e3 hq4)]; exact e3
    have aw4:∀ x o,H2 x = some o→¬ F x→upd (upd H2 nd2 o3) q4 o4 x = some o:=fun x o e nf=>by
      have e3:upd H2 nd2 o3 x = some o:=by rw [upd_ne (fun z=>nf ((h2.ft x).mpr (.inr (.inr (.inr (.inr z))))))]; exact e
      rw [upd_ne (ne_of_none e3 hq4)]; exact e3
    generalize upd (upd H2 nd2 o3) q4 o4 = H4 at b4 t4 m4 n4 r4 q4' tu4 aw4
    generalize hO5:HO.lst (rv2 ++ [V.ref q4]) = o5
    have b5:upd H4 rl2 o5 b = some (.ins a.a_Book dx2 (bookFs ml2 rl2 tl2 nd2)):=by rw [upd_ne br]; exact b4
    have t5:upd H4 rl2 o5 tl2 = some (.lst (ts2.map fun t=>V.int (t:Nat))):=by rw [upd_ne (Ne.symm h2.rt)]; exact t4
    refine ⟨_,rfl,b,a.a_Book,dx2,_,_,rfl,b5,T.c_Book,T.na_Book_tables,rfl,.inl ⟨rfl,_,SqL.of t5⟩,_,rfl,tl2,_,_,rfl,rfl,t5,by rw [List.length_map,h2.tabs.len]; exact s2,?_⟩
    generalize hO6:HO.lst (ts2.map (fun t=>V.int (t:Nat)) ++ [V.int (t:Nat)]) = o6
    have b6:upd (upd H4 rl2 o5) tl2 o6 b = some (.ins a.a_Book dx2 (bookFs ml2 rl2 tl2 nd2)):=by rw [upd_ne bt]; exact b5
    have n6:upd (upd H4 rl2 o5) tl2 o6 nd2 = some (.dK (putK kvs2 (Sum.inl (t:Int)) (V.int (rs2.length:Nat)))):=by rw [upd_ne nt,upd_ne nr,n4,hO3]
    have z:=DGet.k (k:=.inl (t:Int)) n6
    rw [valV_put,if_pos rfl] at z
    refine ⟨_,rfl,b,a.a_Book,dx2,_,_,rfl,b6,T.c_Book,T.na_Book_numbers,rfl,_,rfl,nd2,_,rfl,z,?_⟩
    have tu6:Tups H4 (upd (upd H4 rl2 o5) tl2 o6):=fun x xs e=>by
      rw [upd_ne (ne_of e t4 (by intro z; cases z)),upd_ne (ne_of e r4 (by intro z; cases z))]; exact e
    have parts:=h2.more (H':=upd (upd H4 rl2 o5) tl2 o6) (i:=p) (lo:=k0) (hi:=k1) (t:=t) (q:=q4) (fun x xs e=>tu6 _ _ (tu4 _ _ e)) (b6.trans h2.hb.symm)
      (by rw [upd_ne h2.mt,upd_ne h2.mr,m4,h2.hm]) (by rw [upd_ne h2.rt,upd_same,hO5]) (by rw [upd_same,hO6]) n6
      (by rw [upd_ne qt,upd_ne qr,q4',hO4]) B' hn2 (tab_congr tb fun c hc=>by rw [yn,Bdd.bits_rowN hc])
    refine q rs2.length _ _ (fun x o e nf=>?_) (fun x xs e=>tu6 _ _ (tu4 _ _ (tu2 _ _ (tu1 _ _ e)))) ⟨_,_,_,_,_,_,_,_,parts⟩ (g02.trans (Bdd.Grown.snoc _ _)) (by simp) yn (by rw [List.length_append,List.length_singleton]; omega) (fun j a1 a2=>?_) ?_
    · have e2:=aw2 x o (aw1 x o e nf) nf
      rw [upd_ne (fun z=>nf ((h2.ft x).mpr (.inr (.inr (.inr (.inl z)))))),upd_ne (fun z=>nf ((h2.ft x).mpr (.inr (.inr (.inl z)))))]
      exact aw4 x o e2 nf
    · rw [List.length_append,List.length_singleton] at a2
      by_cases hj:j < rs2.length
      · rw [Bdd.lev_snoc hj]
        have:=lvs j a1 hj
        omega
      · have:j = rs2.length:=by omega
        subst this
        rw [Bdd.lev_of B' (i:=p) (lo:=k0) (hi:=k1) (by simp)]
        exact hup
    · rw [Bdd.hi_snoc]
      have:=Bdd.bH_step (n:=os.length) hup
      omega
theorem ok_Book_room_withH (T:Txt P w K mg a) (G_first_place:FnOk P w K mg base CX0 k a.a_first_place a.d_first_place ["table", "marks"] spFirst) (G_held_at:FnOk P w K mg base CX0 k a.a_held_at a.d_held_at ["table", "place", "value", "marks"] spHeldAt) :
    ∀ d:Nat,FnOk P w K mg base CX0 (k + d) a.a_Book_room_with a.d_Book_room_with ["self", "table"] (spRoomWithH a.a_Book d)
  | 0=>by
    refine ⟨fun vs H Q E h=>?_,fun A outer s H args us vs Q E _ _ _ _ h=>?_⟩
    · obtain ⟨b,os,rs,F,t,u,f,rfl,_⟩:=h
      rfl
    · obtain ⟨b,os,rs,F,t,u,f,_,_,_,hu,hd,_⟩:=h
      omega
  | d + 1=>ok_Book_room_stepH T (G_first_place.mono (Nat.le_add_right _ _)) (G_held_at.mono (Nat.le_add_right _ _)) (ok_Book_room_withH T G_first_place G_held_at d)
theorem ok_Book_enterH (T:Txt P w K mg a) (G_must_be_sentence:FnOk P w K mg base CX0 k a.a_must_be_sentence a.d_must_be_sentence ["some"] spMustSen) (G_must_have_marks:FnOk P w K mg base CX0 k a.a_must_have_marks a.d_must_have_marks ["order", "sentence"] (spMustMarks K))
    (G_table_of:FnOk P w K mg base CX0 k a.a_table_of a.d_table_of ["sentence", "order"] (spTable K 24)) (G_Book_room_with:FnOk P w K mg base CX0 k a.a_Book_room_with a.d_Book_room_with ["self", "table"] (spRoomWithH a.a_Book 9)) :
    FnOk P w K mg base CX0 (k + 1) a.a_Book_enter a.d_Book_enter ["self", "sentence"] (spEnterH a.a_Book):=by
  refine T.F_Book_enter.ok sc_Book_enter (fun vs H Q E h=>?_) (fun cdv A outer s H vs Q E hr h=>?_)
  · obtain ⟨b,p,os,rs,F,sn,rfl,_⟩:=h
    rfl
  obtain ⟨b,p,os,rs,F,sn,rfl,hB,hlen,isp,hin,hc,hd,q⟩:=h
  refine ⟨_,(pss_cons (ps_expr (pe_call G_must_be_sentence hr rfl T.m_must_be_sentence T.F_must_be_sentence.2 T.b_must_be_sentence .nil pass0 (pa_cons (pv 1) pa_nil)))
      (pss_cons (ps_expr (pe_call G_must_have_marks hr rfl T.m_must_have_marks T.F_must_have_marks.2 T.b_must_have_marks .nil pass0 (pa_cons (pe_fld (pv 0) rfl) (pa_cons (pv 1) pa_nil))))
      (pss_one (ps_ret (pe_meth (pv 0) T.c_Book T.e_Book_room_with G_Book_room_with hr T.b_Book_room_with .nil pass0 (pa_cons (pe_call G_table_of hr rfl T.m_table_of T.F_table_of.2 T.b_table_of .nil pass0 (pa_cons (pv 1) (pa_cons (pe_fld (pv 0) rfl) pa_nil))) pa_nil)))))),?_⟩
  have L:=bookLike a.a_Book
  have ho:=L.ord hB
  have hlt:sn.inO letts:=(Sn.inO_iff sn).mpr fun x hx=>ho.mem x ((Sn.inO_iff sn).mp hin x hx)
  refine ⟨_,rfl,p,sn,rfl,isp,hlt,hc,hd,fun H1 g1=>?_⟩
  have hB1:=L.same hB g1
  obtain ⟨dx,ml,rl,tl,nd,rv,ts,kvs,h1⟩:=hB1
  refine ⟨_,rfl,b,a.a_Book,dx,_,_,rfl,h1.hb,T.c_Book,T.na_Book_marks,rfl,_,rfl,ml,p,os,sn,rfl,SqL.of h1.hm,isp.mono (Tups.of g1),by omega,hin,fun H2 g2=>?_⟩
  have g12:=g1.trans g2
  have h2:=h1.frame (fun x o e _=>g2 x o e) (Tups.of g2)
  refine ⟨_,rfl,b,dx,_,rfl,h2.hb,rfl,_,rfl,_,rfl,b,a.a_Book,dx,_,_,rfl,h2.hb,T.c_Book,T.na_Book_marks,rfl,p,ml,sn,os,rfl,isp.mono (Tups.of g12),SqL.of h2.hm,hin,ho.le,hd,fun N H3 g3 hN=>?_⟩
  have g13:=g12.trans g3
  have hB3:=L.same hB g13
  refine ⟨b,os,rs,F,N,0,_,rfl,hB3,by show rs.length + 512≤9000000; omega,Nat.zero_le _,by have:=ho.le; omega,hN,fun i hi=>absurd hi (Nat.not_lt_zero _),fun j rs' H' aw tu hB' gr lt y ln _ hh=>?_⟩
  refine q j rs' H' (fun x o e nf=>aw x o (g13 _ _ e) nf) (fun x xs e=>tu _ _ (g13 _ _ e)) hB' gr ⟨lt,fun r=>?_⟩ (Nat.le_trans hh (Nat.add_le_add_left (Bdd.bH_8 ho.le) _))
  rw [y]
  refine Sn.val_congr sn hin fun x hx=>?_
  show (Bdd.bits r os.length).testBit (ix os x) = r (ix os x)
  exact Bdd.bits_bit r (ix_spec hx).2.1
theorem ok_Book_init (T:Txt P w K mg a) (G_must_be_order:FnOk P w K mg base CX0 k a.a_must_be_order a.d_must_be_order ["order"] (spMustOrder K)) (G_all_rows:FnOk P w K mg base CX0 k a.a_all_rows a.d_all_rows ["marks"] spAllRows) :
    FnOk P w K mg base CX0 (k + 1) a.a_Book_init a.d_Book_init ["self", "order"] (spBookInit (BookAt a.a_Book) K a.a_Book):=by
  refine T.F_Book_init.ok sc_Book_init (fun vs H Q E h=>?_) (fun cdv A outer s H vs Q E hr h=>?_)
  · obtain ⟨b,dx,l,os,rfl,_⟩:=h
    rfl
  obtain ⟨b,dx,l,os,rfl,hb,bd,hl,ho,q⟩:=h
  refine ⟨_,(pss_cons (ps_expr (pe_call G_must_be_order hr rfl T.m_must_be_order T.F_must_be_order.2 T.b_must_be_order .nil pass0 (pa_cons (pv 1) pa_nil)))
      (pss_cons (ps_set (i:=2) sc_Book_init.nd rfl (Or.inl rfl) (pe_callB call_len_seq rfl T.n_len bt_len (pa_cons (pv 1) pa_nil)))
      (pss_cons (ps_fld (pv 0) (pe_callTy call_list_of rfl T.n_list bt_list (pa_cons (pv 1) pa_nil)) rfl)
      (pss_cons (ps_fld (pv 0) (pe_lst (pa_cons (pe_tup (pa_cons (pv 2) (pa_cons pe_int (pa_cons pe_int pa_nil)))) (pa_cons (pe_tup (pa_cons (pv 2) (pa_cons pe_int (pa_cons pe_int pa_nil)))) pa_nil))) rfl)
      (pss_cons (ps_fld (pv 0) (pe_lst (pa_cons pe_int (pa_cons (pe_call G_all_rows hr rfl T.m_all_rows T.F_all_rows.2 T.b_all_rows .nil pass0 (pa_cons (pv 2) pa_nil)) pa_nil))) rfl)
      (pss_one (ps_fld (pv 0) (pe_disp (pps_cons pe_int pe_int (pps_cons (pe_call G_all_rows hr rfl T.m_all_rows T.F_all_rows.2 T.b_all_rows .nil pass0 (pa_cons (pv 2) pa_nil)) pe_int pps_nil)) rfl rfl (List.cons_ne_nil _ _) (Nat.le_of_ble_eq_true rfl)) rfl))))))),?_⟩
  have n8:=ho.le
  have hml:(os.map V.str).length = os.length:=List.length_map _
  refine ⟨_,rfl,l,os,rfl,hl,ho,fun H1 g1=>?_⟩
  have hl1:=g1.seq hl
  refine ⟨_,rfl,l,_,rfl,.inl hl1,?_⟩
  rw [hml]
  have b1:=g1 _ _ hb
  refine ⟨_,rfl,l,_,rfl,.inl hl1,fun ml hm1=>?_⟩
  have bm:b≠ml:=ne_of_none b1 hm1
  have b2:upd H1 ml (.lst (os.map V.str)) b = some (.ins a.a_Book dx []):=by rw [upd_ne bm]; exact b1
  refine ⟨_,rfl,b,a.a_Book,dx,_,rfl,b2,T.c_Book,T.na_Book_marks,by decide,?_⟩
  have s2:∀ x o,H x = some o→x≠b→upd (upd H1 ml (.lst (os.map V.str))) b (.ins a.a_Book dx (putF "marks" (.ref ml) [])) x = some o:=fun x o e nb=>by
    rw [upd_ne nb,upd_ne (ne_of_none (g1 _ _ e) hm1)]; exact g1 _ _ e
  have hm2:upd (upd H1 ml (.lst (os.map V.str))) b (.ins a.a_Book dx (putF "marks" (.ref ml) [])) ml = some (.lst (os.map V.str)):=by rw [upd_ne (Ne.symm bm)]; exact upd_same
  have f2:∀ x,upd (upd H1 ml (.lst (os.map V.str))) b (.ins a.a_Book dx (putF "marks" (.ref ml) [])) x = none→H x = none:=fun x e=>by
    have nb:x≠b:=fun z=>by rw [z,upd_same] at e; cases e
    cases hx:H x with
    | none=>rfl
    | some o=>rw [s2 x o hx nb] at e; cases e
  have fm:H ml = none:=g1.free hm1
  have b2':upd (upd H1 ml (.lst (os.map V.str))) b (.ins a.a_Book dx (putF "marks" (.ref ml) [])) b = some (.ins a.a_Book dx (putF "marks" (.ref ml) [])):=upd_same
  generalize upd (upd H1 ml (.lst (os.map V.str))) b (.ins a.a_Book dx (putF "marks" (.ref ml) [])) = H2 at s2 hm2 f2 b2'
  refine ⟨_,rfl,by show 3≤sizeLine; decide,fun p0 hp0=>?_⟩
  refine ⟨_,rfl,by show 3≤sizeLine; decide,fun p1 hp1=>?_⟩
  refine ⟨by show 2≤sizeLine; decide,fun rl hrl=>?_⟩
  have g2:=((Same.new hp0 (.tup [.int (os.length:Nat),.int 0,.int 0])).trans (Same.new hp1 (.tup [.int (os.length:Nat),.int 1,.int 1]))).trans (Same.new hrl (.lst [.ref p0,.ref p1]))
  have hp0':=((Same.new hp1 (.tup [.int (os.length:Nat),.int 1,.int 1])).trans (Same.new hrl (.lst [.ref p0,.ref p1]))) p0 (.tup [.int (os.length:Nat),.int 0,.int 0]) upd_same
  have hp1':=(Same.new hrl (.lst [.ref p0,.ref p1])) p1 (.tup [.int (os.length:Nat),.int 1,.int 1]) upd_same
  have hr3:upd (upd (upd H2 p0 (.tup [.int (os.length:Nat),.int 0,.int 0])) p1 (.tup [.int (os.length:Nat),.int 1,.int 1])) rl (.lst [.ref p0,.ref p1]) rl = some (.lst [.ref p0,.ref p1]):=upd_same
  have frl:H2 rl = none:=((Same.new hp0 _).trans (Same.new hp1 _)).free hrl
  have brl:b≠rl:=ne_of_none b2' frl
  have mr:ml≠rl:=ne_of_none hm2 frl
  have b0:b≠p0:=ne_of_none b2' hp0
  have b1':b≠p1:=ne_of_none b2' ((Same.new hp0 _).free hp1)
  generalize upd (upd (upd H2 p0 (.tup [.int (os.length:Nat),.int 0,.int 0])) p1 (.tup [.int (os.length:Nat),.int 1,.int 1])) rl (.lst [.ref p0,.ref p1]) = H3 at g2 hp0' hp1' hr3
  refine ⟨_,rfl,b,a.a_Book,dx,_,rfl,g2 _ _ b2',T.c_Book,T.na_Book_rooms,by show 1 < 1000; decide,?_⟩
  generalize hfs:putF "rooms" (V.ref rl) (putF "marks" (V.ref ml) []) = fs3
  have u3:∀ x,x≠b→upd H3 b (.ins a.a_Book dx fs3) x = H3 x:=fun x nb=>upd_ne nb
  have b3:upd H3 b (.ins a.a_Book dx fs3) b = some (.ins a.a_Book dx fs3):=upd_same
  generalize upd H3 b (.ins a.a_Book dx fs3) = H4 at u3 b3
  refine ⟨_,rfl,os.length,rfl,n8,by show 2≤sizeLine; decide,fun tl htl=>?_⟩
  have btl:b≠tl:=ne_of_none b3 htl
  have g4:=Same.new htl (.lst [.int 0,.int ((2 ^ 2 ^ os.length - 1:Nat):Int)])
  have ht5:upd H4 tl (.lst [.int 0,.int ((2 ^ 2 ^ os.length - 1:Nat):Int)]) tl = some (.lst [.int 0,.int ((2 ^ 2 ^ os.length - 1:Nat):Int)]):=upd_same
  generalize upd H4 tl (.lst [.int 0,.int ((2 ^ 2 ^ os.length - 1:Nat):Int)]) = H5 at g4 ht5
  refine ⟨_,rfl,b,a.a_Book,dx,_,rfl,g4 _ _ b3,T.c_Book,T.na_Book_tables,by rw [← hfs]; show 2 < 1000; decide,?_⟩
  generalize hfs4:putF "tables" (V.ref tl) fs3 = fs4
  have u5:∀ x,x≠b→upd H5 b (.ins a.a_Book dx fs4) x = H5 x:=fun x nb=>upd_ne nb
  have b5:upd H5 b (.ins a.a_Book dx fs4) b = some (.ins a.a_Book dx fs4):=upd_same
  generalize upd H5 b (.ins a.a_Book dx fs4) = H6 at u5 b5
  refine fun nd hnd=>?_
  have bnd:b≠nd:=ne_of_none b5 hnd
  have g6:=Same.new hnd (.dK [])
  refine ⟨_,rfl,os.length,rfl,n8,upd_same,[(Sum.inl 0,.int 0),(Sum.inl ((2 ^ 2 ^ os.length - 1:Nat):Int),.int 1)],rfl,(by show 2≤15; decide),?_⟩
  rw [upd_upd]
  have g7:=Same.new hnd (.dK (mergeK [] [(Sum.inl 0,.int 0),(Sum.inl ((2 ^ 2 ^ os.length - 1:Nat):Int),.int 1)]))
  have hn7:upd H6 nd (.dK (mergeK [] [(Sum.inl 0,.int 0),(Sum.inl ((2 ^ 2 ^ os.length - 1:Nat):Int),.int 1)])) nd = some (.dK (mergeK [] [(Sum.inl 0,.int 0),(Sum.inl ((2 ^ 2 ^ os.length - 1:Nat):Int),.int 1)])):=upd_same
  generalize upd H6 nd (.dK (mergeK [] [(Sum.inl 0,.int 0),(Sum.inl ((2 ^ 2 ^ os.length - 1:Nat):Int),.int 1)])) = H7 at g7 hn7
  refine ⟨_,rfl,b,a.a_Book,dx,_,rfl,g7 _ _ b5,T.c_Book,T.na_Book_numbers,by rw [← hfs4,← hfs]; show 3 < 1000; decide,?_⟩
  have big:2 ^ 2 ^ os.length - 1≠0:=by
    have:2 ^ 1≤2 ^ 2 ^ os.length:=Nat.pow_le_pow_right (by decide) Nat.one_le_two_pow
    omega
  have to7:∀ x o,H3 x = some o→x≠b→upd H7 b (.ins a.a_Book dx (putF "numbers" (.ref nd) fs4)) x = some o:=fun x o e nb=>by
    rw [upd_ne nb]
    refine g7 _ _ ?_
    rw [u5 x nb]
    refine g4 _ _ ?_
    rw [u3 x nb]
    exact e
  have tl6:H6 tl = some (.lst [.int 0,.int ((2 ^ 2 ^ os.length - 1:Nat):Int)]):=by rw [u5 tl (Ne.symm btl)]; exact ht5
  have efs:putF "numbers" (.ref nd) fs4 = bookFs ml rl tl nd:=by rw [← hfs4,← hfs]; rfl
  have up:∀ x o,H3 x = some o→x≠b→H4 x = some o:=fun x o e nb=>by rw [u3 x nb]; exact e
  have mt:ml≠tl:=ne_of_none (up _ _ (g2 _ _ hm2) (Ne.symm bm)) htl
  have rt:rl≠tl:=ne_of_none (up _ _ hr3 (Ne.symm brl)) htl
  have fr4:∀ x,H4 x = none→H x = none:=fun x e=>f2 x (by
    cases hx:H2 x with
    | none=>rfl
    | some o =>
      by_cases nb:x = b
      · rw [nb,b3] at e; cases e
      · rw [up x o (g2 _ _ hx) nb] at e; cases e)
  have fr6:∀ x,H6 x = none→H x = none:=fun x e=>by
    have nb:x≠b:=fun z=>by rw [z,b5] at e; cases e
    rw [u5 x nb] at e
    exact fr4 x (g4.free e)
  have two:∀ {j:Nat},j < 2→j = 0∨j = 1:=fun h=>by omega
  have bk0:Bdd.Bk os.length [none,none]:=⟨rfl,rfl,fun k h1 h2=>by simp at h2; omega,fun i j x e _=>by
    have:=(List.getElem?_eq_some_iff.mp e).1
    rcases two (by simpa using this) with z | z <;> subst z <;> cases e⟩
  refine q _ (fun x=>x = b∨x = ml∨x = rl∨x = tl∨x = nd) (fun x o e nb=>to7 x o (g2 _ _ (s2 x o e nb)) nb) ⟨dx,ml,rl,tl,nd,[.ref p0,.ref p1],[0,2 ^ 2 ^ os.length - 1],mergeK [] [(Sum.inl 0,.int 0),(Sum.inl ((2 ^ 2 ^ os.length - 1:Nat):Int),.int 1)],?_⟩ (fun x hx=>?_)
  · refine { hb:=by rw [upd_same,efs],hm:=to7 _ _ (g2 _ _ hm2) (Ne.symm bm),hr:=to7 _ _ hr3 (Ne.symm brl),ht:=by rw [upd_ne (Ne.symm btl)]; exact g7 _ _ tl6,hd:=by rw [upd_ne (Ne.symm bnd)]; exact hn7,mr:=mr,mt:=mt,rt:=rt,ord:=ho,bk:=bk0,len:=rfl,rm:=?_,tabs:=?_,nums:=?_,ft:=fun x=>Iff.rfl }
    · intro j x e
      have:=(List.getElem?_eq_some_iff.mp e).1
      rcases two (by simpa using this) with z | z <;> subst z <;> cases e
      · exact ⟨p0,rfl,to7 _ _ hp0' (Ne.symm b0)⟩
      · exact ⟨p1,rfl,to7 _ _ hp1' (Ne.symm b1')⟩
    · refine ⟨rfl,fun j t e=>?_⟩
      have:=(List.getElem?_eq_some_iff.mp e).1
      rcases two (by simpa using this) with z | z <;> subst z <;> cases e
      · exact tab_congr (tab_zero _) fun b _=>rfl
      · exact tab_congr (tab_all _) fun b _=>(Bdd.yes_yes bk0 _).symm
    · have z0:Nums [] []:=⟨fun j t e=>by simp at e,fun t _=>rfl,Nat.le_refl _⟩
      have z1:=z0.snoc (t:=0) (by simp)
      exact z1.snoc (t:=2 ^ 2 ^ os.length - 1) (fun hm=>by simp at hm; omega)
  · rcases hx with z | z | z | z | z <;> subst z
    · exact .inl rfl
    · exact .inr (.inr fm)
    · exact .inr (.inr (f2 _ frl))
    · exact .inr (.inr (fr4 _ htl))
    · exact .inr (.inr (fr6 _ hnd))
end
end K77
namespace K77
open PySem L2 Sen
section
variable {P:Program} {w:World} {K:PySem.W.Frag} {mg:Str→Option Value} {base:Heap} {a:Ad} {k:Nat}
theorem ok_cell_f (T:Txt P w K mg a):FnOk P w K mg base CX0 (k + 1) a.a_x_law_cell_at a.d_x_law_cell_at ["script", "k"] (spCellF K):=by
  refine T.F_x_law_cell_at.ok sc_x_law_cell_at (fun vs H Q E h=>?_) (fun cdv A outer s H vs Q E hr h=>?_)
  · obtain ⟨l,ns,i,rfl,_⟩:=h
    rfl
  obtain ⟨l,ns,i,rfl,hS,q⟩:=h
  refine ⟨_,(pss_cons (ps_if (pt_cmpR op_lt (pv 1) (pe_callB call_len_seq rfl T.n_len bt_len (pa_cons (pv 0) pa_nil)) (nomark _)) (pss_one (ps_ret (pe_ix ix_list (pv 0) (pv 1) (fun _ _=>rfl)))) pss_nil)
      (pss_one (ps_ret pe_int))),?_⟩
  refine ⟨_,rfl,_,rfl,l,_,rfl,.inl hS,_,_,rfl,rfl,_,rfl,?_⟩
  refine ite2 (fun c=>?_) (fun c=>?_)
  · have c':(i:Int) < (((ns.map V.int).length:Nat):Int):=of_decide_eq_true c
    rw [List.length_map] at c'
    have hi:i < ns.length:=by omega
    have ec:cellF ns i = ns[i]:=by unfold cellF; rw [List.getElem?_eq_getElem hi]; rfl
    rw [ec] at q
    exact ⟨_,rfl,_,rfl,l,_,i,_,rfl,rfl,hS,atI_nat (by rw [List.getElem?_map,List.getElem?_eq_getElem hi]; rfl),q⟩
  · have hi:ns.length≤i:=by
      refine Nat.le_of_not_lt fun hlt=>c (decide_eq_true ?_)
      rw [List.length_map]; omega
    have ec:cellF ns i = 0:=by unfold cellF; rw [List.getElem?_eq_none hi]; rfl
    rw [ec] at q
    exact q
theorem ok_Book_must_be_room (T:Txt P w K mg a):FnOk P w K mg base CX0 (k + 1) a.a_Book_must_be_room a.d_Book_must_be_room ["self", "number"] (spMustRoom a.a_Book):=by
  refine T.F_Book_must_be_room.ok sc_Book_must_be_room (fun vs H Q E h=>?_) (fun cdv A outer s H vs Q E hr h=>?_)
  · obtain ⟨b,os,rs,F,j,rfl,_⟩:=h
    rfl
  obtain ⟨b,os,rs,F,j,rfl,⟨dx,ml,rl,tl,nd,rv,ts,kvs,h⟩,hk,q⟩:=h
  refine ⟨_,(pss_one (ps_if (PW.pt (pw_or (pt_cmpR op_lt (pv 1) pe_int (nomark _)) (pw_or1 (pt_cmpR op_ge (pv 1) (pe_callB call_len_seq rfl T.n_len bt_len (pa_cons (pe_fld (pv 0) rfl) pa_nil)) (nomark _))))) (pss_one ps_never) pss_nil)),?_⟩
  have hl:=h.len
  refine ⟨_,rfl,_,_,rfl,rfl,_,rfl,ite2 (fun c=>absurd (of_decide_eq_true c) (by omega)) (fun _=>?_)⟩
  refine ⟨_,rfl,_,rfl,b,a.a_Book,dx,_,_,rfl,h.hb,T.c_Book,T.na_Book_rooms,rfl,rl,_,rfl,.inl (SqL.of h.hr),_,_,rfl,rfl,_,rfl,ite2 (fun c=>absurd (of_decide_eq_true c) (by omega)) (fun _=>?_)⟩
  exact q
theorem ok_Book_table_at (T:Txt P w K mg a):FnOk P w K mg base CX0 (k + 1) a.a_Book_table_at a.d_Book_table_at ["self", "number"] (spTableAt a.a_Book):=by
  refine T.F_Book_table_at.ok sc_Book_table_at (fun vs H Q E h=>?_) (fun cdv A outer s H vs Q E hr h=>?_)
  · obtain ⟨b,os,rs,F,j,rfl,_⟩:=h
    rfl
  obtain ⟨b,os,rs,F,j,rfl,⟨dx,ml,rl,tl,nd,rv,ts,kvs,h⟩,hk,q⟩:=h
  refine ⟨_,(pss_one (ps_ret (pe_ix ix_list (pe_fld (pv 0) rfl) (pv 1) (fun _ _=>rfl)))),?_⟩
  have ht:j < ts.length:=by rw [h.tabs.len]; exact hk
  have ex:=List.getElem?_eq_getElem ht
  refine ⟨_,rfl,b,a.a_Book,dx,_,_,rfl,h.hb,T.c_Book,T.na_Book_tables,rfl,_,rfl,tl,_,_,.int (ts[j]:Nat),rfl,rfl,SqL.of h.ht,atI_nat (by rw [List.getElem?_map,ex]; rfl),?_⟩
  exact q _ (h.tabs.tab j _ ex)
theorem ok_Book_order (T:Txt P w K mg a):FnOk P w K mg base CX0 (k + 1) a.a_Book_order a.d_Book_order ["self"] (spBookOrder (BookAt a.a_Book)):=by
  refine T.F_Book_order.ok sc_Book_order (fun vs H Q E h=>?_) (fun cdv A outer s H vs Q E hr h=>?_)
  · obtain ⟨b,os,rs,F,rfl,_⟩:=h
    rfl
  obtain ⟨b,os,rs,F,rfl,⟨dx,ml,rl,tl,nd,rv,ts,kvs,h⟩,q⟩:=h
  refine ⟨_,(pss_one (ps_ret (pe_callTy call_list_of rfl T.n_list bt_list (pa_cons (pe_fld (pv 0) rfl) pa_nil)))),?_⟩
  exact ⟨_,rfl,b,a.a_Book,dx,_,_,rfl,h.hb,T.c_Book,T.na_Book_marks,rfl,ml,_,rfl,.inl (SqL.of h.hm),fun l hl=>q l _ (Same.new hl _) hl upd_same⟩
theorem ok_without (T:Txt P w K mg a):FnOk P w K mg base CX0 (k + 1) a.a_without a.d_without ["table", "other"] spWithout:=by
  refine T.F_without.ok sc_without (fun vs H Q E h=>?_) (fun cdv A outer s H vs Q E hr h=>?_)
  · obtain ⟨N,M,n,f,g,rfl,_⟩:=h
    rfl
  obtain ⟨N,M,n,f,g,rfl,tb,tg,q⟩:=h
  refine ⟨_,(pss_one (ps_ret (pe_op op_xorN (pv 0) (pe_op op_andN (pv 0) (pv 1))))),?_⟩
  refine ⟨_,rfl,_,rfl,_,rfl,N,M,rfl,rfl,N,N &&& M,rfl,rfl,q _ (tab_congr (Sen.tab_xor tb (Sen.tab_and tb tg)) fun b _=>?_)⟩
  show (f b != (f b && g b)) = (f b && !g b)
  cases f b <;> cases g b <;> rfl
theorem ok_chosen (T:Txt P w K mg a) (G_without:FnOk P w K mg base CX0 k a.a_without a.d_without ["table", "other"] spWithout):FnOk P w K mg base CX0 (k + 1) a.a_chosen a.d_chosen ["where", "low", "high"] spChosen:=by
  refine T.F_chosen.ok sc_chosen (fun vs H Q E h=>?_) (fun cdv A outer s H vs Q E hr h=>?_)
  · obtain ⟨W,L,M,n,f,g,h,rfl,_⟩:=h
    rfl
  obtain ⟨W,L,M,n,f,g,h,rfl,tf,tg,th,q⟩:=h
  refine ⟨_,(pss_one (ps_ret (pe_op op_orN (pe_op op_andN (pv 2) (pv 0)) (pe_call G_without hr rfl T.m_without T.F_without.2 T.b_without .nil pass0 (pa_cons (pv 1) (pa_cons (pv 0) pa_nil)))))),?_⟩
  refine ⟨_,rfl,_,rfl,M,W,rfl,rfl,_,rfl,_,rfl,L,W,n,g,f,rfl,tg,tf,fun R tr=>?_⟩
  refine ⟨M &&& W,R,rfl,rfl,q _ (tab_congr (Sen.tab_or (Sen.tab_and th tf) tr) fun b _=>?_)⟩
  show ((h b && f b) || (g b && !f b)) = if f b then h b else g b
  cases f b <;> simp
theorem ok_must_be_word (T:Txt P w K mg a):FnOk P w K mg base CX0 (k + 1) a.a_must_be_word a.d_must_be_word ["word"] spMustWord:=by
  refine T.F_must_be_word.ok sc_must_be_word (fun vs H Q E h=>?_) (fun cdv A outer s H vs Q E hr h=>?_)
  · obtain ⟨c0,c1,c2,c3,rfl,_⟩:=h
    rfl
  obtain ⟨c0,c1,c2,c3,rfl,q⟩:=h
  refine ⟨_,(pss_one (ps_if (PW.pt (pw_or (pt_cmpR op_ne (pe_callB call_len_str rfl T.n_len bt_len (pa_cons (pv 0) pa_nil)) pe_int (nomark _)) (pw_or1 (pt_not (pt_truth (pe_callB (call_all rfl) rfl T.n_all bt_all (pa_cons (pe_lc0 (osc:=defScope S_must_be_word) (js:=[]) rfl (by show LcOk (defScope S_must_be_word) _ "figure" []; exact ⟨rfl,by decide +kernel,by decide +kernel,rfl,by decide +kernel,by decide +kernel,by decide +kernel⟩) rfl (pi_str (pv 0)) (by show ∀ j∈([]:List Nat),j < 1; decide) (fun cl C s₂ H₂ fp=>(pe_cmpR (op_inK (K:=K) rfl) (pv 0) (pe_tup (pa_cons pe_str (pa_cons pe_str pa_nil))) (by with_unfolding_all rfl)))) pa_nil)) (fun _=>rfl)))))) (pss_one ps_never) pss_nil)),?_⟩
  have wl:=wd_len c0 c1 c2 c3
  refine ⟨_,rfl,_,rfl,by rw [wl]; decide,rfl,_,rfl,ite2 (fun c=>?_) (fun _=>?_)⟩
  · rw [wl] at c
    exact absurd c (by decide)
  · refine ⟨_,rfl,_,rfl,wd_ascii c0 c1 c2 c3,lc_str (fun _=>.bl true) (by rw [wd_cps]; show 4≤sizeLine; decide) ?_ ?_ ?_⟩
    · intro i c H' hc g
      obtain ⟨b,rfl⟩:=wd_mem hc
      refine ⟨_,rfl,by show 2≤sizeLine; decide,fun p hp=>⟨p,_,rfl,.inr (SqT.of upd_same),rfl,rfl,?_,g.trans (Same.new hp _)⟩⟩
      show V.bl (if false = true then _ else inV (.str ⟨#[chc b]⟩) [.str "0", .str "1"]) = V.bl true
      rw [if_neg Bool.false_ne_true,chc_in]
    · rintro σ' H' Q1 Q2 hQ ⟨v,e,z,h2⟩
      exact ⟨v,e,z,fun p hp=>let ⟨a1,a2,a3,a4,a5,a6,a7⟩:=h2 p hp; ⟨a1,a2,a3,a4,a5,a6,hQ _ _ a7⟩⟩
    · intro H' p g hp
      refine ⟨p,(List.range (wd c0 c1 c2 c3).cps.size).map (fun _=>true),rfl,SqL.of (by rw [upd_same,List.map_map]; rfl),_,rfl,?_⟩
      have e:((List.range (wd c0 c1 c2 c3).cps.size).map (fun _=>true)).all id = true:=by simp
      rw [e]
      exact iteF (q _ (g.trans (Same.new hp _)))
theorem ok_joined_by (T:Txt P w K mg a):FnOk P w K mg base CX0 (k + 1) a.a_joined_by a.d_joined_by ["word", "one", "other", "every"] spJoinedBy:=by
  refine T.F_joined_by.ok sc_joined_by (fun vs H Q EX h=>?_) (fun cdv A outer s H vs Q EX hr h=>?_)
  · obtain ⟨c0,c1,c2,c3,N,M,E,n,f,g,rfl,_⟩:=h
    rfl
  obtain ⟨c0,c1,c2,c3,N,M,E,n,f,g,rfl,tN,tM,tE,q⟩:=h
  have wl:(wd c0 c1 c2 c3).length≤sizeLine:=by rw [wd_len]; decide
  refine cut0 ?_
  refine cutK (fun σ H1=>H1 = H∧∃ R:Nat,σ = [some (.str (wd c0 c1 c2 c3)),some (.int N),some (.int M),some (.int E),some (.int R)]∧IsTab n R (fun b=>jn c0 false false false (f b) (g b))) (fun t z=>(pss_cons (ps_set (i:=4) sc_joined_by.nd rfl (Or.inl rfl) pe_int)
      (pss_cons (ps_if (pt_cmpR op_eq (pe_ix ix_str (pv 0) pe_int (fun _ _=>rfl)) pe_str (nomark _)) (pss_one (ps_set (i:=4) sc_joined_by.nd rfl (Or.inl rfl) (pe_op op_orN (pv 4) (pe_op op_xorN (pv 3) (pe_op op_orN (pv 1) (pv 2)))))) pss_nil)
      z))) ?_ ?_
  · intro u hu σ H1 hp
    obtain ⟨rfl,rfl⟩:=hp
    have t0:IsTab n 0 (fun b=>jn false false false false (f b) (g b)):=tab_congr (tab_zero n) fun b _=>by cases f b <;> cases g b <;> rfl
    refine ⟨_,rfl,_,_,_,rfl,rfl,wl,wd_at0 c0 c1 c2 c3,rfl,_,rfl,?_⟩
    rw [chc_eq]
    refine ite2 (fun c=>?_) (fun c=>?_)
    · refine ⟨_,rfl,_,rfl,_,rfl,_,rfl,N,M,rfl,rfl,E,N ||| M,rfl,rfl,0,_,rfl,rfl,hu _ _ ⟨rfl,_,rfl,tab_congr (tab_or t0 (tab_xor tE (tab_or tN tM))) fun b _=>?_⟩⟩
      show (jn false false false false (f b) (g b) || (true != (f b || g b))) = jn c0 false false false (f b) (g b)
      rw [c]
      cases f b <;> cases g b <;> simp [jn]
    · have c':c0 = false:=by cases h:c0 with | false=>rfl | true=>exact absurd h c
      refine hu _ _ ⟨rfl,_,rfl,tab_congr t0 fun b _=>?_⟩
      show jn false false false false (f b) (g b) = jn c0 false false false (f b) (g b)
      rw [c']
  refine cutK (fun σ H1=>H1 = H∧∃ R:Nat,σ = [some (.str (wd c0 c1 c2 c3)),some (.int N),some (.int M),some (.int E),some (.int R)]∧IsTab n R (fun b=>jn c0 c1 false false (f b) (g b))) (fun t z=>(pss_cons (ps_if (pt_cmpR op_eq (pe_ix ix_str (pv 0) pe_int (fun _ _=>rfl)) pe_str (nomark _)) (pss_one (ps_set (i:=4) sc_joined_by.nd rfl (Or.inl rfl) (pe_op op_orN (pv 4) (pe_op op_andN (pv 2) (pe_op op_xorN (pv 3) (pv 1)))))) pss_nil)
      z)) ?_ ?_
  · intro u hu σ H1 hp
    obtain ⟨rfl,R,rfl,t0⟩:=hp
    refine ⟨_,rfl,_,_,_,rfl,rfl,wl,wd_at1 c0 c1 c2 c3,rfl,_,rfl,?_⟩
    rw [chc_eq]
    refine ite2 (fun c=>?_) (fun c=>?_)
    · refine ⟨_,rfl,_,rfl,_,rfl,_,rfl,E,N,rfl,rfl,M,E ^^^ N,rfl,rfl,R,_,rfl,rfl,hu _ _ ⟨rfl,_,rfl,tab_congr (tab_or t0 (tab_and tM (tab_xor tE tN))) fun b _=>?_⟩⟩
      show (jn c0 false false false (f b) (g b) || (g b && (true != f b))) = jn c0 c1 false false (f b) (g b)
      rw [c]
      cases f b <;> cases g b <;> simp [jn]
    · have c':c1 = false:=by cases h:c1 with | false=>rfl | true=>exact absurd h c
      refine hu _ _ ⟨rfl,_,rfl,tab_congr t0 fun b _=>?_⟩
      show jn c0 false false false (f b) (g b) = jn c0 c1 false false (f b) (g b)
      rw [c']
  refine cutK (fun σ H1=>H1 = H∧∃ R:Nat,σ = [some (.str (wd c0 c1 c2 c3)),some (.int N),some (.int M),some (.int E),some (.int R)]∧IsTab n R (fun b=>jn c0 c1 c2 false (f b) (g b))) (fun t z=>(pss_cons (ps_if (pt_cmpR op_eq (pe_ix ix_str (pv 0) pe_int (fun _ _=>rfl)) pe_str (nomark _)) (pss_one (ps_set (i:=4) sc_joined_by.nd rfl (Or.inl rfl) (pe_op op_orN (pv 4) (pe_op op_andN (pv 1) (pe_op op_xorN (pv 3) (pv 2)))))) pss_nil)
      z)) ?_ ?_
  · intro u hu σ H1 hp
    obtain ⟨rfl,R,rfl,t0⟩:=hp
    refine ⟨_,rfl,_,_,_,rfl,rfl,wl,wd_at2 c0 c1 c2 c3,rfl,_,rfl,?_⟩
    rw [chc_eq]
    refine ite2 (fun c=>?_) (fun c=>?_)
    · refine ⟨_,rfl,_,rfl,_,rfl,_,rfl,E,M,rfl,rfl,N,E ^^^ M,rfl,rfl,R,_,rfl,rfl,hu _ _ ⟨rfl,_,rfl,tab_congr (tab_or t0 (tab_and tN (tab_xor tE tM))) fun b _=>?_⟩⟩
      show (jn c0 c1 false false (f b) (g b) || (f b && (true != g b))) = jn c0 c1 c2 false (f b) (g b)
      rw [c]
      cases f b <;> cases g b <;> simp [jn]
    · have c':c2 = false:=by cases h:c2 with | false=>rfl | true=>exact absurd h c
      refine hu _ _ ⟨rfl,_,rfl,tab_congr t0 fun b _=>?_⟩
      show jn c0 c1 false false (f b) (g b) = jn c0 c1 c2 false (f b) (g b)
      rw [c']
  refine cutK (fun σ H1=>H1 = H∧∃ R:Nat,σ = [some (.str (wd c0 c1 c2 c3)),some (.int N),some (.int M),some (.int E),some (.int R)]∧IsTab n R (fun b=>jn c0 c1 c2 c3 (f b) (g b))) (fun t z=>(pss_cons (ps_if (pt_cmpR op_eq (pe_ix ix_str (pv 0) pe_int (fun _ _=>rfl)) pe_str (nomark _)) (pss_one (ps_set (i:=4) sc_joined_by.nd rfl (Or.inl rfl) (pe_op op_orN (pv 4) (pe_op op_andN (pv 1) (pv 2))))) pss_nil)
      z)) ?_ ?_
  · intro u hu σ H1 hp
    obtain ⟨rfl,R,rfl,t0⟩:=hp
    refine ⟨_,rfl,_,_,_,rfl,rfl,wl,wd_at3 c0 c1 c2 c3,rfl,_,rfl,?_⟩
    rw [chc_eq]
    refine ite2 (fun c=>?_) (fun c=>?_)
    · refine ⟨_,rfl,_,rfl,_,rfl,N,M,rfl,rfl,R,_,rfl,rfl,hu _ _ ⟨rfl,_,rfl,tab_congr (tab_or t0 (tab_and tN tM)) fun b _=>?_⟩⟩
      show (jn c0 c1 c2 false (f b) (g b) || (f b && g b)) = jn c0 c1 c2 c3 (f b) (g b)
      rw [c]
      cases f b <;> cases g b <;> simp [jn]
    · have c':c3 = false:=by cases h:c3 with | false=>rfl | true=>exact absurd h c
      refine hu _ _ ⟨rfl,_,rfl,tab_congr t0 fun b _=>?_⟩
      show jn c0 c1 c2 false (f b) (g b) = jn c0 c1 c2 c3 (f b) (g b)
      rw [c']
  refine ⟨_,(pss_one (ps_ret (pv 4))),fun σ H1 hp=>?_⟩
  obtain ⟨rfl,R,rfl,t0⟩:=hp
  exact ⟨_,rfl,q R t0⟩
theorem ok_joinedH (T:Txt P w K mg a)
    (G_Book_must_be_room:FnOk P w K mg base CX0 k a.a_Book_must_be_room a.d_Book_must_be_room ["self", "number"] (spMustRoom a.a_Book))
    (G_Book_room_with:FnOk P w K mg base CX0 k a.a_Book_room_with a.d_Book_room_with ["self", "table"] (spRoomWithH a.a_Book 9))
    (G_Book_table_at:FnOk P w K mg base CX0 k a.a_Book_table_at a.d_Book_table_at ["self", "number"] (spTableAt a.a_Book))
    (G_must_be_word:FnOk P w K mg base CX0 k a.a_must_be_word a.d_must_be_word ["word"] spMustWord)
    (G_joined_by:FnOk P w K mg base CX0 k a.a_joined_by a.d_joined_by ["word", "one", "other", "every"] spJoinedBy):FnOk P w K mg base CX0 (k + 1) a.a_joined a.d_joined ["book", "word", "one", "other"] (spJoinedH a.a_Book):=by
  refine T.F_joined.ok sc_joined (fun vs H Q E h=>?_) (fun cdv A outer s H vs Q E hr h=>?_)
  · obtain ⟨b,os,rs,F,c0,c1,c2,c3,i,j,f,g,rfl,_⟩:=h
    rfl
  obtain ⟨b,os,rs,F,c0,c1,c2,c3,i,j,f,g,rfl,hB,hlen,mi,mj,q⟩:=h
  refine ⟨_,(pss_cons (ps_expr (pe_meth (pv 0) T.c_Book T.e_Book_must_be_room G_Book_must_be_room hr T.b_Book_must_be_room .nil pass0 (pa_cons (pv 2) pa_nil)))
      (pss_cons (ps_expr (pe_meth (pv 0) T.c_Book T.e_Book_must_be_room G_Book_must_be_room hr T.b_Book_must_be_room .nil pass0 (pa_cons (pv 3) pa_nil)))
      (pss_cons (ps_expr (pe_call G_must_be_word hr rfl T.m_must_be_word T.F_must_be_word.2 T.b_must_be_word .nil pass0 (pa_cons (pv 1) pa_nil)))
      (pss_one (ps_ret (pe_meth (pv 0) T.c_Book T.e_Book_room_with G_Book_room_with hr T.b_Book_room_with .nil pass0 (pa_cons (pe_call G_joined_by hr rfl T.m_joined_by T.F_joined_by.2 T.b_joined_by .nil pass0 (pa_cons (pv 1) (pa_cons (pe_meth (pv 0) T.c_Book T.e_Book_table_at G_Book_table_at hr T.b_Book_table_at .nil pass0 (pa_cons (pv 2) pa_nil)) (pa_cons (pe_meth (pv 0) T.c_Book T.e_Book_table_at G_Book_table_at hr T.b_Book_table_at .nil pass0 (pa_cons (pv 3) pa_nil)) (pa_cons (pe_meth (pv 0) T.c_Book T.e_Book_table_at G_Book_table_at hr T.b_Book_table_at .nil pass0 (pa_cons pe_int pa_nil)) pa_nil))))) pa_nil))))))),?_⟩
  have L:=bookLike a.a_Book
  have BK:=L.bk hB
  have ho:=L.ord hB
  have hB0:=hB
  obtain ⟨dx,ml,rl,tl,nd,rv,ts,kvs,h⟩:=hB
  have l2:1 < rs.length:=Bdd.len2 BK
  refine ⟨_,rfl,b,dx,_,rfl,h.hb,rfl,_,rfl,b,os,rs,F,i,rfl,hB0,mi.1,?_⟩
  refine ⟨_,rfl,b,dx,_,rfl,h.hb,rfl,_,rfl,b,os,rs,F,j,rfl,hB0,mj.1,?_⟩
  refine ⟨_,rfl,c0,c1,c2,c3,rfl,fun H1 g1=>?_⟩
  have hB1:=L.same hB0 g1
  have b1:=g1 _ _ h.hb
  refine ⟨_,rfl,b,dx,_,rfl,b1,rfl,_,rfl,_,rfl,b,dx,_,rfl,b1,rfl,_,rfl,b,os,rs,F,i,rfl,hB1,mi.1,fun t1 tb1=>?_⟩
  refine ⟨_,rfl,b,dx,_,rfl,b1,rfl,_,rfl,b,os,rs,F,j,rfl,hB1,mj.1,fun t2 tb2=>?_⟩
  refine ⟨_,rfl,b,dx,_,rfl,b1,rfl,b,os,rs,F,1,rfl,hB1,l2,fun t3 tb3=>?_⟩
  refine ⟨c0,c1,c2,c3,t1,t2,t3,os.length,_,_,rfl,tb1,tb2,tab_congr tb3 fun b _=>Bdd.yes_yes BK _,fun R tr=>?_⟩
  exact roomWith_growH g1 hB1 hlen tr (fun r=>by rw [yes_at BK mi,yes_at BK mj]) q
end
end K77
namespace K77
open PySem L2 Sen
section
variable {P:Program} {w:World} {K:PySem.W.Frag} {mg:Str→Option Value} {base:Heap} {a:Ad} {k:Nat}
theorem ok_for_any (T:Txt P w K mg a) (G_flipped:FnOk P w K mg base CX0 k a.a_flipped a.d_flipped ["table", "place", "marks"] spFlipped):FnOk P w K mg base CX0 (k + 1) a.a_for_any a.d_for_any ["table", "places", "marks"] (spForAny K):=by
  refine T.F_for_any.ok sc_for_any (fun vs H Q E h=>?_) (fun cdv A outer s H vs Q E hr h=>?_)
  · obtain ⟨N,n,f,l,ps,rfl,_⟩:=h
    rfl
  obtain ⟨N,n,f,l,ps,rfl,n8,tf,hl,hp,q⟩:=h
  refine ⟨_,(pss_cons (ps_for PassesOwn.never rfl (pi_list (pv 1)) (pg_name (i:=3) sc_for_any.nd rfl (Or.inl rfl)) (pss_one (ps_set (i:=0) sc_for_any.nd rfl (Or.inl rfl) (pe_op op_orN (pv 0) (pe_call G_flipped hr rfl T.m_flipped T.F_flipped.2 T.b_flipped .nil pass0 (pa_cons (pv 0) (pa_cons (pv 3) (pa_cons (pv 2) pa_nil))))))))
      (pss_one (ps_ret (pv 0)))),?_⟩
  refine ⟨_,rfl,l,rfl,⟨_,hl⟩,?_⟩
  refine for_list (xs:=natW ps) (fun i σ H'=>H' = H∧∃ (M:Nat) (f3:Option V),IsTab n M (anyW (ps.take i) f)∧σ = [some (.int M),some (.ref l),some (.int (n:Nat)),f3]) ⟨rfl,N,_,tf,rfl⟩ ?_ ?_ ?_
  · rintro i σ H' _ ⟨rfl,_⟩
    exact hl
  · rintro i v σ H' hv ⟨rfl,M,f3,tm,rfl⟩
    unfold natW at hv
    rw [List.getElem?_map] at hv
    cases hj:ps[i]? with
    | none=>rw [hj] at hv; cases hv
    | some p =>
      rw [hj] at hv
      cases hv
      refine ⟨_,rfl,_,rfl,_,rfl,_,rfl,M,p,n,_,rfl,hp p (List.mem_of_getElem? hj),n8,tm,fun R tr=>?_⟩
      refine ⟨M,R,rfl,rfl,rfl,M ||| R,some (.int (p:Nat)),?_,rfl⟩
      rw [take_next hj,anyW_snoc]
      exact Sen.tab_or tm tr
  · rintro σ H' ⟨rfl,M,f3,tm,rfl⟩
    have el:(natW ps).length = ps.length:=List.length_map _
    rw [el,List.take_length] at tm
    exact ⟨_,rfl,q M tm⟩
theorem ok_moved (T:Txt P w K mg a) (G_held_at:FnOk P w K mg base CX0 k a.a_held_at a.d_held_at ["table", "place", "value", "marks"] spHeldAt)
    (G_rows_with:FnOk P w K mg base CX0 k a.a_rows_with a.d_rows_with ["place", "marks"] spRowsWith)
    (G_chosen:FnOk P w K mg base CX0 k a.a_chosen a.d_chosen ["where", "low", "high"] spChosen):FnOk P w K mg base CX0 (k + 1) a.a_moved a.d_moved ["table", "places", "others", "marks"] (spMoved K):=by
  refine T.F_moved.ok sc_moved (fun vs H Q E h=>?_) (fun cdv A outer s H vs Q E hr h=>?_)
  · obtain ⟨N,n,f,l,m,ps,qs,rfl,_⟩:=h
    rfl
  obtain ⟨N,n,f,l,m,ps,qs,rfl,n8,tf,hl,hm,le,l8,hp,hq,q⟩:=h
  refine ⟨_,(pss_cons (ps_for PassesOwn.never rfl (pi_zip rfl T.n_zip (pa_cons (pv 1) (pa_cons (pv 2) pa_nil))) (pg_tup rfl (pgs_cons (pg_name (i:=4) sc_moved.nd rfl (Or.inl rfl)) (pgs_cons (pg_name (i:=5) sc_moved.nd rfl (Or.inl rfl)) pgs_nil))) (pss_cons (ps_set (i:=6) sc_moved.nd rfl (Or.inl rfl) (pe_call G_held_at hr rfl T.m_held_at T.F_held_at.2 T.b_held_at .nil pass0 (pa_cons (pv 0) (pa_cons (pv 4) (pa_cons pe_int (pa_cons (pv 3) pa_nil))))))
      (pss_cons (ps_set (i:=7) sc_moved.nd rfl (Or.inl rfl) (pe_call G_held_at hr rfl T.m_held_at T.F_held_at.2 T.b_held_at .nil pass0 (pa_cons (pv 0) (pa_cons (pv 4) (pa_cons pe_int (pa_cons (pv 3) pa_nil))))))
      (pss_one (ps_set (i:=0) sc_moved.nd rfl (Or.inl rfl) (pe_call G_chosen hr rfl T.m_chosen T.F_chosen.2 T.b_chosen .nil pass0 (pa_cons (pe_call G_rows_with hr rfl T.m_rows_with T.F_rows_with.2 T.b_rows_with .nil pass0 (pa_cons (pv 5) (pa_cons (pv 3) pa_nil))) (pa_cons (pv 6) (pa_cons (pv 7) pa_nil)))))))))
      (pss_one (ps_ret (pv 0)))),?_⟩
  have e1:(natW ps).length = ps.length:=List.length_map _
  have e2:(natW qs).length = qs.length:=List.length_map _
  refine ⟨_,rfl,_,rfl,l,m,_,_,rfl,hl,hm,?_⟩
  refine for_zip (xs:=natW ps) (ys:=natW qs) (by omega) (fun i σ H'=>Same H H'∧∃ (M:Nat) (f4 f5 f6 f7:Option V),IsTab n M (movW ((ps.zip qs).take i) f)∧σ = [some (.int M),some (.ref l),some (.ref m),some (.int (n:Nat)),f4,f5,f6,f7]) ⟨Same.refl _,N,_,_,_,_,tf,rfl⟩ ?_ ?_ ?_
  · rintro i σ H' _ ⟨g,_⟩
    exact ⟨g.seq hl,g.seq hm⟩
  · rintro i x y σ H' t hx hy ⟨g,M,f4,f5,f6,f7,tm,rfl⟩ ht
    unfold natW at hx hy
    rw [List.getElem?_map] at hx hy
    cases hj:ps[i]? with
    | none=>rw [hj] at hx; cases hx
    | some p =>
      rw [hj] at hx
      cases hx
      cases hk:qs[i]? with
      | none=>rw [hk] at hy; cases hy
      | some o =>
        rw [hk] at hy
        cases hy
        have hz:(ps.zip qs)[i]? = some (p,o):=List.getElem?_zip_eq_some.mpr ⟨hj,hk⟩
        have pn:=hp p (List.mem_of_getElem? hj)
        have on:=hq o (List.mem_of_getElem? hk)
        refine ⟨t,_,rfl,SqT.of upd_same,rfl,_,_,rfl,_,_,rfl,rfl,?_⟩
        refine ⟨_,rfl,_,rfl,_,rfl,M,p,n,false,_,rfl,pn,n8,tm,fun R0 t0=>?_⟩
        refine ⟨_,rfl,_,rfl,_,rfl,M,p,n,true,_,rfl,pn,n8,tm,fun R1 t1=>?_⟩
        refine ⟨_,rfl,_,rfl,o,n,rfl,on,n8,fun W tw=>?_⟩
        refine ⟨_,rfl,_,rfl,W,R0,R1,n,_,_,_,rfl,tw,t0,t1,fun R tr=>?_⟩
        refine ⟨g.trans (Same.new ht _),R,_,_,_,_,?_,rfl⟩
        rw [take_next hz,movW_snoc]
        exact tr
  · rintro σ H' ⟨g,M,f4,f5,f6,f7,tm,rfl⟩
    have el:(ps.zip qs).length = (natW ps).length:=by rw [List.length_zip,e1]; omega
    rw [← el,List.take_length] at tm
    exact ⟨_,rfl,q M H' g tm⟩
theorem ok_now_marks (T:Txt P w K mg a) (G_Book_order:FnOk P w K mg base CX0 k a.a_Book_order a.d_Book_order ["self"] (spBookOrder (BookAt a.a_Book))):FnOk P w K mg base CX0 (k + 1) a.a_now_marks a.d_now_marks ["book"] (spNowMarks a.a_Book):=by
  refine T.F_now_marks.ok sc_now_marks (fun vs H Q E h=>?_) (fun cdv A outer s H vs Q E hr h=>?_)
  · obtain ⟨b,os,rs,F,rfl,_⟩:=h
    rfl
  obtain ⟨b,os,rs,F,rfl,hB,q⟩:=h
  refine ⟨_,(pss_one (ps_ret (pe_lcP1 (osc:=defScope S_now_marks) (js:=[0]) rfl (by show LcOkP (defScope S_now_marks) _ "now" "then" ["book"]; exact ⟨⟨rfl,by decide +kernel,by decide +kernel,by decide +kernel,by decide +kernel⟩,by decide +kernel,by decide +kernel,by decide +kernel⟩) rfl (pi_tup (pe_glob (v:=.ref a.a_PAIRS) rfl T.m_PAIRS rfl)) (by show ∀ j∈([0]:List Nat),j < 1; decide) (fun cl C s₂ H₂ fp=>(pt_cmpR (op_inK (K:=K) rfl) (pv 0) (pe_meth0 (pv 2) T.c_Book T.e_Book_order G_Book_order hr T.b_Book_order .nil pass0) (by with_unfolding_all rfl))) (fun cl C s₂ H₂ fp=>(pv 0))))),?_⟩
  have L:=bookLike a.a_Book
  refine ⟨a.a_PAIRS,rfl,⟨_,T.q_PAIRS H⟩,?_⟩
  refine lc_pairs (xs:=[.ref a.a_PAIRS_0,.ref a.a_PAIRS_1,.ref a.a_PAIRS_2,.ref a.a_PAIRS_3]) (fun i zs H'=>Same H H'∧zs = (((prs.take i).filter fun p=>os.contains p.1).map (·.1)).map V.str) ⟨Same.refl _,rfl⟩ (by show 4≤sizeLine; decide) ?_ ?_ ?_ ?_ ?_
  · rintro i zs H' hi ⟨g,rfl⟩
    refine ⟨T.q_PAIRS H',?_⟩
    have:=List.length_filter_le (fun p:Str × Str=>os.contains p.1) (prs.take i)
    rw [List.length_take] at this
    rw [List.length_map,List.length_map]
    omega
  · rintro i v zs H' hv ⟨g,rfl⟩
    obtain ⟨p,pr,rfl,hp,hpr⟩:∃ (p:Addr) (pr:Str × Str),v = .ref p∧SqT K H' p [.str pr.1,.str pr.2]∧prs[i]? = some pr:=by
      match i,hv with
      | 0,hv=>cases hv; exact ⟨_,("a", "e"),rfl,T.q_PAIRS_0 H',rfl⟩
      | 1,hv=>cases hv; exact ⟨_,("b", "f"),rfl,T.q_PAIRS_1 H',rfl⟩
      | 2,hv=>cases hv; exact ⟨_,("c", "g"),rfl,T.q_PAIRS_2 H',rfl⟩
      | 3,hv=>cases hv; exact ⟨_,("d", "h"),rfl,T.q_PAIRS_3 H',rfl⟩
    refine ⟨p,.str pr.1,.str pr.2,rfl,hp,?_⟩
    have hB1:=L.same hB g
    obtain ⟨dx,fs,hins,hm⟩:=L.ins hB1
    refine ⟨_,rfl,_,rfl,b,dx,_,rfl,hins,hm _ (by decide +kernel),b,os,rs,F,rfl,hB1,fun l1 H1 g1 fl1 hl1=>?_⟩
    refine ⟨l1,_,rfl,.inl (SqL.of hl1),rfl,flat_strs os,_,rfl,?_⟩
    rw [take_next hpr,List.filter_append]
    show if inV (.str pr.1) (os.map V.str) = true then _ else _
    rw [inV_has]
    cases hn:os.contains pr.1
    · refine iteF ⟨g.trans g1,?_⟩
      rw [List.filter_cons_of_neg (p:=fun p:Str × Str=>os.contains p.1) (by rw [hn]; exact Bool.false_ne_true),List.filter_nil,List.append_nil]
    · refine iteT ⟨_,rfl,g.trans g1,?_⟩
      rw [List.filter_cons_of_pos (p:=fun p:Str × Str=>os.contains p.1) hn,List.filter_nil,List.map_append,List.map_append]
      rfl
  · rintro σ' H' Q1 Q2 hQ ⟨v1,e1,v2,e2,b',dx',fs',y1,y2,y3,b2,os2,rs2,F2,y4,y5,y6⟩
    refine ⟨v1,e1,v2,e2,b',dx',fs',y1,y2,y3,b2,os2,rs2,F2,y4,y5,fun l1 H1 g1 f1 h1=>?_⟩
    obtain ⟨p5,xs5,z1,z2,z3,z4,b6,z5,z6⟩:=y6 l1 H1 g1 f1 h1
    exact ⟨p5,xs5,z1,z2,z3,z4,b6,z5,hQ _ _ z6⟩
  · rintro σ' H' Q1 Q2 hQ ⟨v,e,z⟩
    exact ⟨v,e,hQ _ _ z⟩
  rintro zs H7 zl ⟨g,rfl⟩ hzl
  exact q zl _ (g.trans (Same.new hzl _)) (g.free hzl) upd_same
theorem ok_then_marks (T:Txt P w K mg a) (G_Book_order:FnOk P w K mg base CX0 k a.a_Book_order a.d_Book_order ["self"] (spBookOrder (BookAt a.a_Book))):FnOk P w K mg base CX0 (k + 1) a.a_then_marks a.d_then_marks ["book"] (spThenMarks a.a_Book):=by
  refine T.F_then_marks.ok sc_then_marks (fun vs H Q E h=>?_) (fun cdv A outer s H vs Q E hr h=>?_)
  · obtain ⟨b,os,rs,F,rfl,_⟩:=h
    rfl
  obtain ⟨b,os,rs,F,rfl,hB,q⟩:=h
  refine ⟨_,(pss_one (ps_ret (pe_lcP1 (osc:=defScope S_then_marks) (js:=[0]) rfl (by show LcOkP (defScope S_then_marks) _ "now" "then" ["book"]; exact ⟨⟨rfl,by decide +kernel,by decide +kernel,by decide +kernel,by decide +kernel⟩,by decide +kernel,by decide +kernel,by decide +kernel⟩) rfl (pi_tup (pe_glob (v:=.ref a.a_PAIRS) rfl T.m_PAIRS rfl)) (by show ∀ j∈([0]:List Nat),j < 1; decide) (fun cl C s₂ H₂ fp=>(pt_cmpR (op_inK (K:=K) rfl) (pv 1) (pe_meth0 (pv 2) T.c_Book T.e_Book_order G_Book_order hr T.b_Book_order .nil pass0) (by with_unfolding_all rfl))) (fun cl C s₂ H₂ fp=>(pv 1))))),?_⟩
  have L:=bookLike a.a_Book
  refine ⟨a.a_PAIRS,rfl,⟨_,T.q_PAIRS H⟩,?_⟩
  refine lc_pairs (xs:=[.ref a.a_PAIRS_0,.ref a.a_PAIRS_1,.ref a.a_PAIRS_2,.ref a.a_PAIRS_3]) (fun i zs H'=>Same H H'∧zs = (((prs.take i).filter fun p=>os.contains p.2).map (·.2)).map V.str) ⟨Same.refl _,rfl⟩ (by show 4≤sizeLine; decide) ?_ ?_ ?_ ?_ ?_
  · rintro i zs H' hi ⟨g,rfl⟩
    refine ⟨T.q_PAIRS H',?_⟩
    have:=List.length_filter_le (fun p:Str × Str=>os.contains p.2) (prs.take i)
    rw [List.length_take] at this
    rw [List.length_map,List.length_map]
    omega
  · rintro i v zs H' hv ⟨g,rfl⟩
    obtain ⟨p,pr,rfl,hp,hpr⟩:∃ (p:Addr) (pr:Str × Str),v = .ref p∧SqT K H' p [.str pr.1,.str pr.2]∧prs[i]? = some pr:=by
      match i,hv with
      | 0,hv=>cases hv; exact ⟨_,("a", "e"),rfl,T.q_PAIRS_0 H',rfl⟩
      | 1,hv=>cases hv; exact ⟨_,("b", "f"),rfl,T.q_PAIRS_1 H',rfl⟩
      | 2,hv=>cases hv; exact ⟨_,("c", "g"),rfl,T.q_PAIRS_2 H',rfl⟩
      | 3,hv=>cases hv; exact ⟨_,("d", "h"),rfl,T.q_PAIRS_3 H',rfl⟩
    refine ⟨p,.str pr.1,.str pr.2,rfl,hp,?_⟩
    have hB1:=L.same hB g
    obtain ⟨dx,fs,hins,hm⟩:=L.ins hB1
    refine ⟨_,rfl,_,rfl,b,dx,_,rfl,hins,hm _ (by decide +kernel),b,os,rs,F,rfl,hB1,fun l1 H1 g1 fl1 hl1=>?_⟩
    refine ⟨l1,_,rfl,.inl (SqL.of hl1),rfl,flat_strs os,_,rfl,?_⟩
    rw [take_next hpr,List.filter_append]
    show if inV (.str pr.2) (os.map V.str) = true then _ else _
    rw [inV_has]
    cases hn:os.contains pr.2
    · refine iteF ⟨g.trans g1,?_⟩
      rw [List.filter_cons_of_neg (p:=fun p:Str × Str=>os.contains p.2) (by rw [hn]; exact Bool.false_ne_true),List.filter_nil,List.append_nil]
    · refine iteT ⟨_,rfl,g.trans g1,?_⟩
      rw [List.filter_cons_of_pos (p:=fun p:Str × Str=>os.contains p.2) hn,List.filter_nil,List.map_append,List.map_append]
      rfl
  · rintro σ' H' Q1 Q2 hQ ⟨v1,e1,v2,e2,b',dx',fs',y1,y2,y3,b2,os2,rs2,F2,y4,y5,y6⟩
    refine ⟨v1,e1,v2,e2,b',dx',fs',y1,y2,y3,b2,os2,rs2,F2,y4,y5,fun l1 H1 g1 f1 h1=>?_⟩
    obtain ⟨p5,xs5,z1,z2,z3,z4,b6,z5,z6⟩:=y6 l1 H1 g1 f1 h1
    exact ⟨p5,xs5,z1,z2,z3,z4,b6,z5,hQ _ _ z6⟩
  · rintro σ' H' Q1 Q2 hQ ⟨v,e,z⟩
    exact ⟨v,e,hQ _ _ z⟩
  rintro zs H7 zl ⟨g,rfl⟩ hzl
  exact q zl _ (g.trans (Same.new hzl _)) (g.free hzl) upd_same
theorem ok_now_places (T:Txt P w K mg a) (G_Book_order:FnOk P w K mg base CX0 k a.a_Book_order a.d_Book_order ["self"] (spBookOrder (BookAt a.a_Book)))
    (G_now_marks:FnOk P w K mg base CX0 k a.a_now_marks a.d_now_marks ["book"] (spNowMarks a.a_Book)):FnOk P w K mg base CX0 (k + 1) a.a_now_places a.d_now_places ["book"] (spNowPlaces a.a_Book):=by
  refine T.F_now_places.ok sc_now_places (fun vs H Q E h=>?_) (fun cdv A outer s H vs Q E hr h=>?_)
  · obtain ⟨b,os,rs,F,rfl,_⟩:=h
    rfl
  obtain ⟨b,os,rs,F,rfl,hB,q⟩:=h
  refine ⟨_,(pss_one (ps_ret (pe_lc0 (osc:=defScope S_now_places) (js:=[0]) rfl (by show LcOk (defScope S_now_places) _ "mark" ["book"]; exact ⟨rfl,by decide +kernel,by decide +kernel,rfl,by decide +kernel,by decide +kernel,by decide +kernel⟩) rfl (pi_list (pe_call G_now_marks hr rfl T.m_now_marks T.F_now_marks.2 T.b_now_marks .nil pass0 (pa_cons (pv 0) pa_nil))) (by show ∀ j∈([0]:List Nat),j < 1; decide) (fun cl C s₂ H₂ fp=>(pe_bmK (K:=K) rfl PySem.F.plainAttrs_list PySem.F.slot_list_index PySem.F.type_list_index (mt_indexK (K:=K) rfl) (pe_meth0 (pv 1) T.c_Book T.e_Book_order G_Book_order hr T.b_Book_order .nil pass0) (pa_cons (pv 0) pa_nil)))))),?_⟩
  have L:=bookLike a.a_Book
  refine ⟨_,rfl,b,os,rs,F,rfl,hB,fun l0 H0 g0 fl0 hl0=>?_⟩
  have hB0:=L.same hB g0
  have l4:(nowM os).length≤4:=by
    show ((prs.filter _).map _).length≤4
    rw [List.length_map]
    exact List.length_filter_le _ _
  refine ⟨l0,rfl,⟨_,SqL.of hl0⟩,lc_idxL (fun i v=>∃ x,(nowM os)[i]? = some x∧v = .int ((ix os x:Nat):Int)) (SqL.of hl0) (by rw [List.length_map]; exact Nat.le_of_lt (small1000 (by omega))) ?_ ?_ ?_⟩
  · intro i v H' hv g
    rw [List.getElem?_map] at hv
    cases hj:(nowM os)[i]? with
    | none=>rw [hj] at hv; cases hv
    | some x =>
      rw [hj] at hv
      cases hv
      have hx:x∈os:=nowM_mem (List.mem_of_getElem? hj)
      obtain ⟨i1,i2,i3⟩:=ix_spec hx
      have hB1:=L.same hB0 g
      obtain ⟨dx,fs,hins,hm⟩:=L.ins hB1
      refine ⟨_,rfl,b,dx,_,rfl,hins,hm _ (by decide +kernel),b,os,rs,F,rfl,hB1,fun l1 H1 g1 fl1 hl1=>?_⟩
      exact ⟨.inl ⟨rfl,_,SqL.of hl1⟩,_,rfl,l1,_,_,_,rfl,rfl,SqL.of hl1,rfl,flat_strs _,i1,⟨x,rfl,rfl⟩,g.trans g1⟩
  · rintro σ' H' Q1 Q2 hQ ⟨v1,e1,b',dx',fs',y1,y2,y3,b2,os2,rs2,F2,y4,y5,y6⟩
    refine ⟨v1,e1,b',dx',fs',y1,y2,y3,b2,os2,rs2,F2,y4,y5,fun l1 H1 g1 f1 h1=>?_⟩
    obtain ⟨z0,v2,e2,p5,xs5,w5,j5,z1,z2,z3,z4,z5,z6,z7⟩:=y6 l1 H1 g1 f1 h1
    exact ⟨z0,v2,e2,p5,xs5,w5,j5,z1,z2,z3,z4,z5,z6,hQ _ _ z7⟩
  intro us H7 zl hul huv g7 hzl
  rw [List.length_map] at hul
  have eu:us = natW ((nowM os).map (ix os)):=by
    refine List.ext_getElem? fun i=>?_
    unfold natW
    by_cases hi:i < us.length
    · obtain ⟨x,hx,e⟩:=huv i _ (List.getElem?_eq_getElem hi)
      rw [List.getElem?_eq_getElem hi,e,List.getElem?_map,List.getElem?_map,hx]
      rfl
    · rw [List.getElem?_eq_none (by omega),List.getElem?_eq_none (by rw [List.length_map,List.length_map]; omega)]
  subst eu
  exact q zl _ (g0.trans (g7.trans (Same.new hzl _))) (g0.free (g7.free hzl)) upd_same
theorem ok_then_places (T:Txt P w K mg a) (G_Book_order:FnOk P w K mg base CX0 k a.a_Book_order a.d_Book_order ["self"] (spBookOrder (BookAt a.a_Book)))
    (G_then_marks:FnOk P w K mg base CX0 k a.a_then_marks a.d_then_marks ["book"] (spThenMarks a.a_Book)):FnOk P w K mg base CX0 (k + 1) a.a_then_places a.d_then_places ["book"] (spThenPlaces a.a_Book):=by
  refine T.F_then_places.ok sc_then_places (fun vs H Q E h=>?_) (fun cdv A outer s H vs Q E hr h=>?_)
  · obtain ⟨b,os,rs,F,rfl,_⟩:=h
    rfl
  obtain ⟨b,os,rs,F,rfl,hB,q⟩:=h
  refine ⟨_,(pss_one (ps_ret (pe_lc0 (osc:=defScope S_then_places) (js:=[0]) rfl (by show LcOk (defScope S_then_places) _ "mark" ["book"]; exact ⟨rfl,by decide +kernel,by decide +kernel,rfl,by decide +kernel,by decide +kernel,by decide +kernel⟩) rfl (pi_list (pe_call G_then_marks hr rfl T.m_then_marks T.F_then_marks.2 T.b_then_marks .nil pass0 (pa_cons (pv 0) pa_nil))) (by show ∀ j∈([0]:List Nat),j < 1; decide) (fun cl C s₂ H₂ fp=>(pe_bmK (K:=K) rfl PySem.F.plainAttrs_list PySem.F.slot_list_index PySem.F.type_list_index (mt_indexK (K:=K) rfl) (pe_meth0 (pv 1) T.c_Book T.e_Book_order G_Book_order hr T.b_Book_order .nil pass0) (pa_cons (pv 0) pa_nil)))))),?_⟩
  have L:=bookLike a.a_Book
  refine ⟨_,rfl,b,os,rs,F,rfl,hB,fun l0 H0 g0 fl0 hl0=>?_⟩
  have hB0:=L.same hB g0
  have l4:(thenM os).length≤4:=by
    show ((prs.filter _).map _).length≤4
    rw [List.length_map]
    exact List.length_filter_le _ _
  refine ⟨l0,rfl,⟨_,SqL.of hl0⟩,lc_idxL (fun i v=>∃ x,(thenM os)[i]? = some x∧v = .int ((ix os x:Nat):Int)) (SqL.of hl0) (by rw [List.length_map]; exact Nat.le_of_lt (small1000 (by omega))) ?_ ?_ ?_⟩
  · intro i v H' hv g
    rw [List.getElem?_map] at hv
    cases hj:(thenM os)[i]? with
    | none=>rw [hj] at hv; cases hv
    | some x =>
      rw [hj] at hv
      cases hv
      have hx:x∈os:=thenM_mem (List.mem_of_getElem? hj)
      obtain ⟨i1,i2,i3⟩:=ix_spec hx
      have hB1:=L.same hB0 g
      obtain ⟨dx,fs,hins,hm⟩:=L.ins hB1
      refine ⟨_,rfl,b,dx,_,rfl,hins,hm _ (by decide +kernel),b,os,rs,F,rfl,hB1,fun l1 H1 g1 fl1 hl1=>?_⟩
      exact ⟨.inl ⟨rfl,_,SqL.of hl1⟩,_,rfl,l1,_,_,_,rfl,rfl,SqL.of hl1,rfl,flat_strs _,i1,⟨x,rfl,rfl⟩,g.trans g1⟩
  · rintro σ' H' Q1 Q2 hQ ⟨v1,e1,b',dx',fs',y1,y2,y3,b2,os2,rs2,F2,y4,y5,y6⟩
    refine ⟨v1,e1,b',dx',fs',y1,y2,y3,b2,os2,rs2,F2,y4,y5,fun l1 H1 g1 f1 h1=>?_⟩
    obtain ⟨z0,v2,e2,p5,xs5,w5,j5,z1,z2,z3,z4,z5,z6,z7⟩:=y6 l1 H1 g1 f1 h1
    exact ⟨z0,v2,e2,p5,xs5,w5,j5,z1,z2,z3,z4,z5,z6,hQ _ _ z7⟩
  intro us H7 zl hul huv g7 hzl
  rw [List.length_map] at hul
  have eu:us = natW ((thenM os).map (ix os)):=by
    refine List.ext_getElem? fun i=>?_
    unfold natW
    by_cases hi:i < us.length
    · obtain ⟨x,hx,e⟩:=huv i _ (List.getElem?_eq_getElem hi)
      rw [List.getElem?_eq_getElem hi,e,List.getElem?_map,List.getElem?_map,hx]
      rfl
    · rw [List.getElem?_eq_none (by omega),List.getElem?_eq_none (by rw [List.length_map,List.length_map]; omega)]
  subst eu
  exact q zl _ (g0.trans (g7.trans (Same.new hzl _))) (g0.free (g7.free hzl)) upd_same
theorem ok_after (T:Txt P w K mg a) (G_Book_order:FnOk P w K mg base CX0 k a.a_Book_order a.d_Book_order ["self"] (spBookOrder (BookAt a.a_Book))) (G_Book_table_at:FnOk P w K mg base CX0 k a.a_Book_table_at a.d_Book_table_at ["self", "number"] (spTableAt a.a_Book))
    (G_now_places:FnOk P w K mg base CX0 k a.a_now_places a.d_now_places ["book"] (spNowPlaces a.a_Book)) (G_then_places:FnOk P w K mg base CX0 k a.a_then_places a.d_then_places ["book"] (spThenPlaces a.a_Book))
    (G_for_any:FnOk P w K mg base CX0 k a.a_for_any a.d_for_any ["table", "places", "marks"] (spForAny K)) (G_moved:FnOk P w K mg base CX0 k a.a_moved a.d_moved ["table", "places", "others", "marks"] (spMoved K)):FnOk P w K mg base CX0 (k + 1) a.a_after a.d_after ["book", "steps", "table"] (spAfter a.a_Book):=by
  refine T.F_after.ok sc_after (fun vs H Q E h=>?_) (fun cdv A outer s H vs Q E hr h=>?_)
  · obtain ⟨b,os,rs,F,k0,N,f,rfl,_⟩:=h
    rfl
  obtain ⟨b,os,rs,F,k0,N,f,rfl,hB,hk,hW,tf,q⟩:=h
  refine ⟨_,(pss_cons (ps_set (i:=3) sc_after.nd rfl (Or.inl rfl) (pe_callB call_len_seq rfl T.n_len bt_len (pa_cons (pe_meth0 (pv 0) T.c_Book T.e_Book_order G_Book_order hr T.b_Book_order .nil pass0) pa_nil)))
      (pss_cons (ps_set (i:=4) sc_after.nd rfl (Or.inl rfl) (pe_call G_for_any hr rfl T.m_for_any T.F_for_any.2 T.b_for_any .nil pass0 (pa_cons (pe_op op_andN (pv 2) (pe_meth (pv 0) T.c_Book T.e_Book_table_at G_Book_table_at hr T.b_Book_table_at .nil pass0 (pa_cons (pv 1) pa_nil))) (pa_cons (pe_call G_now_places hr rfl T.m_now_places T.F_now_places.2 T.b_now_places .nil pass0 (pa_cons (pv 0) pa_nil)) (pa_cons (pv 3) pa_nil)))))
      (pss_one (ps_ret (pe_call G_moved hr rfl T.m_moved T.F_moved.2 T.b_moved .nil pass0 (pa_cons (pv 4) (pa_cons (pe_call G_then_places hr rfl T.m_then_places T.F_then_places.2 T.b_then_places .nil pass0 (pa_cons (pv 0) pa_nil)) (pa_cons (pe_call G_now_places hr rfl T.m_now_places T.F_now_places.2 T.b_now_places .nil pass0 (pa_cons (pv 0) pa_nil)) (pa_cons (pv 3) pa_nil))))))))),?_⟩
  have L:=bookLike a.a_Book
  have o8:=(L.ord hB).le
  have lo5:(os.map V.str).length = os.length:=List.length_map _
  have ln:(nowP os).length = (thenP os).length:=by unfold nowP thenP; rw [List.length_map,List.length_map]; exact hW.len
  have l4:(nowP os).length≤8:=by unfold nowP; rw [List.length_map]; have:=nowM_len os; omega
  have hB0:=hB
  obtain ⟨dx,ml,rl,tl,nd,rv,ts,kvs,h⟩:=hB
  refine ⟨_,rfl,b,dx,_,rfl,h.hb,rfl,b,os,rs,F,rfl,hB0,fun l1 H1 g1 fl1 hl1=>?_⟩
  refine ⟨l1,_,rfl,.inl (SqL.of hl1),?_⟩
  rw [lo5]
  have hB1:=L.same hB0 g1
  refine ⟨_,rfl,_,rfl,b,dx,_,rfl,(g1 _ _ h.hb),rfl,_,rfl,b,os,rs,F,k0,rfl,hB1,hk,fun t tt=>?_⟩
  refine ⟨N,t,rfl,rfl,?_⟩
  refine ⟨_,rfl,b,os,rs,F,rfl,hB1,fun l2 H2 g2 fl2 hl2=>?_⟩
  have hB2:=L.same hB1 g2
  refine ⟨_,rfl,_,os.length,_,l2,nowP os,rfl,o8,Sen.tab_and tf tt,SqL.of hl2,nowP_lt,fun R tr=>?_⟩
  refine ⟨_,rfl,_,rfl,b,os,rs,F,rfl,hB2,fun l3 H3 g3 fl3 hl3=>?_⟩
  have hB3:=L.same hB2 g3
  refine ⟨_,rfl,b,os,rs,F,rfl,hB3,fun l4' H4 g4 fl4 hl4=>?_⟩
  refine ⟨_,rfl,R,os.length,_,l3,l4',thenP os,nowP os,rfl,o8,tr,SqL.of (g4 _ _ hl3),SqL.of hl4,ln.symm,by omega,thenP_lt,nowP_lt,fun R2 H5 g5 t5=>?_⟩
  exact q R2 H5 (g1.trans (g2.trans (g3.trans (g4.trans g5)))) t5
theorem ok_before (T:Txt P w K mg a) (G_Book_order:FnOk P w K mg base CX0 k a.a_Book_order a.d_Book_order ["self"] (spBookOrder (BookAt a.a_Book))) (G_Book_table_at:FnOk P w K mg base CX0 k a.a_Book_table_at a.d_Book_table_at ["self", "number"] (spTableAt a.a_Book))
    (G_now_places:FnOk P w K mg base CX0 k a.a_now_places a.d_now_places ["book"] (spNowPlaces a.a_Book)) (G_then_places:FnOk P w K mg base CX0 k a.a_then_places a.d_then_places ["book"] (spThenPlaces a.a_Book))
    (G_for_any:FnOk P w K mg base CX0 k a.a_for_any a.d_for_any ["table", "places", "marks"] (spForAny K)) (G_moved:FnOk P w K mg base CX0 k a.a_moved a.d_moved ["table", "places", "others", "marks"] (spMoved K)):FnOk P w K mg base CX0 (k + 1) a.a_before a.d_before ["book", "steps", "table"] (spBefore a.a_Book):=by
  refine T.F_before.ok sc_before (fun vs H Q E h=>?_) (fun cdv A outer s H vs Q E hr h=>?_)
  · obtain ⟨b,os,rs,F,k0,N,f,rfl,_⟩:=h
    rfl
  obtain ⟨b,os,rs,F,k0,N,f,rfl,hB,hk,hW,tf,q⟩:=h
  refine ⟨_,(pss_cons (ps_set (i:=3) sc_before.nd rfl (Or.inl rfl) (pe_callB call_len_seq rfl T.n_len bt_len (pa_cons (pe_meth0 (pv 0) T.c_Book T.e_Book_order G_Book_order hr T.b_Book_order .nil pass0) pa_nil)))
      (pss_cons (ps_set (i:=4) sc_before.nd rfl (Or.inl rfl) (pe_call G_moved hr rfl T.m_moved T.F_moved.2 T.b_moved .nil pass0 (pa_cons (pv 2) (pa_cons (pe_call G_now_places hr rfl T.m_now_places T.F_now_places.2 T.b_now_places .nil pass0 (pa_cons (pv 0) pa_nil)) (pa_cons (pe_call G_then_places hr rfl T.m_then_places T.F_then_places.2 T.b_then_places .nil pass0 (pa_cons (pv 0) pa_nil)) (pa_cons (pv 3) pa_nil))))))
      (pss_one (ps_ret (pe_call G_for_any hr rfl T.m_for_any T.F_for_any.2 T.b_for_any .nil pass0 (pa_cons (pe_op op_andN (pv 4) (pe_meth (pv 0) T.c_Book T.e_Book_table_at G_Book_table_at hr T.b_Book_table_at .nil pass0 (pa_cons (pv 1) pa_nil))) (pa_cons (pe_call G_then_places hr rfl T.m_then_places T.F_then_places.2 T.b_then_places .nil pass0 (pa_cons (pv 0) pa_nil)) (pa_cons (pv 3) pa_nil)))))))),?_⟩
  have L:=bookLike a.a_Book
  have o8:=(L.ord hB).le
  have lo5:(os.map V.str).length = os.length:=List.length_map _
  have ln:(nowP os).length = (thenP os).length:=by unfold nowP thenP; rw [List.length_map,List.length_map]; exact hW.len
  have l4:(nowP os).length≤8:=by unfold nowP; rw [List.length_map]; have:=nowM_len os; omega
  have hB0:=hB
  obtain ⟨dx,ml,rl,tl,nd,rv,ts,kvs,h⟩:=hB
  refine ⟨_,rfl,b,dx,_,rfl,h.hb,rfl,b,os,rs,F,rfl,hB0,fun l1 H1 g1 fl1 hl1=>?_⟩
  refine ⟨l1,_,rfl,.inl (SqL.of hl1),?_⟩
  rw [lo5]
  have hB1:=L.same hB0 g1
  refine ⟨_,rfl,_,rfl,b,os,rs,F,rfl,hB1,fun l2 H2 g2 fl2 hl2=>?_⟩
  have hB2:=L.same hB1 g2
  refine ⟨_,rfl,b,os,rs,F,rfl,hB2,fun l3 H3 g3 fl3 hl3=>?_⟩
  refine ⟨_,rfl,N,os.length,_,l2,l3,nowP os,thenP os,rfl,o8,tf,SqL.of (g3 _ _ hl2),SqL.of hl3,ln,by omega,nowP_lt,thenP_lt,fun R H4 g4 tr=>?_⟩
  have hB4:=L.same hB2 (g3.trans g4)
  refine ⟨_,rfl,_,rfl,b,dx,_,rfl,((g1.trans (g2.trans (g3.trans g4))) _ _ h.hb),rfl,_,rfl,b,os,rs,F,k0,rfl,hB4,hk,fun t tt=>?_⟩
  refine ⟨R,t,rfl,rfl,?_⟩
  refine ⟨_,rfl,b,os,rs,F,rfl,hB4,fun l5 H5 g5 fl5 hl5=>?_⟩
  refine ⟨_,rfl,_,os.length,_,l5,thenP os,rfl,o8,Sen.tab_and tr tt,SqL.of hl5,thenP_lt,fun R2 t2=>?_⟩
  exact q R2 H5 (g1.trans (g2.trans (g3.trans (g4.trans g5)))) t2
theorem ok_must_be_world (T:Txt P w K mg a) (G_Book_order:FnOk P w K mg base CX0 k a.a_Book_order a.d_Book_order ["self"] (spBookOrder (BookAt a.a_Book))):FnOk P w K mg base CX0 (k + 1) a.a_must_be_world a.d_must_be_world ["book"] (spMustWorld a.a_Book):=by
  refine T.F_must_be_world.ok sc_must_be_world (fun vs H Q E h=>?_) (fun cdv A outer s H vs Q E hr h=>?_)
  · obtain ⟨b,os,rs,F,rfl,_⟩:=h
    rfl
  obtain ⟨b,os,rs,F,rfl,hB,hW,q⟩:=h
  refine ⟨_,(pss_cons (ps_set (i:=1) sc_must_be_world.nd rfl (Or.inl rfl) (pe_meth0 (pv 0) T.c_Book T.e_Book_order G_Book_order hr T.b_Book_order .nil pass0))
      (pss_one (ps_for PassesOwn.never rfl (pi_tup (pe_glob (v:=.ref a.a_PAIRS) rfl T.m_PAIRS rfl)) (pg_tup rfl (pgs_cons (pg_name (i:=2) sc_must_be_world.nd rfl (Or.inl rfl)) (pgs_cons (pg_name (i:=3) sc_must_be_world.nd rfl (Or.inl rfl)) pgs_nil))) (pss_one (ps_if (pt_cmpR op_ne (pe_cmpR op_in_seq (pv 2) (pv 1) (by with_unfolding_all rfl)) (pe_cmpR op_in_seq (pv 3) (pv 1) (by with_unfolding_all rfl)) (nomark _)) (pss_one ps_never) pss_nil))))),?_⟩
  have L:=bookLike a.a_Book
  obtain ⟨dx,fs,hins,hm⟩:=L.ins hB
  refine ⟨_,rfl,b,dx,_,rfl,hins,hm _ (by decide +kernel),b,os,rs,F,rfl,hB,fun l1 H1 g1 fl1 hl1=>?_⟩
  refine ⟨a.a_PAIRS,rfl,⟨_,T.q_PAIRS H1⟩,?_⟩
  refine for_tup (xs:=[.ref a.a_PAIRS_0,.ref a.a_PAIRS_1,.ref a.a_PAIRS_2,.ref a.a_PAIRS_3]) (fun i σ H'=>H' = H1∧∃ f2 f3:Option V,σ = [some (.ref b),some (.ref l1),f2,f3]) ⟨rfl,_,_,rfl⟩ ?_ ?_ ?_
  · rintro i σ H' _ ⟨rfl,_⟩
    exact T.q_PAIRS H'
  · rintro i v σ H' hv ⟨rfl,f2,f3,rfl⟩
    obtain ⟨p,pr,rfl,hp,hpr⟩:∃ (p:Addr) (pr:Str × Str),v = .ref p∧SqT K H' p [.str pr.1,.str pr.2]∧prs[i]? = some pr:=by
      match i,hv with
      | 0,hv=>cases hv; exact ⟨_,("a", "e"),rfl,T.q_PAIRS_0 H',rfl⟩
      | 1,hv=>cases hv; exact ⟨_,("b", "f"),rfl,T.q_PAIRS_1 H',rfl⟩
      | 2,hv=>cases hv; exact ⟨_,("c", "g"),rfl,T.q_PAIRS_2 H',rfl⟩
      | 3,hv=>cases hv; exact ⟨_,("d", "h"),rfl,T.q_PAIRS_3 H',rfl⟩
    have e:=hW pr (List.mem_of_getElem? hpr)
    refine ⟨p,_,rfl,hp,rfl,_,_,rfl,_,_,rfl,rfl,?_⟩
    refine ⟨_,rfl,_,rfl,l1,_,rfl,.inl (SqL.of hl1),rfl,flat_strs os,?_⟩
    refine ⟨_,rfl,_,rfl,l1,_,rfl,.inl (SqL.of hl1),rfl,flat_strs os,rfl,_,rfl,iteNe2 (congrArg V.bl ?_) ⟨rfl,_,_,rfl⟩⟩
    show inV (.str pr.1) (os.map V.str) = inV (.str pr.2) (os.map V.str)
    rw [inV_has,inV_has,e]
  · rintro σ H' ⟨rfl,f2,f3,rfl⟩
    exact q _ g1
theorem ok_must_be_of_now (T:Txt P w K mg a) (G_Book_order:FnOk P w K mg base CX0 k a.a_Book_order a.d_Book_order ["self"] (spBookOrder (BookAt a.a_Book))) (G_Book_table_at:FnOk P w K mg base CX0 k a.a_Book_table_at a.d_Book_table_at ["self", "number"] (spTableAt a.a_Book))
    (G_Book_must_be_room:FnOk P w K mg base CX0 k a.a_Book_must_be_room a.d_Book_must_be_room ["self", "number"] (spMustRoom a.a_Book)) (G_then_places:FnOk P w K mg base CX0 k a.a_then_places a.d_then_places ["book"] (spThenPlaces a.a_Book))
    (G_hangs_on:FnOk P w K mg base CX0 k a.a_hangs_on a.d_hangs_on ["table", "place", "marks"] spHangs):FnOk P w K mg base CX0 (k + 1) a.a_must_be_of_now a.d_must_be_of_now ["book", "room"] (spMustNow a.a_Book):=by
  refine T.F_must_be_of_now.ok sc_must_be_of_now (fun vs H Q E h=>?_) (fun cdv A outer s H vs Q E hr h=>?_)
  · obtain ⟨b,os,rs,F,k0,rfl,_⟩:=h
    rfl
  obtain ⟨b,os,rs,F,k0,rfl,hB,hN,q⟩:=h
  refine ⟨_,(pss_cons (ps_expr (pe_meth (pv 0) T.c_Book T.e_Book_must_be_room G_Book_must_be_room hr T.b_Book_must_be_room .nil pass0 (pa_cons (pv 1) pa_nil)))
      (pss_one (ps_for PassesOwn.never rfl (pi_list (pe_call G_then_places hr rfl T.m_then_places T.F_then_places.2 T.b_then_places .nil pass0 (pa_cons (pv 0) pa_nil))) (pg_name (i:=2) sc_must_be_of_now.nd rfl (Or.inl rfl)) (pss_one (ps_if (pt_truth (pe_call G_hangs_on hr rfl T.m_hangs_on T.F_hangs_on.2 T.b_hangs_on .nil pass0 (pa_cons (pe_meth (pv 0) T.c_Book T.e_Book_table_at G_Book_table_at hr T.b_Book_table_at .nil pass0 (pa_cons (pv 1) pa_nil)) (pa_cons (pv 2) (pa_cons (pe_callB call_len_seq rfl T.n_len bt_len (pa_cons (pe_meth0 (pv 0) T.c_Book T.e_Book_order G_Book_order hr T.b_Book_order .nil pass0) pa_nil)) pa_nil)))) (fun _=>rfl)) (pss_one ps_never) pss_nil))))),?_⟩
  have L:=bookLike a.a_Book
  have o8:=(L.ord hB).le
  have lo5:(os.map V.str).length = os.length:=List.length_map _
  have hB0:=hB
  obtain ⟨dx,ml,rl,tl,nd,rv,ts,kvs,h⟩:=hB
  refine ⟨_,rfl,b,dx,_,rfl,h.hb,rfl,_,rfl,b,os,rs,F,k0,rfl,hB0,hN.1,?_⟩
  refine ⟨_,rfl,b,os,rs,F,rfl,hB0,fun l1 H1 g1 fl1 hl1=>?_⟩
  refine ⟨l1,rfl,⟨_,SqL.of hl1⟩,?_⟩
  refine for_list (xs:=natW (thenP os)) (fun i σ H'=>Same H1 H'∧∃ f2:Option V,σ = [some (.ref b),some (.int (k0:Nat)),f2]) ⟨Same.refl _,_,rfl⟩ ?_ ?_ ?_
  · rintro i σ H' _ ⟨g,_⟩
    exact SqL.of (g _ _ hl1)
  · rintro i v σ H' hv ⟨g,f2,rfl⟩
    unfold natW at hv
    rw [List.getElem?_map] at hv
    cases hj:(thenP os)[i]? with
    | none=>rw [hj] at hv; cases hv
    | some p =>
      rw [hj] at hv
      cases hv
      have hp:=List.mem_of_getElem? hj
      have hB1:=L.same hB0 (g1.trans g)
      have b1:=(g1.trans g) _ _ h.hb
      refine ⟨_,rfl,b,dx,_,rfl,b1,rfl,_,rfl,b,os,rs,F,k0,rfl,hB1,hN.1,fun t tt=>?_⟩
      refine ⟨_,rfl,_,rfl,b,dx,_,rfl,b1,rfl,b,os,rs,F,rfl,hB1,fun l2 H2 g2 fl2 hl2=>?_⟩
      refine ⟨l2,_,rfl,.inl (SqL.of hl2),?_⟩
      rw [lo5]
      refine ⟨t,p,os.length,_,rfl,thenP_lt p hp,o8,tt,fun c cf ct=>?_⟩
      cases c with
      | true =>
        obtain ⟨z,z1,z2⟩:=ct rfl
        exact absurd ((hN.2 p hp z z1 false).trans (hN.2 p hp z z1 true).symm) z2
      | false=>exact ⟨_,rfl,iteF ⟨g.trans g2,_,rfl⟩⟩
  · rintro σ H' ⟨g,f2,rfl⟩
    exact q _ (g1.trans g)
theorem ok_must_be_world_with (T:Txt P w K mg a) (G_must_be_world:FnOk P w K mg base CX0 k a.a_must_be_world a.d_must_be_world ["book"] (spMustWorld a.a_Book))
    (G_Book_must_be_room:FnOk P w K mg base CX0 k a.a_Book_must_be_room a.d_Book_must_be_room ["self", "number"] (spMustRoom a.a_Book))
    (G_must_be_of_now:FnOk P w K mg base CX0 k a.a_must_be_of_now a.d_must_be_of_now ["book", "room"] (spMustNow a.a_Book)):FnOk P w K mg base CX0 (k + 1) a.a_must_be_world_with a.d_must_be_world_with ["book", "steps", "rooms"] (spMustWith a.a_Book K):=by
  refine T.F_must_be_world_with.ok sc_must_be_world_with (fun vs H Q E h=>?_) (fun cdv A outer s H vs Q E hr h=>?_)
  · obtain ⟨b,l,os,rs,F,k0,ks,rfl,_⟩:=h
    rfl
  obtain ⟨b,l,os,rs,F,k0,ks,rfl,hB,hW,hk,hl,hN,q⟩:=h
  refine ⟨_,(pss_cons (ps_expr (pe_call G_must_be_world hr rfl T.m_must_be_world T.F_must_be_world.2 T.b_must_be_world .nil pass0 (pa_cons (pv 0) pa_nil)))
      (pss_cons (ps_expr (pe_meth (pv 0) T.c_Book T.e_Book_must_be_room G_Book_must_be_room hr T.b_Book_must_be_room .nil pass0 (pa_cons (pv 1) pa_nil)))
      (pss_one (ps_for PassesOwn.never rfl (pi_list (pv 2)) (pg_name (i:=3) sc_must_be_world_with.nd rfl (Or.inl rfl)) (pss_one (ps_expr (pe_call G_must_be_of_now hr rfl T.m_must_be_of_now T.F_must_be_of_now.2 T.b_must_be_of_now .nil pass0 (pa_cons (pv 0) (pa_cons (pv 3) pa_nil))))))))),?_⟩
  have L:=bookLike a.a_Book
  have hB0:=hB
  obtain ⟨dx,ml,rl,tl,nd,rv,ts,kvs,h⟩:=hB
  refine ⟨_,rfl,b,os,rs,F,rfl,hB0,hW,fun H1 g1=>?_⟩
  refine ⟨_,rfl,b,dx,_,rfl,g1 _ _ h.hb,rfl,_,rfl,b,os,rs,F,k0,rfl,L.same hB0 g1,hk,?_⟩
  refine ⟨_,rfl,l,rfl,⟨_,g1.seq hl⟩,?_⟩
  refine for_list (xs:=natW ks) (fun i σ H'=>Same H H'∧∃ f3:Option V,σ = [some (.ref b),some (.int (k0:Nat)),some (.ref l),f3]) ⟨g1,_,rfl⟩ ?_ ?_ ?_
  · rintro i σ H' _ ⟨g,_⟩
    exact g.seq hl
  · rintro i v σ H' hv ⟨g,f3,rfl⟩
    unfold natW at hv
    rw [List.getElem?_map] at hv
    cases hj:ks[i]? with
    | none=>rw [hj] at hv; cases hv
    | some j =>
      rw [hj] at hv
      cases hv
      exact ⟨_,rfl,_,rfl,b,os,rs,F,j,rfl,L.same hB0 g,hN j (List.mem_of_getElem? hj),fun H2 g2=>⟨g.trans g2,_,rfl⟩⟩
  · rintro σ H' ⟨g,f3,rfl⟩
    exact q _ g
theorem ok_image (T:Txt P w K mg a) (G_must_be_world_with:FnOk P w K mg base CX0 k a.a_must_be_world_with a.d_must_be_world_with ["book", "steps", "rooms"] (spMustWith a.a_Book K))
    (G_Book_room_with:FnOk P w K mg base CX0 k a.a_Book_room_with a.d_Book_room_with ["self", "table"] (spRoomWithH a.a_Book 9)) (G_Book_table_at:FnOk P w K mg base CX0 k a.a_Book_table_at a.d_Book_table_at ["self", "number"] (spTableAt a.a_Book))
    (G_after:FnOk P w K mg base CX0 k a.a_after a.d_after ["book", "steps", "table"] (spAfter a.a_Book)):FnOk P w K mg base CX0 (k + 1) a.a_image a.d_image ["book", "steps", "room"] (spImage a.a_Book):=by
  refine T.F_image.ok sc_image (fun vs H Q E h=>?_) (fun cdv A outer s H vs Q E hr h=>?_)
  · obtain ⟨b,os,rs,F,k0,j,rfl,_⟩:=h
    rfl
  obtain ⟨b,os,rs,F,k0,j,rfl,hB,hlen,hW,hk,hN,q⟩:=h
  refine ⟨_,(pss_cons (ps_expr (pe_call G_must_be_world_with hr rfl T.m_must_be_world_with T.F_must_be_world_with.2 T.b_must_be_world_with .nil pass0 (pa_cons (pv 0) (pa_cons (pv 1) (pa_cons (pe_lst (pa_cons (pv 2) pa_nil)) pa_nil)))))
      (pss_one (ps_ret (pe_meth (pv 0) T.c_Book T.e_Book_room_with G_Book_room_with hr T.b_Book_room_with .nil pass0 (pa_cons (pe_call G_after hr rfl T.m_after T.F_after.2 T.b_after .nil pass0 (pa_cons (pv 0) (pa_cons (pv 1) (pa_cons (pe_meth (pv 0) T.c_Book T.e_Book_table_at G_Book_table_at hr T.b_Book_table_at .nil pass0 (pa_cons (pv 2) pa_nil)) pa_nil)))) pa_nil))))),?_⟩
  have L:=bookLike a.a_Book
  have hB0:=hB
  obtain ⟨dx,ml,rl,tl,nd,rv,ts,kvs,h⟩:=hB
  refine ⟨_,rfl,_,rfl,_,rfl,by show 1≤sizeLine; decide,fun l0 hl0=>?_⟩
  have g0:=Same.new hl0 (.lst [.int (j:Nat)])
  refine ⟨b,l0,os,rs,F,k0,[j],rfl,L.same hB0 g0,hW,hk,SqL.of upd_same,fun j' hj'=>by rw [List.mem_singleton.mp hj']; exact hN,fun H1 g1=>?_⟩
  have G1:=g0.trans g1
  have hB1:=L.same hB0 G1
  have b1:=G1 _ _ h.hb
  refine ⟨_,rfl,b,dx,_,rfl,b1,rfl,_,rfl,_,rfl,_,rfl,b,dx,_,rfl,b1,rfl,_,rfl,b,os,rs,F,j,rfl,hB1,hN.1,fun t tt=>?_⟩
  refine ⟨b,os,rs,F,k0,t,_,rfl,hB1,hk,hW,tt,fun R H2 g2 tr=>?_⟩
  exact roomWith_growH (G1.trans g2) (L.same hB1 g2) hlen tr (fun r=>rfl) q
theorem ok_preimage (T:Txt P w K mg a) (G_must_be_world_with:FnOk P w K mg base CX0 k a.a_must_be_world_with a.d_must_be_world_with ["book", "steps", "rooms"] (spMustWith a.a_Book K))
    (G_Book_room_with:FnOk P w K mg base CX0 k a.a_Book_room_with a.d_Book_room_with ["self", "table"] (spRoomWithH a.a_Book 9)) (G_Book_table_at:FnOk P w K mg base CX0 k a.a_Book_table_at a.d_Book_table_at ["self", "number"] (spTableAt a.a_Book))
    (G_before:FnOk P w K mg base CX0 k a.a_before a.d_before ["book", "steps", "table"] (spBefore a.a_Book)):FnOk P w K mg base CX0 (k + 1) a.a_preimage a.d_preimage ["book", "steps", "room"] (spPreimage a.a_Book):=by
  refine T.F_preimage.ok sc_preimage (fun vs H Q E h=>?_) (fun cdv A outer s H vs Q E hr h=>?_)
  · obtain ⟨b,os,rs,F,k0,j,rfl,_⟩:=h
    rfl
  obtain ⟨b,os,rs,F,k0,j,rfl,hB,hlen,hW,hk,hN,q⟩:=h
  refine ⟨_,(pss_cons (ps_expr (pe_call G_must_be_world_with hr rfl T.m_must_be_world_with T.F_must_be_world_with.2 T.b_must_be_world_with .nil pass0 (pa_cons (pv 0) (pa_cons (pv 1) (pa_cons (pe_lst (pa_cons (pv 2) pa_nil)) pa_nil)))))
      (pss_one (ps_ret (pe_meth (pv 0) T.c_Book T.e_Book_room_with G_Book_room_with hr T.b_Book_room_with .nil pass0 (pa_cons (pe_call G_before hr rfl T.m_before T.F_before.2 T.b_before .nil pass0 (pa_cons (pv 0) (pa_cons (pv 1) (pa_cons (pe_meth (pv 0) T.c_Book T.e_Book_table_at G_Book_table_at hr T.b_Book_table_at .nil pass0 (pa_cons (pv 2) pa_nil)) pa_nil)))) pa_nil))))),?_⟩
  have L:=bookLike a.a_Book
  have hB0:=hB
  obtain ⟨dx,ml,rl,tl,nd,rv,ts,kvs,h⟩:=hB
  refine ⟨_,rfl,_,rfl,_,rfl,by show 1≤sizeLine; decide,fun l0 hl0=>?_⟩
  have g0:=Same.new hl0 (.lst [.int (j:Nat)])
  refine ⟨b,l0,os,rs,F,k0,[j],rfl,L.same hB0 g0,hW,hk,SqL.of upd_same,fun j' hj'=>by rw [List.mem_singleton.mp hj']; exact hN,fun H1 g1=>?_⟩
  have G1:=g0.trans g1
  have hB1:=L.same hB0 G1
  have b1:=G1 _ _ h.hb
  refine ⟨_,rfl,b,dx,_,rfl,b1,rfl,_,rfl,_,rfl,_,rfl,b,dx,_,rfl,b1,rfl,_,rfl,b,os,rs,F,j,rfl,hB1,hN.1,fun t tt=>?_⟩
  refine ⟨b,os,rs,F,k0,t,_,rfl,hB1,hk,hW,tt,fun R H2 g2 tr=>?_⟩
  exact roomWith_growH (G1.trans g2) (L.same hB1 g2) hlen tr (fun r=>rfl) q
end
end K77
namespace K77
open PySem L2 Sen
section
variable {P:Program} {w:World} {K:PySem.W.Frag} {mg:Str→Option Value} {base:Heap} {a:Ad} {k:Nat}
theorem ok_round_tables (T:Txt P w K mg a) (G_Book_table_at:FnOk P w K mg base CX0 k a.a_Book_table_at a.d_Book_table_at ["self", "number"] (spTableAt a.a_Book)) (G_after:FnOk P w K mg base CX0 k a.a_after a.d_after ["book", "steps", "table"] (spAfter a.a_Book)) (G_without:FnOk P w K mg base CX0 k a.a_without a.d_without ["table", "other"] spWithout):FnOk P w K mg base CX0 (k + 1) a.a_round_tables a.d_round_tables ["book", "steps", "start"] (spRoundTables a.a_Book):=by
  refine T.F_round_tables.ok sc_round_tables (fun vs H Q E h=>?_) (fun cdv A outer s H vs Q E hr h=>?_)
  · obtain ⟨b,os,rs,F,k0,j,rfl,_⟩:=h
    rfl
  obtain ⟨b,os,rs,F,k0,j,rfl,hB,hW,hk,hj,q⟩:=h
  refine ⟨_,(pss_cons (ps_set (i:=3) sc_round_tables.nd rfl (Or.inl rfl) (pe_lst pa_nil))
      (pss_cons (ps_set (i:=4) sc_round_tables.nd rfl (Or.inl rfl) (pe_meth (pv 0) T.c_Book T.e_Book_table_at G_Book_table_at hr T.b_Book_table_at .nil pass0 (pa_cons (pv 2) pa_nil)))
      (pss_cons (ps_set (i:=5) sc_round_tables.nd rfl (Or.inl rfl) pe_int)
      (pss_cons (ps_while PassesOwn.never (pt_cmpR op_ne (pv 4) pe_int (nomark _)) (pss_cons (ps_expr (pe_bm PySem.F.plainAttrs_list PySem.F.slot_list_append PySem.F.type_list_append mt_append (pv 3) (pa_cons (pv 4) pa_nil)))
      (pss_cons (ps_set (i:=5) sc_round_tables.nd rfl (Or.inl rfl) (pe_op op_orN (pv 5) (pv 4)))
      (pss_one (ps_set (i:=4) sc_round_tables.nd rfl (Or.inl rfl) (pe_call G_without hr rfl T.m_without T.F_without.2 T.b_without .nil pass0 (pa_cons (pe_call G_after hr rfl T.m_after T.F_after.2 T.b_after .nil pass0 (pa_cons (pv 0) (pa_cons (pv 1) (pa_cons (pv 4) pa_nil)))) (pa_cons (pv 5) pa_nil))))))))
      (pss_one (ps_ret (pv 3))))))),?_⟩
  have L:=bookLike a.a_Book
  have o8:=(L.ord hB).le
  have p256:2 ^ os.length≤256:=two8 o8
  obtain ⟨dx,ml,rl,tl,nd,rv,ts,kvs,h⟩:=id hB
  refine ⟨by show 0≤sizeLine; decide,fun l hl=>?_⟩
  have g0:=Same.new hl (.lst [])
  have e0:upd H l (.lst []) l = some (.lst (natW [])):=upd_same
  generalize upd H l (.lst []) = H1 at g0 e0
  refine ⟨_,rfl,b,dx,_,rfl,g0 _ _ h.hb,rfl,_,rfl,b,os,rs,F,j,rfl,L.same hB g0,hj,fun N tN=>?_⟩
  refine ⟨fun m σ H'=>∃ (Ns:List Nat) (cur told:Nat),m = 256 - Ns.length∧Ns.length≤cntT os (tB rs k0) (tB rs j) Ns.length∧Same H H'∧H' l = some (.lst (natW Ns))∧(∀ (i N:Nat),Ns[i]? = some N→IsTab os.length N (rnd os (tB rs k0) (tB rs j) i).1∧N≠0)∧IsTab os.length cur (rnd os (tB rs k0) (tB rs j) Ns.length).1∧IsTab os.length told (rnd os (tB rs k0) (tB rs j) Ns.length).2∧σ = [some (.ref b),some (.int (k0:Nat)),some (.int (j:Nat)),some (.ref l),some (.int (cur:Nat)),some (.int (told:Nat))],⟨_,[],N,0,rfl,Nat.zero_le _,g0,e0,(fun i N e=>by cases e),tN,(fun c=>by rw [Nat.zero_testBit]; show false = (_ && false); rw [Bool.and_false]),rfl⟩,?_⟩
  rintro m σ H' ⟨Ns,cur,told,rfl,hc,g,hl',ok,tc,tt,rfl⟩
  refine ⟨_,rfl,rfl,_,rfl,?_⟩
  by_cases c0:cur = 0
  · subst c0
    refine iteNe2 rfl ⟨_,rfl,?_⟩
    exact q l H' Ns g hl hl' ⟨ok,tc⟩ (Nat.le_trans hc (Nat.le_trans (cntT_le _ _) p256))
  · have ct:=cntT_lt tc c0
    have cl:=cntT_le (os:=os) (t:=tB rs k0) (tB rs j) (Ns.length + 1)
    show if (!decide (V.int (cur:Nat) = V.int 0)) = true then _ else _
    rw [decide_eq_false (fun e=>c0 (by injection e; omega))]
    refine iteT ⟨_,fun σ' H2 h=>h,?_⟩
    refine ⟨_,rfl,.inl ⟨rfl,_,SqL.of hl'⟩,_,rfl,l,_,_,rfl,rfl,hl',by rw [natW_len]; exact small1000 (by omega),?_⟩
    have g2:Same H (upd H' l (.lst (natW Ns ++ [V.int (cur:Nat)]))):=g.over hl _
    have e2:upd H' l (.lst (natW Ns ++ [V.int (cur:Nat)])) l = some (.lst (natW (Ns ++ [cur]))):=by rw [upd_same]; unfold natW; rw [List.map_append]; rfl
    generalize upd H' l (.lst (natW Ns ++ [V.int (cur:Nat)])) = H2 at g2 e2
    refine ⟨_,rfl,_,rfl,told,cur,rfl,rfl,?_⟩
    refine ⟨_,rfl,_,rfl,_,rfl,b,os,rs,F,k0,cur,_,rfl,L.same hB g2,hk,hW,tc,fun R H3 g3 tr=>?_⟩
    refine ⟨_,rfl,R,told ||| cur,os.length,_,_,rfl,tr,or_tab tt tc,fun R2 tr2=>?_⟩
    have el:(Ns ++ [cur]).length = Ns.length + 1:=by rw [List.length_append]; rfl
    refine ⟨256 - (Ns ++ [cur]).length,by rw [el]; omega,Ns ++ [cur],R2,told ||| cur,rfl,by rw [el]; omega,g2.trans g3,g3 _ _ e2,fun i N e=>?_,by rw [el]; exact tr2,by rw [el]; exact or_tab tt tc,rfl⟩
    rcases Nat.lt_or_ge i Ns.length with z | z
    · rw [List.getElem?_append_left z] at e
      exact ok i N e
    · have hi:=(List.getElem?_eq_some_iff.mp e).1
      have ei:i = Ns.length:=by omega
      subst ei
      rw [List.getElem?_append_right (Nat.le_refl _),Nat.sub_self] at e
      cases e
      exact ⟨tc,c0⟩
theorem ok_rounds (T:Txt P w K mg a) (G_must_be_world_with:FnOk P w K mg base CX0 k a.a_must_be_world_with a.d_must_be_world_with ["book", "steps", "rooms"] (spMustWith a.a_Book K)) (G_round_tables:FnOk P w K mg base CX0 k a.a_round_tables a.d_round_tables ["book", "steps", "start"] (spRoundTables a.a_Book)) (G_Book_room_with:FnOk P w K mg base CX0 k a.a_Book_room_with a.d_Book_room_with ["self", "table"] (spRoomWithH a.a_Book 9)):FnOk P w K mg base CX0 (k + 1) a.a_rounds a.d_rounds ["book", "steps", "start"] (spRounds a.a_Book):=by
  refine T.F_rounds.ok sc_rounds (fun vs H Q E h=>?_) (fun cdv A outer s H vs Q E hr h=>?_)
  · obtain ⟨b,os,rs,F,k0,j,rfl,_⟩:=h
    rfl
  obtain ⟨b,os,rs,F,k0,j,rfl,hB,hlen,hW,hk,hN,q⟩:=h
  refine ⟨_,(pss_cons (ps_expr (pe_call G_must_be_world_with hr rfl T.m_must_be_world_with T.F_must_be_world_with.2 T.b_must_be_world_with .nil pass0 (pa_cons (pv 0) (pa_cons (pv 1) (pa_cons (pe_lst (pa_cons (pv 2) pa_nil)) pa_nil)))))
      (pss_one (ps_ret (pe_lc0 (osc:=defScope S_rounds) (js:=[0]) rfl (by show LcOk (defScope S_rounds) _ "table" ["book"]; exact ⟨rfl,by decide +kernel,by decide +kernel,rfl,by decide +kernel,by decide +kernel,by decide +kernel⟩) rfl (pi_list (pe_call G_round_tables hr rfl T.m_round_tables T.F_round_tables.2 T.b_round_tables .nil pass0 (pa_cons (pv 0) (pa_cons (pv 1) (pa_cons (pv 2) pa_nil))))) (by show ∀ j∈([0]:List Nat),j < 3; decide) (fun cl C s₂ H₂ fp=>(pe_meth (pv 1) T.c_Book T.e_Book_room_with G_Book_room_with hr T.b_Book_room_with .nil pass0 (pa_cons (pv 0) pa_nil))))))),?_⟩
  have L:=bookLike a.a_Book
  have BK:=L.bk hB
  have ho:=L.ord hB
  refine ⟨_,rfl,_,rfl,_,rfl,by show 1≤sizeLine; decide,fun l0 hl0=>?_⟩
  have g0:=Same.new hl0 (.lst [.int (j:Nat)])
  refine ⟨b,l0,os,rs,F,k0,[j],rfl,L.same hB g0,hW,hk,SqL.of upd_same,fun j' hj'=>by rw [List.mem_singleton.mp hj']; exact hN,fun H1 g1=>?_⟩
  have G1:=g0.trans g1
  generalize upd H l0 (.lst [.int (j:Nat)]) = Hx at g0 g1
  have hB1:=L.same hB G1
  refine ⟨_,rfl,_,rfl,_,rfl,b,os,rs,F,k0,j,rfl,hB1,hW,hk,hN.1,fun l H2 Ns g2 fl hl rn ln=>?_⟩
  have G2:=G1.trans g2
  have nF:¬ F l:=L.fresh hB1 fl
  have hB2:=L.same hB G2
  have Lx:LedH a.a_Book (outF F H2) b os (Bdd.hiN os.length rs) H2 rs F:=⟨outF_same F H2,fun x hx=>outF_in hx,hB2,Nat.le_refl _⟩
  refine ⟨l,rfl,⟨_,SqL.of hl⟩,?_⟩
  refine lc_list (xs:=natW Ns) (fun m ys H3=>∃ (rs':List Bdd.Rm) (js:List Nat),LedH a.a_Book (outF F H2) b os (Bdd.hiN os.length rs + 63 * m) H3 rs' F∧Tups H2 H3∧Bdd.Grown rs rs'∧ys = natW js∧Paired (TabR os.length rs') js (Ns.take m)∧∀ i∈js,OfNow os rs' i) ⟨rs,[],Lx,Tups.refl _,Bdd.Grown.refl _,rfl,.nil,(fun i h=>by cases h)⟩ (by rw [natW_len]; exact Nat.le_of_lt (small1000 (by omega))) ?_ ?_ (fun _ _ _ _ h q=>h _ _ q) ?_ ?_
  · rintro m ys H3 hm ⟨rs',js,L3,tu,gr,rfl,pj,oj⟩
    have:=pd_len pj
    rw [List.length_take] at this
    exact ⟨SqL.of (L3.same _ _ (by rw [outF_out nF]; exact hl)),by rw [natW_len]; omega⟩
  · rintro m x ys H3 hx ⟨rs',js,L3,tu,gr,rfl,pj,oj⟩
    obtain ⟨N,hi,rfl⟩:=natW_b hx
    have hm:=(List.getElem?_eq_some_iff.mp hi).1
    obtain ⟨tN,_⟩:=rn.tab m N hi
    have BK3:=L.bk L3.bk
    have l3:=L3.len
    have hil:Bdd.hiN os.length rs≤rs.length:=List.length_filter_le _ _
    refine tyes (iteT ?_)
    obtain ⟨dx3,_,_,_,_,_,_,_,h3⟩:=id L3.bk
    refine ⟨_,rfl,b,dx3,_,rfl,h3.hb,rfl,_,rfl,?_⟩
    refine ⟨b,os,rs',F,N,0,_,rfl,L3.bk,by show rs'.length + 512≤9000000; omega,Nat.zero_le _,by have:=ho.le; omega,tN,fun i hi=>absurd hi (Nat.not_lt_zero _),fun kk rs4 H4 aw4 tu4 hB4 gr4 lt4 y4 ln4 _ hh4'=>?_⟩
    have m4:Bdd.Means rs4 kk fun r=>(rnd os (tB rs k0) (tB rs j) m).1 (Bdd.bits r os.length):=⟨lt4,y4⟩
    have hh4:=Nat.le_trans hh4' (Nat.add_le_add_left (Bdd.bH_8 ho.le) _)
    refine ⟨rs4,js ++ [kk],(L3.grow aw4 hB4 hh4).up (by rw [Nat.mul_succ]; omega),tu.trans tu4,gr.trans gr4,by unfold natW; rw [List.map_append]; rfl,?_,fun i hi'=>?_⟩
    · rw [take_next hi]
      exact pd_app (pd_imp (fun _ _ e=>e.grown BK3 gr4) pj) (.cons (TabR.of m4 tN) .nil)
    · rcases List.mem_append.mp hi' with z | z
      · exact (oj i z).grown BK3 gr4
      · rw [List.mem_singleton.mp z]
        exact ofNow_of m4 fun p hp=>(rnd_free ho hW (fun p hp=>hN.2 p hp) m p hp).1
  · rintro σ' H3 Q1 Q2 hQ ⟨v1,e1,b',dx',fs',z1,z2,z3,v2,e2,y1,y2,y3,y4,y5,y6,y7,y8,y9,ya,yb,yc,yd,ye,yf⟩
    exact ⟨v1,e1,b',dx',fs',z1,z2,z3,v2,e2,y1,y2,y3,y4,y5,y6,y7,y8,y9,ya,yb,yc,yd,ye,fun a1 a2 a3 a4 a5 a6 a7 a8 a9 b1 b2 b3=>hQ _ _ (yf a1 a2 a3 a4 a5 a6 a7 a8 a9 b1 b2 b3)⟩
  rintro ys H3 l2 ⟨rs',js,L3,tu,gr,rfl,pj,oj⟩ hl2
  rw [natW_len,List.take_of_length_le (Nat.le_refl _)] at pj
  rw [natW_len] at L3
  have g3:=Same.new hl2 (.lst (natW js))
  have aw:Away F H H3:=fun x o e n=>L3.same _ _ (by rw [outF_out n]; exact G2 _ _ e)
  have nl2:¬ F l2:=L.fresh L3.bk hl2
  refine q l2 _ rs' js Ns (fun x o e n=>g3 _ _ (aw x o e n)) (fun x xs e=>g3 _ _ (tu _ _ (G2 _ _ e))) (L.same L3.bk g3) gr (Nat.le_trans L3.hi (by omega)) ?_ nl2 upd_same pj oj rn ln
  cases e:H l2 with
  | none=>rfl
  | some o=>rw [aw l2 o e nl2] at hl2; cases hl2
end
end K77
namespace K77
open PySem L2 Sen
section
variable {P:Program} {w:World} {K:PySem.W.Frag} {mg:Str→Option Value} {base:Heap} {a:Ad} {k:Nat}
theorem ok_law_now (T:Txt P w K mg a)  : FnOk P w K mg base CX0 (k + 1) a.a_x_law_now a.d_x_law_now ["order"] (spNowL K):=by
  refine T.F_x_law_now.ok sc_x_law_now (fun vs H Q E h=>?_) (fun cdv A outer s H vs Q E hr h=>?_)
  · obtain ⟨ol,os,rfl,_⟩:=h
    rfl
  obtain ⟨ol,os,rfl,hol,q⟩:=h
  refine ⟨_,(pss_one (ps_ret (pe_lc1 (osc:=defScope S_x_law_now) (js:=[0]) rfl (by show LcOk (defScope S_x_law_now) _ "mark" ["order"]; exact ⟨rfl,by decide +kernel,by decide +kernel,rfl,by decide +kernel,by decide +kernel,by decide +kernel⟩) rfl (pi_str pe_str) (by show ∀ j∈([0]:List Nat),j < 1; decide) (fun cl C s₂ H₂ fp=>(pt_cmpR (op_inK (K:=K) rfl) (pv 0) (pv 1) (by with_unfolding_all rfl))) (fun cl C s₂ H₂ fp=>(pv 0))))),?_⟩
  refine ⟨_,rfl,by decide +kernel,?_⟩
  refine lc_strT (x:=Str.ofString "abcd") (fun i ys H'=>H' = H∧ys = (((prs.take i).filter fun p=>os.contains p.1).map (·.1)).map V.str) ⟨rfl,rfl⟩ (by decide +kernel) ?_ ?_ ?_ (fun _ _ _ _ h ⟨v,e,q⟩=>⟨v,e,h _ _ q⟩) ?_
  · rintro i ys H' ⟨rfl,rfl⟩
    have:=List.length_filter_le (fun p:Str × Str=>os.contains p.1) (prs.take i)
    rw [List.length_take] at this
    rw [List.length_map,List.length_map]
    omega
  · rintro i c ys H' hc ⟨rfl,rfl⟩
    have h4:i < 4:=by
      have:=(Array.getElem?_eq_some_iff.mp hc).1
      have e:(Str.ofString "abcd").cps.size = 4:=by decide +kernel
      omega
    have ec:c = 97 + i:=by
      match i,h4 with
      | 0,_=>exact (Option.some.inj (hc.symm.trans (by decide +kernel)))
      | 1,_=>exact (Option.some.inj (hc.symm.trans (by decide +kernel)))
      | 2,_=>exact (Option.some.inj (hc.symm.trans (by decide +kernel)))
      | 3,_=>exact (Option.some.inj (hc.symm.trans (by decide +kernel)))
    subst ec
    refine ⟨_,rfl,_,rfl,ol,_,rfl,.inl hol,rfl,flat_strs os,_,rfl,?_⟩
    rw [take_next (prs_at h4),List.filter_append]
    show if inV (.str (nowS i)) (os.map V.str) = true then _ else _
    rw [inV_has]
    cases e:os.contains (nowS i) with
    | true =>
      refine iteT ⟨_,rfl,rfl,?_⟩
      rw [List.filter_cons,if_pos (show os.contains (nowS i,latS i).1 = true from e),List.map_append,List.map_append]
      rfl
    | false =>
      refine iteF ⟨rfl,?_⟩
      rw [List.filter_cons,if_neg (by show ¬ os.contains (nowS i) = true; rw [e]; exact Bool.false_ne_true),List.filter_nil,List.append_nil]
  · rintro σ' H' Q1 Q2 hQ ⟨v1,e1,v2,e2,p,xs,z1,z2,z3,z4,z5,z6,z7⟩
    exact ⟨v1,e1,v2,e2,p,xs,z1,z2,z3,z4,z5,z6,hQ _ _ z7⟩
  rintro ys H' l ⟨rfl,rfl⟩ hl
  refine q l _ (Same.new hl _) hl ?_
  rw [upd_same]
  rfl
theorem ok_law_world (T:Txt P w K mg a) (G_x_law_draw:FnOk P w K mg base CX0 k a.a_x_law_draw a.d_x_law_draw ["cell", "k", "bound"] spDraw):FnOk P w K mg base CX0 (k + 1) a.a_x_law_world a.d_x_law_world ["cell"] spWorld:=by
  refine T.F_x_law_world.ok sc_x_law_world (fun vs H Q E h=>?_) (fun cdv A outer s H vs Q E hr h=>?_)
  · obtain ⟨c,rfl,_⟩:=h
    rfl
  obtain ⟨c,rfl,q⟩:=h
  refine cut0 ?_
  refine cutK (fun σ H'=>Same H H'∧∃ (f z:Nat) (f3 f4 f5 f6:Option V),(f,z)∈[(0,1),(0,2),(0,3),(1,1),(1,2),(1,3),(0,4)]∧σ = [some (.int c),some (.int (f:Nat)),some (.int (z:Nat)),f3,f4,f5,f6]) (fun t z=>(pss_cons (ps_set (i:=1) sc_x_law_world.nd rfl (Or.inl rfl) (pe_call G_x_law_draw hr rfl T.m_x_law_draw T.F_x_law_draw.2 T.b_x_law_draw .nil pass0 (pa_cons (pv 0) (pa_cons pe_int (pa_cons pe_int pa_nil)))))
      (pss_cons (ps_set (i:=2) sc_x_law_world.nd rfl (Or.inl rfl) (pe_op op_add pe_int (pe_call G_x_law_draw hr rfl T.m_x_law_draw T.F_x_law_draw.2 T.b_x_law_draw .nil pass0 (pa_cons (pv 0) (pa_cons pe_int (pa_cons pe_int pa_nil))))))
      (pss_cons (ps_if (pt_cmpR op_eq (pe_call G_x_law_draw hr rfl T.m_x_law_draw T.F_x_law_draw.2 T.b_x_law_draw .nil pass0 (pa_cons (pv 0) (pa_cons pe_int (pa_cons pe_int pa_nil)))) pe_int (nomark _)) (pss_one (ps_asg (pe_tup (pa_cons pe_int (pa_cons pe_int pa_nil))) (pg_tup rfl (pgs_cons (pg_name (i:=1) sc_x_law_world.nd rfl (Or.inl rfl)) (pgs_cons (pg_name (i:=2) sc_x_law_world.nd rfl (Or.inl rfl)) pgs_nil))))) pss_nil)
      z)))) ?_ ?_
  · rintro u hu σ H' ⟨rfl,rfl⟩
    refine ⟨_,rfl,c,1,2,rfl,by decide,by decide,by decide,fun r1 a0 a1=>?_⟩
    refine ⟨_,rfl,c,0,3,rfl,by decide,by decide,by decide,fun r2 b0 b1=>⟨1,r2,rfl,rfl,?_⟩⟩
    refine ⟨_,rfl,c,12,8,rfl,by decide,by decide,by decide,fun r3 d0 d1=>⟨rfl,_,rfl,ite2 (fun _=>?_) (fun _=>?_)⟩⟩
    · refine ⟨by show 2≤sizeLine; decide,fun t ht=>⟨t,_,rfl,SqT.of upd_same,rfl,_,_,rfl,_,_,rfl,rfl,?_⟩⟩
      exact hu _ _ ⟨Same.new ht _,0,4,_,_,_,_,by decide,rfl⟩
    · obtain ⟨f,rfl⟩:∃ f:Nat,r1 = (f:Int):=⟨r1.toNat,by omega⟩
      obtain ⟨z,rfl⟩:∃ z:Nat,r2 = (z:Int):=⟨r2.toNat,by omega⟩
      refine hu _ _ ⟨Same.refl _,f,1 + z,none,none,none,none,?_,?_⟩
      · have f2:f = 0∨f = 1:=by omega
        have z3:z = 0∨z = 1∨z = 2:=by omega
        rcases f2 with rfl | rfl <;> rcases z3 with rfl | rfl | rfl <;> decide
      · show [some (V.int c),some (V.int (f:Nat)),some (V.int (1 + (z:Int))),none,none,none,none] = _
        rw [show (1 + (z:Int)) = ((1 + z:Nat):Int) by omega]
  refine cutK (fun σ H'=>Same H H'∧∃ (is:List Nat) (v1 v2:Option V) (f4 f5 f6:Option V),is.Nodup∧(∀ i∈is,i < 4)∧is≠[]∧is.length≤4∧σ = [some (.int c),v1,v2,some (.str (nmS is)),f4,f5,f6]) (fun t z=>(pss_cons (ps_set (i:=3) sc_x_law_world.nd rfl (Or.inl rfl) (pe_slice sl_str pe_str (po_some (pv 1)) (po_some (pe_op op_add (pv 1) (pv 2)))))
      (pss_cons (ps_if (PW.pt (pw_and (pt_cmpR op_eq (pv 2) pe_int (nomark _)) (pw_and1 (pt_cmpR op_eq (pe_call G_x_law_draw hr rfl T.m_x_law_draw T.F_x_law_draw.2 T.b_x_law_draw .nil pass0 (pa_cons (pv 0) (pa_cons pe_int (pa_cons pe_int pa_nil)))) pe_int (nomark _))))) (pss_one (ps_set (i:=3) sc_x_law_world.nd rfl (Or.inl rfl) (pe_op op_add_str (pe_ix ix_str (pv 3) pe_int (fun _ _=>rfl)) (pe_ix ix_str (pv 3) pe_int (fun _ _=>rfl))))) pss_nil)
      z))) ?_ ?_
  · rintro u hu σ H' ⟨g,f,z,f3,f4,f5,f6,hfz,rfl⟩
    have sl:Txt.slice (Str.ofString "abcd") (some ((f:Nat):Int)) (some (((f:Nat):Int) + ((z:Nat):Int))) = nmS (List.range' f z):=by
      simp only [List.mem_cons,Prod.mk.injEq,List.not_mem_nil,or_false] at hfz
      rcases hfz with ⟨rfl,rfl⟩ | ⟨rfl,rfl⟩ | ⟨rfl,rfl⟩ | ⟨rfl,rfl⟩ | ⟨rfl,rfl⟩ | ⟨rfl,rfl⟩ | ⟨rfl,rfl⟩ <;> decide +kernel
    have fz:0 < z∧f + z≤4∧(z = 3→f = 0∨f = 1):=by
      simp only [List.mem_cons,Prod.mk.injEq,List.not_mem_nil,or_false] at hfz
      omega
    refine ⟨_,rfl,_,rfl,_,rfl,_,rfl,_,_,rfl,rfl,_,rfl,_,rfl,by show (Str.ofString "abcd").length≤sizeLine; decide,?_⟩
    rw [sl]
    have nd:(List.range' f z).Nodup:=List.nodup_range'
    have l4:∀ i∈List.range' f z,i < 4:=fun i hi=>by have:=List.mem_range'_1.mp hi; omega
    have ne:List.range' f z≠[]:=fun e=>by have:=congrArg List.length e; rw [List.length_range'] at this; have:z = 0:=this; omega
    have go:u _ [some (.int c),some (.int (f:Nat)),some (.int (z:Nat)),some (.str (nmS (List.range' f z))),f4,f5,f6] H':=hu _ _ ⟨g,List.range' f z,_,_,_,_,_,nd,l4,ne,by rw [List.length_range']; omega,rfl⟩
    refine ⟨_,rfl,rfl,_,rfl,ite2 (fun c3=>?_) (fun _=>iteF go)⟩
    have z3:z = 3:=by
      have:=of_decide_eq_true c3
      injection this
      omega
    subst z3
    refine ⟨_,rfl,c,14,3,rfl,by decide,by decide,by decide,fun r4 _ _=>⟨rfl,_,rfl,ite2 (fun _=>?_) (fun _=>go)⟩⟩
    have e3:List.range' f 3 = [f,f + 1,f + 2]:=rfl
    rw [e3]
    refine ⟨_,rfl,_,_,_,rfl,rfl,by rw [nmS_len]; show 3≤sizeLine; decide,nmS_at (k:=0) rfl,_,rfl,_,_,_,rfl,rfl,by rw [nmS_len]; show 3≤sizeLine; decide,nmS_at (k:=2) rfl,_,_,rfl,rfl,by show 2≤sizeLine; decide,?_⟩
    refine hu _ _ ⟨g,[f,f + 2],some (.int (f:Nat)),some (.int (3:Nat)),f4,f5,f6,?_,?_,List.cons_ne_nil _ _,by show 2≤4; decide,?_⟩
    · rw [List.nodup_cons]; exact ⟨fun h=>by have:=List.mem_singleton.mp h; omega,by rw [List.nodup_cons]; exact ⟨List.not_mem_nil,List.nodup_nil⟩⟩
    · intro i hi
      rcases List.mem_cons.mp hi with z | z
      · omega
      · have:=List.mem_singleton.mp z; omega
    · have f01:=fz.2.2 rfl
      rcases f01 with rfl | rfl <;> rfl
  refine ⟨_,(pss_cons (ps_set (i:=4) sc_x_law_world.nd rfl (Or.inl rfl) (pe_lst pa_nil))
      (pss_cons (ps_for PassesOwn.never rfl (pi_range1 rfl T.n_range (pa_cons (pe_callB call_len_str rfl T.n_len bt_len (pa_cons (pv 3) pa_nil)) pa_nil)) (pg_name (i:=5) sc_x_law_world.nd rfl (Or.inl rfl)) (pss_cons (ps_set (i:=6) sc_x_law_world.nd rfl (Or.inl rfl) (pe_ix ix_str pe_str (pe_bm PySem.F.plainAttrs_str PySem.F.slot_str_index PySem.F.type_str_index mt_sIndex pe_str (pa_cons (pe_ix ix_str (pv 3) (pv 5) (fun _ _=>rfl)) pa_nil)) (fun _ _=>rfl)))
      (pss_cons (ps_expr (pe_bm PySem.F.plainAttrs_list PySem.F.slot_list_insert PySem.F.type_list_insert mt_insert (pv 4) (pa_cons (pe_op op_mod (pe_call G_x_law_draw hr rfl T.m_x_law_draw T.F_x_law_draw.2 T.b_x_law_draw .nil pass0 (pa_cons (pv 0) (pa_cons (pe_op op_add pe_int (pe_op op_mul pe_int (pv 5))) (pa_cons pe_int pa_nil)))) (pe_op op_add (pe_callB call_len_seq rfl T.n_len bt_len (pa_cons (pv 4) pa_nil)) pe_int)) (pa_cons (pe_ix ix_str (pv 3) (pv 5) (fun _ _=>rfl)) pa_nil))))
      (pss_one (ps_expr (pe_bm PySem.F.plainAttrs_list PySem.F.slot_list_insert PySem.F.type_list_insert mt_insert (pv 4) (pa_cons (pe_op op_mod (pe_call G_x_law_draw hr rfl T.m_x_law_draw T.F_x_law_draw.2 T.b_x_law_draw .nil pass0 (pa_cons (pv 0) (pa_cons (pe_op op_add pe_int (pe_op op_mul pe_int (pv 5))) (pa_cons pe_int pa_nil)))) (pe_op op_add (pe_callB call_len_seq rfl T.n_len bt_len (pa_cons (pv 4) pa_nil)) pe_int)) (pa_cons (pv 6) pa_nil))))))))
      (pss_one (ps_ret (pv 4))))),?_⟩
  rintro σ H' ⟨g0,is,v1,v2,f4,f5,f6,nd,l4,ne,len,rfl⟩
  refine ⟨by show 0≤sizeLine; decide,fun l hl=>?_⟩
  have fl:H l = none:=g0.free hl
  refine ⟨_,rfl,_,rfl,by rw [nmS_len]; exact Nat.le_of_lt (small1000 (by omega)),_,rfl,?_⟩
  rw [nmS_len]
  refine ⟨by omega,by omega,?_⟩
  rw [Int.toNat_natCast]
  refine for_range (fun i σ H'=>Same H H'∧∃ (os:List Str) (f5 f6:Option V),H' l = some (.lst (os.map V.str))∧Mks (is.take i) os∧os.length = 2 * i∧σ = [some (.int c),v1,v2,some (.str (nmS is)),some (.ref l),f5,f6]) ⟨g0.trans (Same.new hl _),[],_,_,upd_same,⟨List.nodup_nil,fun x=>⟨(fun h=>by cases h),(fun ⟨i,h,_⟩=>by cases h)⟩⟩,rfl,rfl⟩ ?_ ?_
  · rintro i σ H' hi ⟨g,os,f5,f6,hl',mk,lo,rfl⟩
    obtain ⟨j,hj⟩:∃ j,is[i]? = some j:=⟨_,List.getElem?_eq_getElem hi⟩
    have j4:=l4 j (List.mem_of_getElem? hj)
    obtain ⟨rest,hx⟩:=abcd_index j4
    have t4:∀ i'∈is.take i,i' < 4:=fun i' h=>l4 i' (List.mem_of_mem_take h)
    have jn:j ∉ is.take i:=fun h=>by
      have e:=nd
      rw [← List.take_append_drop i is] at e
      have z:=(List.nodup_append.mp e).2.2 j h j (by
        rw [List.drop_eq_getElem_cons hi]
        have:is[i] = j:=(List.getElem?_eq_some_iff.mp hj).2
        rw [this]; exact List.mem_cons_self)
      exact z rfl
    have e2:(0:Int) + (i:Nat) = ((i:Nat):Int):=by omega
    have nam:atI (nmS is).cps.toList ((i:Nat):Int) = some (97 + j):=nmS_at hj
    have nml:(nmS is).length≤sizeLine:=by rw [nmS_len]; exact Nat.le_of_lt (small1000 (by omega))
    refine ⟨rfl,_,rfl,_,rfl,_,_,_,rfl,congrArg V.int e2,nml,nam,_,_,j,rest,rfl,rfl,hx,_,_,_,rfl,rfl,by show (Str.ofString "efgh").length≤sizeLine; decide,efgh_at j4,?_⟩
    have k1:nowS j ∉ os:=fun h=>jn ((mk.has t4 j4).1.mp h)
    have k2:latS j ∉ os:=fun h=>jn ((mk.has t4 j4).2.mp h)
    have lmap:(os.map V.str).length = os.length:=List.length_map _
    refine ⟨_,rfl,.inl ⟨rfl,_,SqL.of hl'⟩,?_⟩
    refine ⟨_,rfl,_,rfl,2,_,rfl,rfl,.inl ⟨by decide,by decide⟩,2,_,rfl,rfl,c,2 + 2 * i,5040,?_,by omega,by decide,by decide,fun r1 a0 a1=>?_⟩
    · show [V.int c,V.int (2 + 2 * (0 + (i:Int))),V.int 5040] = [V.int c,V.int ((2 + 2 * i:Nat):Int),V.int 5040]
      rw [show (2 + 2 * (0 + (i:Int))) = ((2 + 2 * i:Nat):Int) by omega]
    refine ⟨_,rfl,l,_,rfl,.inl (SqL.of hl'),_,1,rfl,rfl,r1,_,rfl,rfl,by show (0:Int) < ((os.map V.str).length:Int) + 1; omega,?_⟩
    refine ⟨_,rfl,_,rfl,_,_,_,rfl,congrArg V.int e2,nml,nam,?_⟩
    have m0:0≤r1 % (((os.map V.str).length:Int) + 1):=Int.emod_nonneg _ (by omega)
    have m1:r1 % (((os.map V.str).length:Int) + 1) < ((os.map V.str).length:Int) + 1:=Int.emod_lt_of_pos _ (by omega)
    generalize hj1:r1 % (((os.map V.str).length:Int) + 1) = j1 at m0 m1
    refine ⟨l,os.map V.str,j1,_,rfl,by rw [← hj1],hl',m0,by omega,by rw [lmap]; exact small1000 (by omega),?_⟩
    have G1:Same H (upd H' l (.lst ((os.map V.str).take j1.toNat ++ V.str (⟨#[97 + j]⟩:Str) :: (os.map V.str).drop j1.toNat))):=g.over fl _
    have E1:upd H' l (.lst ((os.map V.str).take j1.toNat ++ V.str (⟨#[97 + j]⟩:Str) :: (os.map V.str).drop j1.toNat)) l = some (.lst ((os.take j1.toNat ++ nowS j :: os.drop j1.toNat).map V.str)):=by
      rw [upd_same]; simp; rfl
    have n1:(os.take j1.toNat ++ nowS j :: os.drop j1.toNat).Nodup:=nodup_mid mk.1 k1
    have l1:(os.take j1.toNat ++ nowS j :: os.drop j1.toNat).length = os.length + 1:=len_mid
    have x1:∀ x,x∈os.take j1.toNat ++ nowS j :: os.drop j1.toNat↔x = nowS j∨x∈os:=fun x=>mem_mid
    generalize upd H' l (.lst ((os.map V.str).take j1.toNat ++ V.str (⟨#[97 + j]⟩:Str) :: (os.map V.str).drop j1.toNat)) = H1 at G1 E1
    generalize os.take j1.toNat ++ nowS j :: os.drop j1.toNat = o1 at E1 n1 l1 x1
    have lm1:(o1.map V.str).length = o1.length:=List.length_map _
    refine ⟨_,rfl,.inl ⟨rfl,_,SqL.of E1⟩,?_⟩
    refine ⟨_,rfl,_,rfl,2,_,rfl,rfl,.inl ⟨by decide,by decide⟩,3,_,rfl,rfl,c,3 + 2 * i,5040,?_,by omega,by decide,by decide,fun r2 b0 b1=>?_⟩
    · show [V.int c,V.int (3 + 2 * (0 + (i:Int))),V.int 5040] = [V.int c,V.int ((3 + 2 * i:Nat):Int),V.int 5040]
      rw [show (3 + 2 * (0 + (i:Int))) = ((3 + 2 * i:Nat):Int) by omega]
    refine ⟨_,rfl,l,_,rfl,.inl (SqL.of E1),_,1,rfl,rfl,r2,_,rfl,rfl,by show (0:Int) < ((o1.map V.str).length:Int) + 1; omega,_,rfl,?_⟩
    have m2:0≤r2 % (((o1.map V.str).length:Int) + 1):=Int.emod_nonneg _ (by omega)
    have m3:r2 % (((o1.map V.str).length:Int) + 1) < ((o1.map V.str).length:Int) + 1:=Int.emod_lt_of_pos _ (by omega)
    generalize hj2:r2 % (((o1.map V.str).length:Int) + 1) = j2 at m2 m3
    refine ⟨l,o1.map V.str,j2,_,rfl,by rw [← hj2],E1,m2,by omega,by rw [lm1]; exact small1000 (by omega),?_⟩
    refine ⟨G1.over fl _,o1.take j2.toNat ++ latS j :: o1.drop j2.toNat,_,_,?_,⟨?_,fun x=>?_⟩,?_,rfl⟩
    · rw [upd_same]; simp; rfl
    · exact nodup_mid n1 fun h=>((x1 _).mp h).elim (fun e=>now_ne_lat j4 e.symm) k2
    · rw [mem_mid,x1,mk.2,take_next hj]
      constructor
      · rintro (e | e | ⟨i',hi',e⟩)
        · exact ⟨j,List.mem_append_right _ (List.mem_singleton.mpr rfl),.inr e⟩
        · exact ⟨j,List.mem_append_right _ (List.mem_singleton.mpr rfl),.inl e⟩
        · exact ⟨i',List.mem_append_left _ hi',e⟩
      · rintro ⟨i',hi',e⟩
        rcases List.mem_append.mp hi' with z | z
        · exact .inr (.inr ⟨i',z,e⟩)
        · rw [List.mem_singleton.mp z] at e
          rcases e with e | e
          · exact .inr (.inl e)
          · exact .inl e
    · rw [len_mid,l1]; omega
  · rintro σ H' ⟨g,os,f5,f6,hl',mk,lo,rfl⟩
    rw [List.take_length] at mk
    obtain ⟨w1,w2,w3⟩:=mk.world l4 ne
    exact ⟨_,rfl,q l H' os g hl' w1 w2 w3⟩
end
end K77
namespace K77
open PySem L2 Sen
section
variable {P:Program} {w:World} {K:PySem.W.Frag} {mg:Str→Option Value} {base:Heap} {a:Ad} {k:Nat}
theorem ok_law_counting (T:Txt P w K mg a) (G_x_law_now:FnOk P w K mg base CX0 k a.a_x_law_now a.d_x_law_now ["order"] (spNowL K)):FnOk P w K mg base CX0 (k + 1) a.a_x_law_counting a.d_x_law_counting ["order"] (spCounting K):=by
  refine T.F_x_law_counting.ok sc_x_law_counting (fun vs H Q E h=>?_) (fun cdv A outer s H vs Q E hr h=>?_)
  · obtain ⟨ol,os,rfl,_⟩:=h
    rfl
  obtain ⟨ol,os,rfl,hol,hW,q⟩:=h
  refine ⟨_,(pss_cons (ps_set (i:=1) sc_x_law_counting.nd rfl (Or.inl rfl) (pe_tup (pa_cons pe_str pa_nil)))
      (pss_cons (ps_set (i:=2) sc_x_law_counting.nd rfl (Or.inl rfl) (pe_tup (pa_cons pe_str pa_nil)))
      (pss_cons (ps_for PassesOwn.never rfl (pi_list (pe_call G_x_law_now hr rfl T.m_x_law_now T.F_x_law_now.2 T.b_x_law_now .nil pass0 (pa_cons (pv 0) pa_nil))) (pg_name (i:=3) sc_x_law_counting.nd rfl (Or.inl rfl)) (pss_cons (ps_set (i:=4) sc_x_law_counting.nd rfl (Or.inl rfl) (pe_tup (pa_cons pe_str (pa_cons (pe_ix ix_str pe_str (pe_bm PySem.F.plainAttrs_str PySem.F.slot_str_index PySem.F.type_str_index mt_sIndex pe_str (pa_cons (pv 3) pa_nil)) (fun _ _=>rfl)) pa_nil))))
      (pss_cons (ps_set (i:=2) sc_x_law_counting.nd rfl (Or.inl rfl) (pe_tup (pa_cons pe_str (pa_cons (pv 2) (pa_cons (pe_tup (pa_cons pe_str (pa_cons (pe_tup (pa_cons pe_str (pa_cons (pv 4) (pa_cons (pe_tup (pa_cons pe_str (pa_cons (pe_tup (pa_cons pe_str (pa_cons (pv 3) pa_nil))) (pa_cons (pv 1) pa_nil)))) pa_nil)))) pa_nil))) pa_nil)))))
      (pss_one (ps_set (i:=1) sc_x_law_counting.nd rfl (Or.inl rfl) (pe_tup (pa_cons pe_str (pa_cons (pv 1) (pa_cons (pe_tup (pa_cons pe_str (pa_cons (pv 3) pa_nil))) pa_nil)))))))))
      (pss_one (ps_ret (pv 2)))))),?_⟩
  refine ⟨by show 1≤sizeLine; decide,fun p1 hp1=>?_⟩
  have g1:=Same.new hp1 (.tup [.str "yes"])
  have i1:IsS (upd H p1 (.tup [.str "yes"])) (.c0 true) p1:=upd_same
  generalize upd H p1 (.tup [.str "yes"]) = H1 at g1 i1
  refine ⟨by show 1≤sizeLine; decide,fun p2 hp2=>?_⟩
  have g2:=Same.new hp2 (.tup [.str "yes"])
  have i2:IsS (upd H1 p2 (.tup [.str "yes"])) (.c0 true) p2:=upd_same
  have i1:=i1.mono (Tups.of g2)
  generalize upd H1 p2 (.tup [.str "yes"]) = H2 at g2 i1 i2
  have g12:=g1.trans g2
  refine ⟨_,rfl,ol,os,rfl,g12.seq hol,fun nl H3 g3 _ hnl=>?_⟩
  have g13:=g12.trans g3
  have n4:=nowM_len os
  refine ⟨nl,rfl,⟨_,SqL.of hnl⟩,?_⟩
  refine for_list (xs:=(nowM os).map V.str) (fun i σ H'=>Same H3 H'∧∃ (pc pf:Addr) (sc sf:Sn) (f3 f4:Option V),IsS H' sc pc∧IsS H' sf pf∧sc.inO os∧sf.inO os∧sc.depth≤1 + i∧sf.depth≤4 + i∧sc.count≤1 + 2 * i∧sf.count≤1 + 15 * i∧σ = [some (.ref ol),some (.ref pc),some (.ref pf),f3,f4]) ⟨Same.refl _,p1,p2,.c0 true,.c0 true,_,_,i1.mono (Tups.of g3),i2.mono (Tups.of g3),trivial,trivial,by decide,by decide,by decide,by decide,rfl⟩ (fun i σ H' _ ⟨g,_⟩=>SqL.of (g _ _ hnl)) ?_ ?_
  · rintro i x σ H' hx ⟨g,pc,pf,sc,sf,f3,f4,ic,if_,oc,of_,dc,df,cc,cf,rfl⟩
    rw [List.getElem?_map] at hx
    cases hm:(nowM os)[i]? with
    | none=>rw [hm] at hx; cases hx
    | some y =>
      rw [hm] at hx
      cases hx
      have hi:=(List.getElem?_eq_some_iff.mp hm).1
      obtain ⟨yo,j,j4,rfl⟩:=nowM_sub (List.mem_of_getElem? hm)
      have lo:latS j∈os:=by
        have z:=hW (nowS j,latS j) (List.mem_of_getElem? (prs_at j4))
        rw [contains_iff,contains_iff] at z
        exact of_decide_eq_true (z.symm.trans (decide_eq_true yo))
      obtain ⟨rest,hx⟩:=abcd_index j4
      refine ⟨rfl,_,rfl,_,_,j,rest,rfl,rfl,hx,_,_,_,rfl,rfl,by show (Str.ofString "efgh").length≤sizeLine; decide,efgh_at j4,by show 2≤sizeLine; decide,fun q1 hq1=>?_⟩
      have h1:=Same.new hq1 (.tup [.str "mark", .str (latS j)])
      have e1:IsS (upd H' q1 (.tup [.str "mark", .str (latS j)])) (.mk (latS j)) q1:=upd_same
      refine ⟨_,rfl,_,rfl,_,rfl,by show 2≤sizeLine; decide,fun q2 hq2=>?_⟩
      have h2:=Same.new hq2 (.tup [.str "mark", .str (nowS j)])
      refine ⟨_,rfl,by show 3≤sizeLine; decide,fun q3 hq3=>⟨by show 3≤sizeLine; decide,fun q4 hq4=>⟨by show 2≤sizeLine; decide,fun q5 hq5=>⟨by show 3≤sizeLine; decide,fun q6 hq6=>?_⟩⟩⟩⟩
      have h3:=Same.new hq3 (.tup [.str "either", .ref q2,.ref pc])
      have h4:=Same.new hq4 (.tup [.str "either", .ref q1,.ref q3])
      have h5:=Same.new hq5 (.tup [.str "not", .ref q4])
      have h6:=Same.new hq6 (.tup [.str "and", .ref pf,.ref q5])
      have h36:=h3.trans (h4.trans (h5.trans h6))
      have h16:=h1.trans (h2.trans h36)
      refine ⟨_,rfl,_,rfl,by show 2≤sizeLine; decide,fun q7 hq7=>⟨by show 3≤sizeLine; decide,fun q8 hq8=>?_⟩⟩
      have h7:=Same.new hq7 (.tup [.str "mark", .str (nowS j)])
      have h8:=Same.new hq8 (.tup [.str "and", .ref pc,.ref q7])
      have h78:=h7.trans h8
      have h18:=h16.trans h78
      refine ⟨g.trans h18,q8,q6,.b2 0 sc (.mk (nowS j)),.b2 0 sf (.nt (.b2 2 (.mk (latS j)) (.b2 2 (.mk (nowS j)) sc))),_,_,⟨pc,q7,upd_same,ic.mono (Tups.of h18),h8 _ _ upd_same⟩,⟨pf,q5,h78 _ _ upd_same,if_.mono (Tups.of h18),q4,h78 _ _ (h6 _ _ upd_same),q1,q3,h78 _ _ (h6 _ _ (h5 _ _ upd_same)),h78 _ _ (h36 _ _ (h2 _ _ upd_same)),q2,pc,h78 _ _ (h6 _ _ (h5 _ _ (h4 _ _ upd_same))),h78 _ _ (h36 _ _ upd_same),ic.mono (Tups.of h18)⟩,⟨oc,yo⟩,⟨of_,lo,yo,oc⟩,?_,?_,?_,?_,rfl⟩
      · show 1 + max sc.depth 1≤_; omega
      · show 1 + max sf.depth (1 + (1 + max 1 (1 + max 1 sc.depth)))≤_; omega
      · show 1 + (sc.count + 1)≤_; omega
      · show 1 + (sf.count + (1 + (1 + (1 + (1 + (1 + sc.count))))))≤_; omega
  · rintro σ H' ⟨g,pc,pf,sc,sf,f3,f4,ic,if_,oc,of_,dc,df,cc,cf,rfl⟩
    have el:((nowM os).map V.str).length≤4:=by rw [List.length_map]; exact n4
    exact ⟨_,rfl,q pf H' sf (g13.trans g) ⟨if_,of_,by omega,by omega⟩⟩
theorem ok_law_single (T:Txt P w K mg a) (G_x_law_draw:FnOk P w K mg base CX0 k a.a_x_law_draw a.d_x_law_draw ["cell", "k", "bound"] spDraw) (G_x_law_now:FnOk P w K mg base CX0 k a.a_x_law_now a.d_x_law_now ["order"] (spNowL K)):FnOk P w K mg base CX0 (k + 1) a.a_x_law_single a.d_x_law_single ["order", "cell"] (spSingle K):=by
  refine T.F_x_law_single.ok sc_x_law_single (fun vs H Q E h=>?_) (fun cdv A outer s H vs Q E hr h=>?_)
  · obtain ⟨ol,os,c,rfl,_⟩:=h
    rfl
  obtain ⟨ol,os,c,rfl,hol,q⟩:=h
  refine ⟨_,(pss_cons (ps_set (i:=2) sc_x_law_single.nd rfl (Or.inl rfl) (pe_tup (pa_cons pe_str pa_nil)))
      (pss_cons (ps_set (i:=3) sc_x_law_single.nd rfl (Or.inl rfl) (pe_call G_x_law_now hr rfl T.m_x_law_now T.F_x_law_now.2 T.b_x_law_now .nil pass0 (pa_cons (pv 0) pa_nil)))
      (pss_cons (ps_for PassesOwn.never rfl (pi_range1 rfl T.n_range (pa_cons (pe_callB call_len_seq rfl T.n_len bt_len (pa_cons (pv 3) pa_nil)) pa_nil)) (pg_name (i:=4) sc_x_law_single.nd rfl (Or.inl rfl)) (pss_cons (ps_set (i:=5) sc_x_law_single.nd rfl (Or.inl rfl) (pe_tup (pa_cons pe_str (pa_cons (pe_ix ix_list (pv 3) (pv 4) (fun _ _=>rfl)) pa_nil))))
      (pss_one (ps_set (i:=2) sc_x_law_single.nd rfl (Or.inl rfl) (pe_tup (pa_cons pe_str (pa_cons (pv 2) (pa_cons (pe_ix ix_list (pe_lst (pa_cons (pv 5) (pa_cons (pe_tup (pa_cons pe_str (pa_cons (pv 5) pa_nil))) pa_nil))) (pe_call G_x_law_draw hr rfl T.m_x_law_draw T.F_x_law_draw.2 T.b_x_law_draw .nil pass0 (pa_cons (pv 1) (pa_cons (pe_op op_add pe_int (pv 4)) (pa_cons pe_int pa_nil)))) (fun _ _=>rfl)) pa_nil))))))))
      (pss_one (ps_ret (pe_ix ix_list (pe_lst (pa_cons (pv 2) (pa_cons (pe_tup (pa_cons pe_str (pa_cons (pv 2) pa_nil))) pa_nil))) (pe_call G_x_law_draw hr rfl T.m_x_law_draw T.F_x_law_draw.2 T.b_x_law_draw .nil pass0 (pa_cons (pv 1) (pa_cons pe_int (pa_cons pe_int pa_nil)))) (fun _ _=>rfl))))))),?_⟩
  refine ⟨by show 1≤sizeLine; decide,fun p1 hp1=>?_⟩
  have g1:=Same.new hp1 (.tup [.str "yes"])
  have i1:IsS (upd H p1 (.tup [.str "yes"])) (.c0 true) p1:=upd_same
  generalize upd H p1 (.tup [.str "yes"]) = H1 at g1 i1
  refine ⟨_,rfl,ol,os,rfl,g1.seq hol,fun nl H3 g3 _ hnl=>?_⟩
  have g13:=g1.trans g3
  have n4:=nowM_len os
  have lnm:((nowM os).map V.str).length = (nowM os).length:=List.length_map _
  refine ⟨_,rfl,nl,_,rfl,.inl (SqL.of hnl),_,rfl,by omega,by omega,?_⟩
  rw [Int.toNat_natCast,lnm]
  refine for_range (fun i σ H'=>Same H3 H'∧∃ (pf:Addr) (sf:Sn) (f4 f5:Option V),IsS H' sf pf∧sf.inO (nowM os)∧sf.depth≤2 + i∧sf.count≤1 + 3 * i∧σ = [some (.ref ol),some (.int c),some (.ref pf),some (.ref nl),f4,f5]) ⟨Same.refl _,p1,.c0 true,_,_,i1.mono (Tups.of g3),trivial,by decide,by decide,rfl⟩ ?_ ?_
  · rintro i σ H' hi ⟨g,pf,sf,f4,f5,if_,of_,df,cf,rfl⟩
    obtain ⟨y,hm⟩:∃ y,(nowM os)[i]? = some y:=⟨_,List.getElem?_eq_getElem hi⟩
    have e2:(0:Int) + (i:Nat) = ((i:Nat):Int):=by omega
    refine ⟨_,rfl,_,rfl,nl,_,_,_,rfl,congrArg V.int e2,SqL.of (g _ _ hnl),atI_nat (by rw [List.getElem?_map,hm]; rfl),by show 2≤sizeLine; decide,fun q1 hq1=>?_⟩
    have h1:=Same.new hq1 (.tup [.str "mark", .str y])
    refine ⟨_,rfl,_,rfl,_,rfl,by show 2≤sizeLine; decide,fun q2 hq2=>⟨by show 2≤sizeLine; decide,fun ll hll=>?_⟩⟩
    have h2:=Same.new hq2 (.tup [.str "not", .ref q1])
    have h3:=Same.new hll (.lst [.ref q1,.ref q2])
    refine ⟨_,rfl,_,rfl,20,_,rfl,rfl,c,20 + i,2,?_,by omega,by decide,by decide,fun r r0 r1=>?_⟩
    · show [V.int c,V.int (20 + (0 + (i:Int))),V.int 2] = [V.int c,V.int ((20 + i:Nat):Int),V.int 2]
      rw [show (20 + (0 + (i:Int))) = ((20 + i:Nat):Int) by omega]
    have h13:=h1.trans (h2.trans h3)
    have pick:∃ (qq:Addr) (ss:Sn),atI [V.ref q1,V.ref q2] r = some (.ref qq)∧IsS (upd (upd (upd H' q1 (.tup [.str "mark", .str y])) q2 (.tup [.str "not", .ref q1])) ll (.lst [.ref q1,.ref q2])) ss qq∧ss.inO (nowM os)∧ss.depth≤2∧ss.count≤2:=by
      rcases (by omega:r = 0∨r = 1) with rfl | rfl
      · exact ⟨q1,.mk y,at0,h3 _ _ (h2 _ _ upd_same),List.mem_of_getElem? hm,by show 1≤2; decide,by show 1≤2; decide⟩
      · exact ⟨q2,.nt (.mk y),at1,⟨q1,h3 _ _ upd_same,h3 _ _ (h2 _ _ upd_same)⟩,List.mem_of_getElem? hm,by show 1 + 1≤2; decide,by show 1 + 1≤2; decide⟩
    obtain ⟨qq,ss,ea,is_,os_,ds,cs⟩:=pick
    refine ⟨ll,_,_,_,rfl,rfl,SqL.of upd_same,ea,by show 3≤sizeLine; decide,fun q3 hq3=>?_⟩
    have h4:=Same.new hq3 (.tup [.str "and", .ref pf,.ref qq])
    refine ⟨g.trans (h13.trans h4),q3,.b2 0 sf ss,_,_,⟨pf,qq,upd_same,if_.mono (Tups.of (h13.trans h4)),is_.mono (Tups.of h4)⟩,⟨of_,os_⟩,?_,?_,rfl⟩
    · show 1 + max sf.depth ss.depth≤_; omega
    · show 1 + (sf.count + ss.count)≤_; omega
  · rintro σ H' ⟨g,pf,sf,f4,f5,if_,of_,df,cf,rfl⟩
    refine ⟨_,rfl,_,rfl,by show 2≤sizeLine; decide,fun q2 hq2=>⟨by show 2≤sizeLine; decide,fun ll hll=>?_⟩⟩
    have h2:=Same.new hq2 (.tup [.str "not", .ref pf])
    have h3:=Same.new hll (.lst [.ref pf,.ref q2])
    refine ⟨_,rfl,c,25,2,rfl,by decide,by decide,by decide,fun r r0 r1=>?_⟩
    rcases (by omega:r = 0∨r = 1) with rfl | rfl
    · refine ⟨ll,_,_,_,rfl,rfl,SqL.of upd_same,at0,?_⟩
      exact q pf _ sf (g13.trans (g.trans (h2.trans h3))) ⟨if_.mono (Tups.of (h2.trans h3)),of_,by omega,by omega⟩
    · refine ⟨ll,_,_,_,rfl,rfl,SqL.of upd_same,at1,?_⟩
      exact q q2 _ (.nt sf) (g13.trans (g.trans (h2.trans h3))) ⟨⟨pf,h3 _ _ upd_same,if_.mono (Tups.of (h2.trans h3))⟩,of_,by show 1 + sf.count≤_; omega,by show 1 + sf.depth≤_; omega⟩
theorem ok_law_both (T:Txt P w K mg a) (G_x_law_cell_at:FnOk P w K mg base CX0 k a.a_x_law_cell_at a.d_x_law_cell_at ["script", "k"] (spCellF K)) (G_x_law_draw:FnOk P w K mg base CX0 k a.a_x_law_draw a.d_x_law_draw ["cell", "k", "bound"] spDraw) (G_x_law_sentence:FnOk P w K mg base CX0 k a.a_x_law_sentence a.d_x_law_sentence ["script", "at", "many", "order"] (spSentence K)) (G_x_law_world:FnOk P w K mg base CX0 k a.a_x_law_world a.d_x_law_world ["cell"] spWorld) (G_x_law_counting:FnOk P w K mg base CX0 k a.a_x_law_counting a.d_x_law_counting ["order"] (spCounting K)):FnOk P w K mg base CX0 (k + 1) a.a_x_law_both a.d_x_law_both ["script"] (spBoth K):=by
  refine T.F_x_law_both.ok sc_x_law_both (fun vs H Q E h=>?_) (fun cdv A outer s H vs Q E hr h=>?_)
  · obtain ⟨sc,ns,rfl,_⟩:=h
    rfl
  obtain ⟨sc,ns,rfl,hS,q⟩:=h
  refine ⟨_,(pss_cons (ps_set (i:=1) sc_x_law_both.nd rfl (Or.inl rfl) (pe_call G_x_law_world hr rfl T.m_x_law_world T.F_x_law_world.2 T.b_x_law_world .nil pass0 (pa_cons (pe_call G_x_law_cell_at hr rfl T.m_x_law_cell_at T.F_x_law_cell_at.2 T.b_x_law_cell_at .nil pass0 (pa_cons (pv 0) (pa_cons pe_int pa_nil))) pa_nil)))
      (pss_cons (ps_set (i:=2) sc_x_law_both.nd rfl (Or.inl rfl) (pe_call G_x_law_sentence hr rfl T.m_x_law_sentence T.F_x_law_sentence.2 T.b_x_law_sentence .nil pass0 (pa_cons (pv 0) (pa_cons pe_int (pa_cons (pe_op op_add pe_int (pe_op op_mod (pe_call G_x_law_cell_at hr rfl T.m_x_law_cell_at T.F_x_law_cell_at.2 T.b_x_law_cell_at .nil pass0 (pa_cons (pv 0) (pa_cons pe_int pa_nil))) pe_int)) (pa_cons (pv 1) pa_nil))))))
      (pss_cons (ps_if (pt_cmpR op_eq (pe_call G_x_law_draw hr rfl T.m_x_law_draw T.F_x_law_draw.2 T.b_x_law_draw .nil pass0 (pa_cons (pe_call G_x_law_cell_at hr rfl T.m_x_law_cell_at T.F_x_law_cell_at.2 T.b_x_law_cell_at .nil pass0 (pa_cons (pv 0) (pa_cons pe_int pa_nil))) (pa_cons pe_int (pa_cons pe_int pa_nil)))) pe_int (nomark _)) (pss_one (ps_set (i:=2) sc_x_law_both.nd rfl (Or.inl rfl) (pe_call G_x_law_counting hr rfl T.m_x_law_counting T.F_x_law_counting.2 T.b_x_law_counting .nil pass0 (pa_cons (pv 1) pa_nil)))) pss_nil)
      (pss_one (ps_ret (pe_tup (pa_cons (pv 1) (pa_cons (pv 2) pa_nil)))))))),?_⟩
  refine ⟨_,rfl,sc,ns,0,rfl,hS,cellF ns 0,rfl,fun ol H1 os g1 hol ho hW hn=>?_⟩
  have o8:=ho.le
  have m0:0≤cellF ns 1 % 6:=Int.emod_nonneg _ (by decide)
  have m1:cellF ns 1 % 6 < 6:=Int.emod_lt_of_pos _ (by decide)
  have em:(2:Int) + cellF ns 1 % 6 = (((2 + cellF ns 1 % 6).toNat:Nat):Int):=by omega
  have cnt200:∀ {s:Sn} {m:Nat},s.depth≤m→m≤7→s.count≤200:=fun {s m} h1 h2=>by
    have h3:=Sn.count_depth s
    have h4:2 ^ s.depth≤2 ^ 7:=Nat.pow_le_pow_right (by decide) (by omega)
    have h5:2 ^ 7 = 128:=rfl
    omega
  have hS1:=g1.seq hS
  refine ⟨_,rfl,_,rfl,sc,ns,1,rfl,hS1,cellF ns 1,6,rfl,rfl,(show (0:Int) < 6 by decide),2,_,rfl,rfl,_,rfl,sc,ol,ns,2,(2 + cellF ns 1 % 6).toNat,os,?_,hS1,SqL.of hol,ho.pos,o8,by omega,by omega,by decide,fun p1 H2 s1 g2 is1 in1 d1=>?_⟩
  · show [V.ref sc,V.int 2,V.int (2 + cellF ns 1 % 6),V.ref ol] = _
    rw [em]; rfl
  have hS2:=g2.seq hS1
  refine ⟨_,rfl,sc,ns,0,rfl,hS2,_,13,8,rfl,by decide,by decide,by decide,fun r r0 r1=>⟨rfl,_,rfl,ite2 (fun _=>?_) (fun _=>?_)⟩⟩
  · refine ⟨_,rfl,ol,os,rfl,SqL.of (g2 _ _ hol),hW,fun p2 H3 s2 g3 sp=>?_⟩
    refine ⟨_,rfl,_,rfl,by show 2≤sizeLine; decide,fun t ht=>?_⟩
    have g4:=Same.new ht (.tup [.ref ol,.ref p2])
    exact q t ol p2 _ os s2 (g1.trans (g2.trans (g3.trans g4))) upd_same (g4 _ _ (g3 _ _ (g2 _ _ hol))) ho hW hn (sp.mono (Tups.of g4))
  · refine ⟨_,rfl,_,rfl,by show 2≤sizeLine; decide,fun t ht=>?_⟩
    have g4:=Same.new ht (.tup [.ref ol,.ref p1])
    exact q t ol p1 _ os s1 (g1.trans (g2.trans g4)) upd_same (g4 _ _ (g2 _ _ hol)) ho hW hn (SenP.mono ⟨is1,in1,cnt200 d1 (by omega),by omega⟩ (Tups.of g4))
theorem ok_law_told_place (T:Txt P w K mg a) (G_x_law_cell_at:FnOk P w K mg base CX0 k a.a_x_law_cell_at a.d_x_law_cell_at ["script", "k"] (spCellF K)) (G_x_law_draw:FnOk P w K mg base CX0 k a.a_x_law_draw a.d_x_law_draw ["cell", "k", "bound"] spDraw) (G_x_law_sentence:FnOk P w K mg base CX0 k a.a_x_law_sentence a.d_x_law_sentence ["script", "at", "many", "order"] (spSentence K)) (G_x_law_now:FnOk P w K mg base CX0 k a.a_x_law_now a.d_x_law_now ["order"] (spNowL K)) (G_x_law_single:FnOk P w K mg base CX0 k a.a_x_law_single a.d_x_law_single ["order", "cell"] (spSingle K)):FnOk P w K mg base CX0 (k + 1) a.a_x_law_told_place a.d_x_law_told_place ["script", "at", "order"] (spToldPlace K):=by
  refine T.F_x_law_told_place.ok sc_x_law_told_place (fun vs H Q E h=>?_) (fun cdv A outer s H vs Q E hr h=>?_)
  · obtain ⟨sc,ol,ns,t,os,rfl,_⟩:=h
    rfl
  obtain ⟨sc,ol,ns,t,os,rfl,hS,hol,o8,hn,t40,q⟩:=h
  refine ⟨_,(pss_cons (ps_if (pt_cmpR op_eq (pe_call G_x_law_draw hr rfl T.m_x_law_draw T.F_x_law_draw.2 T.b_x_law_draw .nil pass0 (pa_cons (pe_call G_x_law_cell_at hr rfl T.m_x_law_cell_at T.F_x_law_cell_at.2 T.b_x_law_cell_at .nil pass0 (pa_cons (pv 0) (pa_cons pe_int pa_nil))) (pa_cons pe_int (pa_cons pe_int pa_nil)))) pe_int (nomark _)) (pss_one (ps_ret (pe_call G_x_law_single hr rfl T.m_x_law_single T.F_x_law_single.2 T.b_x_law_single .nil pass0 (pa_cons (pv 2) (pa_cons (pe_call G_x_law_cell_at hr rfl T.m_x_law_cell_at T.F_x_law_cell_at.2 T.b_x_law_cell_at .nil pass0 (pa_cons (pv 0) (pa_cons (pv 1) pa_nil))) pa_nil))))) pss_nil)
      (pss_one (ps_ret (pe_call G_x_law_sentence hr rfl T.m_x_law_sentence T.F_x_law_sentence.2 T.b_x_law_sentence .nil pass0 (pa_cons (pv 0) (pa_cons (pe_op op_add (pv 1) pe_int) (pa_cons (pe_op op_add pe_int (pe_op op_mod (pe_call G_x_law_cell_at hr rfl T.m_x_law_cell_at T.F_x_law_cell_at.2 T.b_x_law_cell_at .nil pass0 (pa_cons (pv 0) (pa_cons (pv 1) pa_nil))) pe_int)) (pa_cons (pe_call G_x_law_now hr rfl T.m_x_law_now T.F_x_law_now.2 T.b_x_law_now .nil pass0 (pa_cons (pv 2) pa_nil)) pa_nil)))))))),?_⟩
  have cnt200:∀ {s:Sn} {m:Nat},s.depth≤m→m≤7→s.count≤200:=fun {s m} h1 h2=>by
    have h3:=Sn.count_depth s
    have h4:2 ^ s.depth≤2 ^ 7:=Nat.pow_le_pow_right (by decide) (by omega)
    have h5:2 ^ 7 = 128:=rfl
    omega
  refine ⟨_,rfl,sc,ns,0,rfl,hS,_,13,8,rfl,by decide,by decide,by decide,fun r r0 r1=>⟨rfl,_,rfl,ite2 (fun _=>?_) (fun _=>?_)⟩⟩
  · refine ⟨_,rfl,_,rfl,_,rfl,sc,ns,t,rfl,hS,ol,os,_,rfl,hol,fun p H1 s1 g1 sp=>?_⟩
    exact q p H1 s1 g1 sp
  · have m0:0≤cellF ns t % 6:=Int.emod_nonneg _ (by decide)
    have m1:cellF ns t % 6 < 6:=Int.emod_lt_of_pos _ (by decide)
    have em:(1:Int) + cellF ns t % 6 = (((1 + cellF ns t % 6).toNat:Nat):Int):=by omega
    refine ⟨_,rfl,_,rfl,_,1,rfl,rfl,_,rfl,_,rfl,sc,ns,t,rfl,hS,cellF ns t,6,rfl,rfl,(show (0:Int) < 6 by decide),1,_,rfl,rfl,_,rfl,ol,os,rfl,hol,fun nl H1 g1 _ hnl=>?_⟩
    refine ⟨sc,nl,ns,t + 1,(1 + cellF ns t % 6).toNat,nowM os,?_,g1.seq hS,SqL.of hnl,hn,by have:=nowM_len os; omega,by omega,by omega,by omega,fun p1 H2 s1 g2 is1 in1 d1=>?_⟩
    · show [V.ref sc,V.int ((t:Int) + 1),V.int (1 + cellF ns t % 6),V.ref nl] = _
      rw [em]; rfl
    exact q p1 H2 s1 (g1.trans g2) ⟨is1,in1,cnt200 d1 (by omega),by omega⟩
end
end K77
namespace K77
open PySem L2 Sen
section
variable {P:Program} {w:World} {K:PySem.W.Frag} {mg:Str→Option Value} {base:Heap} {a:Ad} {k:Nat}
theorem ok_reached (T:Txt P w K mg a) (G_must_be_world_with:FnOk P w K mg base CX0 k a.a_must_be_world_with a.d_must_be_world_with ["book", "steps", "rooms"] (spMustWith a.a_Book K)) (G_round_tables:FnOk P w K mg base CX0 k a.a_round_tables a.d_round_tables ["book", "steps", "start"] (spRoundTables a.a_Book)) (G_Book_room_with:FnOk P w K mg base CX0 k a.a_Book_room_with a.d_Book_room_with ["self", "table"] (spRoomWithH a.a_Book 9)):FnOk P w K mg base CX0 (k + 1) a.a_reached a.d_reached ["book", "steps", "start"] (spReached a.a_Book):=by
  refine T.F_reached.ok sc_reached (fun vs H Q E h=>?_) (fun cdv A outer s H vs Q E hr h=>?_)
  · obtain ⟨b,os,rs,F,k0,j,rfl,_⟩:=h
    rfl
  obtain ⟨b,os,rs,F,k0,j,rfl,hB,hlen,hW,hk,hN,q⟩:=h
  refine ⟨_,(pss_cons (ps_expr (pe_call G_must_be_world_with hr rfl T.m_must_be_world_with T.F_must_be_world_with.2 T.b_must_be_world_with .nil pass0 (pa_cons (pv 0) (pa_cons (pv 1) (pa_cons (pe_lst (pa_cons (pv 2) pa_nil)) pa_nil)))))
      (pss_one (ps_ret (pe_meth (pv 0) T.c_Book T.e_Book_room_with G_Book_room_with hr T.b_Book_room_with .nil pass0 (pa_cons (pe_callB (call_sum rfl) rfl T.n_sum bt_sum (pa_cons (pe_call G_round_tables hr rfl T.m_round_tables T.F_round_tables.2 T.b_round_tables .nil pass0 (pa_cons (pv 0) (pa_cons (pv 1) (pa_cons (pv 2) pa_nil)))) pa_nil)) pa_nil))))),?_⟩
  have L:=bookLike a.a_Book
  have hB0:=hB
  obtain ⟨dx,ml,rl,tl,nd,rv,ts,kvs,h⟩:=hB
  refine ⟨_,rfl,_,rfl,_,rfl,by show 1≤sizeLine; decide,fun l0 hl0=>?_⟩
  have g0:=Same.new hl0 (.lst [.int (j:Nat)])
  refine ⟨b,l0,os,rs,F,k0,[j],rfl,L.same hB0 g0,hW,hk,SqL.of upd_same,fun j' hj'=>by rw [List.mem_singleton.mp hj']; exact hN,fun H1 g1=>?_⟩
  have G1:=g0.trans g1
  have hB1:=L.same hB0 G1
  have b1:=G1 _ _ h.hb
  refine ⟨_,rfl,b,dx,_,rfl,b1,rfl,_,rfl,_,rfl,_,rfl,b,os,rs,F,k0,j,rfl,hB1,hW,hk,hN.1,fun l H2 Ns g2 fl hl rn ln=>?_⟩
  refine ⟨l,Ns.map (fun p=>((p:Nat):Int)),rfl,by rw [← natW_ints]; exact SqL.of hl,?_⟩
  rw [sumN_cast]
  exact roomWith_growH (G1.trans g2) (L.same hB1 g2) hlen rn.sum (fun r=>rfl) (q Ns rn ln)
theorem ok_stays (T:Txt P w K mg a) (G_must_be_world_with:FnOk P w K mg base CX0 k a.a_must_be_world_with a.d_must_be_world_with ["book", "steps", "rooms"] (spMustWith a.a_Book K)) (G_Book_table_at:FnOk P w K mg base CX0 k a.a_Book_table_at a.d_Book_table_at ["self", "number"] (spTableAt a.a_Book)) (G_before:FnOk P w K mg base CX0 k a.a_before a.d_before ["book", "steps", "table"] (spBefore a.a_Book)) (G_Book_room_with:FnOk P w K mg base CX0 k a.a_Book_room_with a.d_Book_room_with ["self", "table"] (spRoomWithH a.a_Book 9)):FnOk P w K mg base CX0 (k + 1) a.a_stays a.d_stays ["book", "steps", "room"] (spStays a.a_Book):=by
  refine T.F_stays.ok sc_stays (fun vs H Q E h=>?_) (fun cdv A outer s H vs Q E hr h=>?_)
  · obtain ⟨b,os,rs,F,k0,j,rfl,_⟩:=h
    rfl
  obtain ⟨b,os,rs,F,k0,j,rfl,hB,hlen,hW,hk,hN,q⟩:=h
  refine ⟨_,(pss_cons (ps_expr (pe_call G_must_be_world_with hr rfl T.m_must_be_world_with T.F_must_be_world_with.2 T.b_must_be_world_with .nil pass0 (pa_cons (pv 0) (pa_cons (pv 1) (pa_cons (pe_lst (pa_cons (pv 2) pa_nil)) pa_nil)))))
      (pss_cons (ps_set (i:=3) sc_stays.nd rfl (Or.inl rfl) (pe_meth (pv 0) T.c_Book T.e_Book_table_at G_Book_table_at hr T.b_Book_table_at .nil pass0 (pa_cons (pv 2) pa_nil)))
      (pss_cons (ps_set (i:=4) sc_stays.nd rfl (Or.inl rfl) (pe_op op_and (pv 3) (pe_call G_before hr rfl T.m_before T.F_before.2 T.b_before .nil pass0 (pa_cons (pv 0) (pa_cons (pv 1) (pa_cons (pv 3) pa_nil))))))
      (pss_cons (ps_while PassesOwn.never (pt_cmpR op_ne (pv 4) (pv 3) (nomark _)) (pss_cons (ps_set (i:=3) sc_stays.nd rfl (Or.inl rfl) (pv 4))
      (pss_one (ps_set (i:=4) sc_stays.nd rfl (Or.inl rfl) (pe_op op_and (pv 3) (pe_call G_before hr rfl T.m_before T.F_before.2 T.b_before .nil pass0 (pa_cons (pv 0) (pa_cons (pv 1) (pa_cons (pv 3) pa_nil)))))))))
      (pss_one (ps_ret (pe_meth (pv 0) T.c_Book T.e_Book_room_with G_Book_room_with hr T.b_Book_room_with .nil pass0 (pa_cons (pv 3) pa_nil)))))))),?_⟩
  have L:=bookLike a.a_Book
  have hB0:=hB
  have ho:=L.ord hB
  obtain ⟨dx,ml,rl,tl,nd,rv,ts,kvs,h⟩:=hB
  refine ⟨_,rfl,_,rfl,_,rfl,by show 1≤sizeLine; decide,fun l0 hl0=>?_⟩
  have g0:=Same.new hl0 (.lst [.int (j:Nat)])
  refine ⟨b,l0,os,rs,F,k0,[j],rfl,L.same hB0 g0,hW,hk,SqL.of upd_same,fun j' hj'=>by rw [List.mem_singleton.mp hj']; exact hN,fun H1 g1=>?_⟩
  have G1:=g0.trans g1
  have hB1:=L.same hB0 G1
  have b1:=G1 _ _ h.hb
  refine ⟨_,rfl,b,dx,_,rfl,b1,rfl,_,rfl,b,os,rs,F,j,rfl,hB1,hN.1,fun N tN=>?_⟩
  refine ⟨_,rfl,_,rfl,_,rfl,_,rfl,b,os,rs,F,k0,N,_,rfl,hB1,hk,hW,tN,fun R H2 g2 tr=>⟨N,R,rfl,rfl,?_⟩⟩
  refine ⟨fun m σ H'=>∃ (cur nxt:Nat) (f:Nat→Bool),m = ((List.range (2 ^ os.length)).filter f).length∧Same H H'∧IsTab os.length cur f∧IsTab os.length nxt (fun c=>f c && befB os (tB rs k0) f c)∧(∀ c,c < 2 ^ os.length→f c = true→tB rs j c = true)∧(∀ p∈thenP os,Bdd.Free os.length f p)∧(∀ h:Nat→Bool,(∀ c,c < 2 ^ os.length→h c = true→tB rs j c = true∧befB os (tB rs k0) h c = true)→∀ c,c < 2 ^ os.length→h c = true→f c = true)∧σ = [some (.ref b),some (.int (k0:Nat)),some (.int (j:Nat)),some (.int (cur:Nat)),some (.int (nxt:Nat))],⟨_,N,N &&& R,tB rs j,rfl,G1.trans g2,tN,and_tab tN tr,(fun _ _ e=>e),hN.2,(fun h hh c hc e=>(hh c hc e).1),rfl⟩,?_⟩
  rintro m σ H' ⟨cur,nxt,f,rfl,g,tc,tn,sub,fre,top,rfl⟩
  refine ⟨_,rfl,_,rfl,rfl,_,rfl,?_⟩
  by_cases c0:nxt = cur
  · subst c0
    refine iteNe2 rfl ?_
    refine ⟨_,rfl,b,dx,_,rfl,g _ _ h.hb,rfl,_,rfl,?_⟩
    exact roomWith_growH g (L.same hB0 g) hlen tc (fun r=>rfl) (q f ⟨sub,fun c hc e=>by
      have z:=tab_on tc tn hc
      rw [e,Bool.true_and] at z
      exact z.symm,fre,top⟩)
  · show if (!decide (V.int (nxt:Nat) = V.int (cur:Nat))) = true then _ else _
    rw [decide_eq_false (fun e=>c0 (by injection e; omega))]
    refine iteT ⟨_,fun σ' H2 h=>h,?_⟩
    have hB':=L.same hB0 g
    refine ⟨_,rfl,_,rfl,_,rfl,_,rfl,_,rfl,b,os,rs,F,k0,nxt,_,rfl,hB',hk,hW,tn,fun R2 H3 g3 tr2=>⟨nxt,R2,rfl,rfl,?_⟩⟩
    refine ⟨((List.range (2 ^ os.length)).filter (fun c=>f c && befB os (tB rs k0) f c)).length,?_,nxt,nxt &&& R2,_,rfl,g.trans g3,tn,and_tab tn tr2,fun c hc e=>sub c hc ((Bool.and_eq_true _ _).mp e).1,fun p hp c hc v=>?_,fun hh hy c hc e=>?_,rfl⟩
    · obtain ⟨c,hc,ne⟩:=tab_off tn tc c0
      refine filt_lt (fun x e=>((Bool.and_eq_true _ _).mp e).1) ⟨c,List.mem_range.mpr hc,?_⟩
      cases e1:f c with
      | false=>rw [e1] at ne; exact absurd rfl ne
      | true =>
        refine ⟨rfl,?_⟩
        rw [e1] at ne
        cases e2:(true && befB os (tB rs k0) f c) with
        | false=>rfl
        | true=>rw [e2] at ne; exact absurd rfl ne
    · show (f (putBit c p v) && befB os (tB rs k0) f (putBit c p v)) = (f c && befB os (tB rs k0) f c)
      rw [fre p hp c hc v,free_bef _ _ p hp c hc v]
    · refine (Bool.and_eq_true _ _).mpr ⟨top hh hy c hc e,?_⟩
      exact bef_mono' ho hW hc (fun d hd e=>top hh hy d hd e) (hy c hc e).2
end
end K77
namespace K77
open PySem L2 Sen
section
variable {P:Program} {w:World} {K:PySem.W.Frag} {mg:Str→Option Value} {base:Heap} {a:Ad} {k:Nat}
theorem ok_first_values (T:Txt P w K mg a) (G_held_at:FnOk P w K mg base CX0 k a.a_held_at a.d_held_at ["table", "place", "value", "marks"] spHeldAt):FnOk P w K mg base CX0 (k + 1) a.a_first_values a.d_first_values ["table", "places", "marks"] (spFirstValues K):=by
  refine T.F_first_values.ok sc_first_values (fun vs H Q E h=>?_) (fun cdv A outer s H vs Q E hr h=>?_)
  · obtain ⟨N,n,f,pl,ps,rfl,_⟩:=h
    rfl
  obtain ⟨N,n,f,pl,ps,rfl,hn,tb,hpl,hps,h1000,q⟩:=h
  refine ⟨_,(pss_cons (ps_set (i:=3) sc_first_values.nd rfl (Or.inl rfl) (pe_lst pa_nil))
      (pss_cons (ps_for PassesOwn.never rfl (pi_list (pv 1)) (pg_name (i:=4) sc_first_values.nd rfl (Or.inl rfl)) (pss_cons (ps_set (i:=5) sc_first_values.nd rfl (Or.inl rfl) (pe_call G_held_at hr rfl T.m_held_at T.F_held_at.2 T.b_held_at .nil pass0 (pa_cons (pv 0) (pa_cons (pv 4) (pa_cons pe_int (pa_cons (pv 2) pa_nil))))))
      (pss_cons (ps_set (i:=6) sc_first_values.nd rfl (Or.inl rfl) (pe_ifExp (pt_cmpR op_ne (pv 5) pe_int (nomark _)) pe_int pe_int))
      (pss_cons (ps_set (i:=0) sc_first_values.nd rfl (Or.inl rfl) (pe_call G_held_at hr rfl T.m_held_at T.F_held_at.2 T.b_held_at .nil pass0 (pa_cons (pv 0) (pa_cons (pv 4) (pa_cons (pv 6) (pa_cons (pv 2) pa_nil))))))
      (pss_one (ps_expr (pe_bm PySem.F.plainAttrs_list PySem.F.slot_list_append PySem.F.type_list_append mt_append (pv 3) (pa_cons (pv 6) pa_nil))))))))
      (pss_one (ps_ret (pv 3))))),?_⟩
  refine ⟨by show 0≤sizeLine; decide,fun l hl=>?_⟩
  have g0:=Same.new hl (.lst [])
  refine ⟨_,rfl,pl,rfl,⟨_,g0.seq hpl⟩,?_⟩
  refine for_list (xs:=ps.map fun p=>V.int (p:Nat)) (fun i σ H'=>∃ (M:Nat) (g:Nat→Bool) (r:List Bool) (f4 f5 f6:Option V),Same H H'∧H' l = some (.lst (rowV r))∧IsTab n M g∧r.length = i∧Bdd.fvP n f ps = r ++ Bdd.fvP n g (ps.drop i)∧σ = [some (.int M),some (.ref pl),some (.int n),some (.ref l),f4,f5,f6])
    ⟨N,f,[],_,_,_,g0,upd_same,tb,rfl,rfl,rfl⟩ ?_ ?_ ?_
  · rintro i σ H' _ ⟨M,g,r,f4,f5,f6,gg,_⟩
    exact gg.seq hpl
  · rintro i x σ H' hx ⟨M,g,r,f4,f5,f6,gg,hL,tg,hr',e,rfl⟩
    rw [List.getElem?_map] at hx
    cases hp:ps[i]? with
    | none=>rw [hp] at hx; cases hx
    | some p =>
      rw [hp] at hx
      cases hx
      have hpn:=hps p (List.mem_of_getElem? hp)
      obtain ⟨lt,e'⟩:=List.getElem?_eq_some_iff.mp hp
      rw [List.drop_eq_getElem_cons lt,e'] at e
      refine ⟨_,rfl,_,rfl,_,rfl,M,p,n,false,g,rfl,hpn,hn,tg,fun R tr=>?_⟩
      have tz:=Bdd.tab_zero tr
      refine ⟨_,rfl,rfl,_,rfl,?_⟩
      have ee:(!decide (V.int (R:Nat) = V.int 0)) = Bdd.anyB n fun b=>g (putBit b p false):=by
        cases hz:Bdd.anyB n fun b=>g (putBit b p false) with
        | true =>
          rw [hz] at tz
          rw [decide_eq_false fun z=>by injection z with z; exact absurd (decide_eq_true (show R = 0 by omega)) (by rw [tz]; exact Bool.false_ne_true)]
          rfl
        | false =>
          rw [hz] at tz
          have z:R = 0:=of_decide_eq_true tz
          subst z
          rfl
      rw [ee]
      cases hz:Bdd.anyB n fun b=>g (putBit b p false) with
      | true =>
        refine ite2 (fun _=>?_) (fun c=>absurd rfl c)
        refine ⟨_,rfl,_,rfl,_,rfl,_,rfl,M,p,n,false,g,rfl,hpn,hn,tg,fun R2 t2=>?_⟩
        refine ⟨_,rfl,.inl ⟨rfl,_,SqL.of hL⟩,_,rfl,l,_,_,rfl,rfl,hL,?_,?_⟩
        · unfold rowV; rw [List.length_map,hr']; exact small1000 (by omega)
        · refine ⟨R2,_,r ++ [false],_,_,_,gg.over hl _,by rw [upd_same]; unfold rowV; rw [List.map_append]; rfl,t2,by rw [List.length_append,hr']; rfl,?_,rfl⟩
          rw [e,List.append_assoc]
          show r ++ (_ :: _) = r ++ ([false] ++ _)
          rw [hz]
          rfl
      | false =>
        refine ite2 (fun c=>absurd c Bool.false_ne_true) (fun _=>?_)
        refine ⟨_,rfl,_,rfl,_,rfl,_,rfl,M,p,n,true,g,rfl,hpn,hn,tg,fun R2 t2=>?_⟩
        refine ⟨_,rfl,.inl ⟨rfl,_,SqL.of hL⟩,_,rfl,l,_,_,rfl,rfl,hL,?_,?_⟩
        · unfold rowV; rw [List.length_map,hr']; exact small1000 (by omega)
        · refine ⟨R2,_,r ++ [true],_,_,_,gg.over hl _,by rw [upd_same]; unfold rowV; rw [List.map_append]; rfl,t2,by rw [List.length_append,hr']; rfl,?_,rfl⟩
          rw [e,List.append_assoc]
          show r ++ (_ :: _) = r ++ ([true] ++ _)
          rw [hz]
          rfl
  · rintro σ H' ⟨M,g,r,f4,f5,f6,gg,hL,tg,hr',e,rfl⟩
    rw [List.length_map,List.drop_length] at e
    have e1:Bdd.fvP n f ps = r:=by rw [e]; exact List.append_nil _
    refine ⟨_,rfl,q l H' gg hl ?_⟩
    rw [e1]
    exact hL
theorem ok_rows_having (T:Txt P w K mg a) (G_all_rows:FnOk P w K mg base CX0 k a.a_all_rows a.d_all_rows ["marks"] spAllRows) (G_rows_with:FnOk P w K mg base CX0 k a.a_rows_with a.d_rows_with ["place", "marks"] spRowsWith) (G_without:FnOk P w K mg base CX0 k a.a_without a.d_without ["table", "other"] spWithout):FnOk P w K mg base CX0 (k + 1) a.a_rows_having a.d_rows_having ["places", "values", "marks"] (spRowsHaving K):=by
  refine T.F_rows_having.ok sc_rows_having (fun vs H Q E h=>?_) (fun cdv A outer s H vs Q E hr h=>?_)
  · obtain ⟨pl,rl,n,ps,r,rfl,_⟩:=h
    rfl
  obtain ⟨pl,rl,n,ps,r,rfl,n8,hl,hm,hp,el,l8,q⟩:=h
  refine ⟨_,(pss_cons (ps_set (i:=3) sc_rows_having.nd rfl (Or.inl rfl) (pe_call G_all_rows hr rfl T.m_all_rows T.F_all_rows.2 T.b_all_rows .nil pass0 (pa_cons (pv 2) pa_nil)))
      (pss_cons (ps_for PassesOwn.never rfl (pi_zip rfl T.n_zip (pa_cons (pv 0) (pa_cons (pv 1) pa_nil))) (pg_tup rfl (pgs_cons (pg_name (i:=4) sc_rows_having.nd rfl (Or.inl rfl)) (pgs_cons (pg_name (i:=5) sc_rows_having.nd rfl (Or.inl rfl)) pgs_nil))) (pss_cons (ps_set (i:=6) sc_rows_having.nd rfl (Or.inl rfl) (pe_call G_rows_with hr rfl T.m_rows_with T.F_rows_with.2 T.b_rows_with .nil pass0 (pa_cons (pv 4) (pa_cons (pv 2) pa_nil))))
      (pss_one (ps_set (i:=3) sc_rows_having.nd rfl (Or.inl rfl) (pe_ifExp (pt_cmpR op_eq (pv 5) pe_int (nomark _)) (pe_op op_andN (pv 3) (pv 6)) (pe_call G_without hr rfl T.m_without T.F_without.2 T.b_without .nil pass0 (pa_cons (pv 3) (pa_cons (pv 6) pa_nil))))))))
      (pss_one (ps_ret (pv 3))))),?_⟩
  refine ⟨_,rfl,n,rfl,n8,?_⟩
  refine ⟨_,rfl,_,rfl,pl,rl,natW ps,rowV r,rfl,hl,hm,?_⟩
  have e1:(natW ps).length = ps.length:=List.length_map _
  have e2:(rowV r).length = r.length:=List.length_map _
  refine for_zip (xs:=natW ps) (ys:=rowV r) (by omega) (fun i σ H'=>Same H H'∧∃ (M:Nat) (f4 f5 f6:Option V),IsTab n M (hav ((ps.zip r).take i))∧σ = [some (.ref pl),some (.ref rl),some (.int (n:Nat)),some (.int (M:Nat)),f4,f5,f6]) ⟨Same.refl _,_,_,_,_,tab_all n,rfl⟩ ?_ ?_ ?_
  · rintro i σ H' _ ⟨g,_⟩
    exact ⟨g.seq hl,g.seq hm⟩
  · rintro i x y σ H' t hx hy ⟨g,M,f4,f5,f6,tm,rfl⟩ ht
    unfold natW at hx
    unfold rowV at hy
    rw [List.getElem?_map] at hx hy
    cases hj:ps[i]? with
    | none=>rw [hj] at hx; cases hx
    | some p =>
      rw [hj] at hx
      cases hx
      cases hk:r[i]? with
      | none=>rw [hk] at hy; cases hy
      | some v =>
        rw [hk] at hy
        cases hy
        have hz:(ps.zip r)[i]? = some (p,v):=List.getElem?_zip_eq_some.mpr ⟨hj,hk⟩
        have pn:=hp p (List.mem_of_getElem? hj)
        have nx:hav ((ps.zip r).take (i + 1)) = fun b=>hav ((ps.zip r).take i) b && (b.testBit p == v):=funext fun b=>by
          rw [take_next hz]
          unfold hav
          rw [List.all_append]
          simp
        refine ⟨t,_,rfl,SqT.of upd_same,rfl,_,_,rfl,_,_,rfl,rfl,?_⟩
        refine ⟨_,rfl,_,rfl,p,n,rfl,pn,n8,fun W tw=>?_⟩
        refine ⟨_,rfl,rfl,_,rfl,?_⟩
        cases v with
        | true =>
          refine iteT ⟨_,rfl,_,rfl,M,W,rfl,rfl,g.trans (Same.new ht _),_,_,_,_,?_,rfl⟩
          rw [nx]
          have e:(fun b=>hav ((ps.zip r).take i) b && (b.testBit p == true)) = fun b=>hav ((ps.zip r).take i) b && b.testBit p:=funext fun b=>by simp
          rw [e]
          exact and_tab tm tw
        | false =>
          refine iteF ⟨_,rfl,_,rfl,M,W,n,_,_,rfl,tm,tw,fun R tr=>⟨g.trans (Same.new ht _),R,_,_,_,?_,rfl⟩⟩
          rw [nx]
          have e:(fun b=>hav ((ps.zip r).take i) b && (b.testBit p == false)) = fun b=>hav ((ps.zip r).take i) b && !b.testBit p:=funext fun b=>by cases b.testBit p <;> rfl
          rw [e]
          exact tr
  · rintro σ H' ⟨g,M,f4,f5,f6,tm,rfl⟩
    have el:(ps.zip r).length = (natW ps).length:=by rw [List.length_zip,e1]; omega
    rw [← el,List.take_length] at tm
    exact ⟨_,rfl,q M H' g tm⟩
theorem ok_first_of_now (T:Txt P w K mg a) (G_first_values:FnOk P w K mg base CX0 k a.a_first_values a.d_first_values ["table", "places", "marks"] (spFirstValues K)) (G_now_places:FnOk P w K mg base CX0 k a.a_now_places a.d_now_places ["book"] (spNowPlaces a.a_Book)) (G_Book_order:FnOk P w K mg base CX0 k a.a_Book_order a.d_Book_order ["self"] (spBookOrder (BookAt a.a_Book))):FnOk P w K mg base CX0 (k + 1) a.a_first_of_now a.d_first_of_now ["book", "table"] (spFirstNow a.a_Book):=by
  refine T.F_first_of_now.ok sc_first_of_now (fun vs H Q E h=>?_) (fun cdv A outer s H vs Q E hr h=>?_)
  · obtain ⟨b,os,rs,F,N,f,rfl,_⟩:=h
    rfl
  obtain ⟨b,os,rs,F,N,f,rfl,hB,tf,q⟩:=h
  refine ⟨_,(pss_one (ps_ret (pe_call G_first_values hr rfl T.m_first_values T.F_first_values.2 T.b_first_values .nil pass0 (pa_cons (pv 1) (pa_cons (pe_call G_now_places hr rfl T.m_now_places T.F_now_places.2 T.b_now_places .nil pass0 (pa_cons (pv 0) pa_nil)) (pa_cons (pe_callB call_len_seq rfl T.n_len bt_len (pa_cons (pe_meth0 (pv 0) T.c_Book T.e_Book_order G_Book_order hr T.b_Book_order .nil pass0) pa_nil)) pa_nil)))))),?_⟩
  have L:=bookLike a.a_Book
  have o8:=(L.ord hB).le
  have lo5:(os.map V.str).length = os.length:=List.length_map _
  have l4:(nowP os).length≤8:=by unfold nowP; rw [List.length_map]; have:=nowM_len os; omega
  have hB0:=hB
  obtain ⟨dx,ml,rl,tl,nd,rv,ts,kvs,h⟩:=hB
  refine ⟨_,rfl,_,rfl,b,os,rs,F,rfl,hB0,fun l1 H1 g1 fl1 hl1=>?_⟩
  have hB1:=L.same hB0 g1
  refine ⟨_,rfl,b,dx,_,rfl,g1 _ _ h.hb,rfl,b,os,rs,F,rfl,hB1,fun l2 H2 g2 fl2 hl2=>?_⟩
  refine ⟨l2,_,rfl,.inl (SqL.of hl2),?_⟩
  rw [lo5]
  refine ⟨N,os.length,f,l1,nowP os,rfl,o8,tf,SqL.of (g2 _ _ hl1),nowP_lt,by omega,fun l H' g3 fl hl=>?_⟩
  exact q l H' (g1.trans (g2.trans g3)) (g1.free (g2.free fl)) hl
theorem ok_only (T:Txt P w K mg a) (G_rows_having:FnOk P w K mg base CX0 k a.a_rows_having a.d_rows_having ["places", "values", "marks"] (spRowsHaving K)) (G_now_places:FnOk P w K mg base CX0 k a.a_now_places a.d_now_places ["book"] (spNowPlaces a.a_Book)) (G_Book_order:FnOk P w K mg base CX0 k a.a_Book_order a.d_Book_order ["self"] (spBookOrder (BookAt a.a_Book))):FnOk P w K mg base CX0 (k + 1) a.a_only a.d_only ["book", "row"] (spOnly a.a_Book K):=by
  refine T.F_only.ok sc_only (fun vs H Q E h=>?_) (fun cdv A outer s H vs Q E hr h=>?_)
  · obtain ⟨b,rl,os,rs,F,r,rfl,_⟩:=h
    rfl
  obtain ⟨b,rl,os,rs,F,r,rfl,hB,hr',lr,q⟩:=h
  refine ⟨_,(pss_one (ps_ret (pe_call G_rows_having hr rfl T.m_rows_having T.F_rows_having.2 T.b_rows_having .nil pass0 (pa_cons (pe_call G_now_places hr rfl T.m_now_places T.F_now_places.2 T.b_now_places .nil pass0 (pa_cons (pv 0) pa_nil)) (pa_cons (pv 1) (pa_cons (pe_callB call_len_seq rfl T.n_len bt_len (pa_cons (pe_meth0 (pv 0) T.c_Book T.e_Book_order G_Book_order hr T.b_Book_order .nil pass0) pa_nil)) pa_nil)))))),?_⟩
  have L:=bookLike a.a_Book
  have o8:=(L.ord hB).le
  have lo5:(os.map V.str).length = os.length:=List.length_map _
  have l4:(nowP os).length≤8:=by unfold nowP; rw [List.length_map]; have:=nowM_len os; omega
  have hB0:=hB
  obtain ⟨dx,ml,rl',tl,nd,rv,ts,kvs,h⟩:=hB
  refine ⟨_,rfl,b,os,rs,F,rfl,hB0,fun l1 H1 g1 fl1 hl1=>?_⟩
  have hB1:=L.same hB0 g1
  refine ⟨_,rfl,_,rfl,b,dx,_,rfl,g1 _ _ h.hb,rfl,b,os,rs,F,rfl,hB1,fun l2 H2 g2 fl2 hl2=>?_⟩
  refine ⟨l2,_,rfl,.inl (SqL.of hl2),?_⟩
  rw [lo5]
  refine ⟨l1,rl,os.length,nowP os,r,rfl,o8,SqL.of (g2 _ _ hl1),(g1.trans g2).seq hr',nowP_lt,lr,l4,fun R H' g3 tr=>?_⟩
  exact q R H' (g1.trans (g2.trans g3)) tr
end
end K77
namespace K77
open PySem L2 Sen
section
variable {P:Program} {w:World} {K:PySem.W.Frag} {mg:Str→Option Value} {base:Heap} {a:Ad} {k:Nat}
theorem ok_way_through (T:Txt P w K mg a) (G_first_of_now:FnOk P w K mg base CX0 k a.a_first_of_now a.d_first_of_now ["book", "table"] (spFirstNow a.a_Book)) (G_before:FnOk P w K mg base CX0 k a.a_before a.d_before ["book", "steps", "table"] (spBefore a.a_Book)) (G_only:FnOk P w K mg base CX0 k a.a_only a.d_only ["book", "row"] (spOnly a.a_Book K)):FnOk P w K mg base CX0 (k + 1) a.a_way_through a.d_way_through ["book", "steps", "ahead", "met"] (spWayThrough a.a_Book K):=by
  refine T.F_way_through.ok sc_way_through (fun vs H Q E h=>?_) (fun cdv A outer s H vs Q E hr h=>?_)
  · obtain ⟨b,al,os,rs,F,k0,N,Ns,f,fs,rfl,_⟩:=h
    rfl
  obtain ⟨b,al,os,rs,F,k0,N,Ns,f,fs,rfl,hB,hW,hk,hal,ln,pf,tf,q⟩:=h
  refine ⟨_,(pss_cons (ps_set (i:=4) sc_way_through.nd rfl (Or.inl rfl) (pe_lst (pa_cons (pe_call G_first_of_now hr rfl T.m_first_of_now T.F_first_of_now.2 T.b_first_of_now .nil pass0 (pa_cons (pv 0) (pa_cons (pv 3) pa_nil))) pa_nil)))
      (pss_cons (ps_for PassesOwn.never rfl (pi_rev rfl T.n_reversed (pa_cons (pv 2) pa_nil)) (pg_name (i:=5) sc_way_through.nd rfl (Or.inl rfl)) (pss_one (ps_expr (pe_bm PySem.F.plainAttrs_list PySem.F.slot_list_append PySem.F.type_list_append mt_append (pv 4) (pa_cons (pe_call G_first_of_now hr rfl T.m_first_of_now T.F_first_of_now.2 T.b_first_of_now .nil pass0 (pa_cons (pv 0) (pa_cons (pe_op op_andN (pv 5) (pe_call G_before hr rfl T.m_before T.F_before.2 T.b_before .nil pass0 (pa_cons (pv 0) (pa_cons (pv 1) (pa_cons (pe_call G_only hr rfl T.m_only T.F_only.2 T.b_only .nil pass0 (pa_cons (pv 0) (pa_cons (pe_ix ix_list (pv 4) (pe_un un_neg pe_int) (fun _ _=>rfl)) pa_nil))) pa_nil))))) pa_nil))) pa_nil)))))
      (pss_one (ps_ret (pe_listRev rfl rfl T.n_list rfl T.n_reversed (pa_cons (pv 4) pa_nil)))))),?_⟩
  have L:=bookLike a.a_Book
  have lf:=pd_len pf
  refine ⟨_,rfl,_,rfl,b,os,rs,F,N,f,rfl,hB,tf,fun l0 H1 g1 fl0 hl0=>⟨by show 1≤sizeLine; decide,fun rl hrl=>?_⟩⟩
  have j1:=Same.new hrl (.lst [V.ref l0])
  have e1:upd H1 rl (.lst [V.ref l0]) rl = some (.lst (([] ++ [l0]).map V.ref)):=upd_same
  have hl0':=j1 _ _ hl0
  have fr:=g1.free hrl
  have ne0:l0≠rl:=fun e=>by rw [e,hrl] at hl0; cases hl0
  generalize upd H1 rl (.lst [V.ref l0]) = H2 at j1 e1 hl0'
  have g2:=g1.trans j1
  refine ⟨_,rfl,al,natW Ns,rfl,g2.seq hal,?_⟩
  refine for_rev (xs:=natW Ns) (fun i σ H'=>∃ (q0:List Addr) (p:Addr) (w0:List (List Bool)) (r:List Bool) (f5:Option V),Same H H'∧H' rl = some (.lst ((q0 ++ [p]).map V.ref))∧q0.length = i∧Paired (RowA H') q0 w0∧RowA H' p r∧(nowP os).length = r.length∧wayR os (tB rs k0) fs.reverse (Bdd.fvP os.length f (nowP os)) = w0 ++ wayR os (tB rs k0) (fs.reverse.drop i) r∧σ = [some (.ref b),some (.int (k0:Nat)),some (.ref al),some (.int (N:Nat)),some (.ref rl),f5])
    ⟨[],l0,[],_,_,g2,e1,rfl,.nil,hl0',(fvP_len _ _ _).symm,rfl,rfl⟩ ?_ ?_ ?_
  · rintro i σ H' _ ⟨q0,p,w0,r,f5,g,_⟩
    exact g.seq hal
  · rintro i x σ H' hi hx ⟨q0,p,w0,r,f5,g,hr',lq,pq,pr,lr,ew,rfl⟩
    rw [natW_len] at hi hx
    obtain ⟨M,hM,rfl⟩:=natW_b hx
    obtain ⟨fm,hfm,tm⟩:=pd_at pf hM
    have hfr:fs.reverse[i]? = some fm:=by
      rw [List.getElem?_reverse (by omega),← lf]
      exact hfm
    obtain ⟨lt,efm⟩:=List.getElem?_eq_some_iff.mp hfr
    have hB':=L.same hB g
    refine ⟨_,rfl,.inl ⟨rfl,_,SqL.of hr'⟩,?_⟩
    refine ⟨_,rfl,_,rfl,_,rfl,_,rfl,_,rfl,_,rfl,_,rfl,rl,_,-1,_,rfl,rfl,SqL.of hr',by rw [List.map_append]; exact atI_last _ _,?_⟩
    refine ⟨b,p,os,rs,F,r,rfl,hB',SqL.of pr,lr,fun R H3 g3 tR=>?_⟩
    have hB3:=L.same hB' g3
    refine ⟨b,os,rs,F,k0,R,_,rfl,hB3,hk,hW,tR,fun R2 H4 g4 tR2=>⟨M,R2,rfl,rfl,?_⟩⟩
    have hB4:=L.same hB3 g4
    refine ⟨b,os,rs,F,_,_,rfl,hB4,and_tab tm tR2,fun l5 H5 g5 fl5 hl5=>?_⟩
    have G5:=g3.trans (g4.trans g5)
    have hr5:=G5 _ _ hr'
    have lq2:(q0 ++ [p]).length = i + 1:=by rw [List.length_append,lq]; rfl
    refine ⟨rl,_,_,rfl,rfl,hr5,by rw [List.length_map,lq2]; exact small1000 (by omega),?_⟩
    have gO:Same H (upd H5 rl (.lst ((q0 ++ [p]).map V.ref ++ [V.ref l5]))):=(g.trans G5).over fr _
    have keep:∀ {y:Addr} {c:List Bool},RowA H' y c→y≠rl→RowA (upd H5 rl (.lst ((q0 ++ [p]).map V.ref ++ [V.ref l5]))) y c:=fun {y c} hy ny=>by
      unfold RowA
      rw [upd_ne ny]
      exact G5 _ _ hy
    have nrl:∀ {y:Addr} {c:List Bool},RowA H' y c→y≠rl:=fun {y c} hy e=>by
      unfold RowA at hy
      rw [e,hr'] at hy
      injection hy with z
      injection z with z
      cases c with
      | nil=>rw [List.map_append] at z; cases hq:q0.map V.ref with
        | nil=>rw [hq] at z; cases z
        | cons _ _=>rw [hq] at z; cases z
      | cons v c =>
        cases q0 with
        | nil=>injection z with z1 z2; cases z1
        | cons _ _=>injection z with z1 z2; cases z1
    have n5:l5≠rl:=fun e=>by rw [e,(g3.trans g4) _ _ hr'] at fl5; cases fl5
    refine ⟨q0 ++ [p],l5,w0 ++ [r],_,_,gO,by rw [upd_same,List.map_append (l₁:=q0 ++ [p])]; rfl,lq2,pd_app (pd_imp (fun _ _ e=>keep e (nrl e)) pq) (.cons (keep pr (nrl pr)) .nil),by unfold RowA; rw [upd_ne n5]; exact hl5,(fvP_len _ _ _).symm,?_,rfl⟩
    rw [ew,List.drop_eq_getElem_cons lt,efm,List.append_assoc]
    rfl
  · rintro σ H' ⟨q0,p,w0,r,f5,g,hr',lq,pq,pr,lr,ew,rfl⟩
    rw [natW_len] at ew
    rw [List.drop_eq_nil_of_le (by rw [List.length_reverse]; omega)] at ew
    refine ⟨_,rfl,rl,_,rfl,SqL.of hr',fun l hl=>?_⟩
    have gN:=Same.new hl (.lst ((q0 ++ [p]).map V.ref).reverse)
    refine q l _ (q0 ++ [p]).reverse (g.trans gN) (g.free hl) (by rw [upd_same,List.map_reverse]) ?_
    rw [ew]
    exact pd_rev (pd_app (pd_imp (fun _ _ e=>gN _ _ e) pq) (.cons (gN _ _ pr) .nil))
end
end K77
namespace K77
open PySem L2 Sen
section
variable {P:Program} {w:World} {K:PySem.W.Frag} {mg:Str→Option Value} {base:Heap} {a:Ad} {k:Nat}
theorem ok_way_to (T:Txt P w K mg a) (G_must_be_world_with:FnOk P w K mg base CX0 k a.a_must_be_world_with a.d_must_be_world_with ["book", "steps", "rooms"] (spMustWith a.a_Book K)) (G_round_tables:FnOk P w K mg base CX0 k a.a_round_tables a.d_round_tables ["book", "steps", "start"] (spRoundTables a.a_Book)) (G_Book_table_at:FnOk P w K mg base CX0 k a.a_Book_table_at a.d_Book_table_at ["self", "number"] (spTableAt a.a_Book)) (G_way_through:FnOk P w K mg base CX0 k a.a_way_through a.d_way_through ["book", "steps", "ahead", "met"] (spWayThrough a.a_Book K)):FnOk P w K mg base CX0 (k + 1) a.a_way_to a.d_way_to ["book", "steps", "start", "goal"] (spWayTo a.a_Book):=by
  refine T.F_way_to.ok sc_way_to (fun vs H Q E h=>?_) (fun cdv A outer s H vs Q E hr h=>?_)
  · obtain ⟨b,os,rs,F,k0,i0,j0,rfl,_⟩:=h
    rfl
  obtain ⟨b,os,rs,F,k0,i0,j0,rfl,hB,hW,hk,hI,hJ,q1,q2⟩:=h
  refine ⟨_,(pss_cons (ps_expr (pe_call G_must_be_world_with hr rfl T.m_must_be_world_with T.F_must_be_world_with.2 T.b_must_be_world_with .nil pass0 (pa_cons (pv 0) (pa_cons (pv 1) (pa_cons (pe_lst (pa_cons (pv 2) (pa_cons (pv 3) pa_nil))) pa_nil)))))
      (pss_cons (ps_set (i:=4) sc_way_to.nd rfl (Or.inl rfl) (pe_lst pa_nil))
      (pss_cons (ps_for PassesOwn.never rfl (pi_list (pe_call G_round_tables hr rfl T.m_round_tables T.F_round_tables.2 T.b_round_tables .nil pass0 (pa_cons (pv 0) (pa_cons (pv 1) (pa_cons (pv 2) pa_nil))))) (pg_name (i:=5) sc_way_to.nd rfl (Or.inl rfl)) (pss_cons (ps_set (i:=6) sc_way_to.nd rfl (Or.inl rfl) (pe_op op_andN (pv 5) (pe_meth (pv 0) T.c_Book T.e_Book_table_at G_Book_table_at hr T.b_Book_table_at .nil pass0 (pa_cons (pv 3) pa_nil))))
      (pss_cons (ps_if (pt_cmpR op_ne (pv 6) pe_int (nomark _)) (pss_one (ps_ret (pe_call G_way_through hr rfl T.m_way_through T.F_way_through.2 T.b_way_through .nil pass0 (pa_cons (pv 0) (pa_cons (pv 1) (pa_cons (pv 4) (pa_cons (pv 6) pa_nil))))))) pss_nil)
      (pss_one (ps_expr (pe_bm PySem.F.plainAttrs_list PySem.F.slot_list_append PySem.F.type_list_append mt_append (pv 4) (pa_cons (pv 5) pa_nil)))))))
      (pss_one (ps_ret pe_non))))),?_⟩
  have L:=bookLike a.a_Book
  refine ⟨_,rfl,_,rfl,_,rfl,_,rfl,by show 2≤sizeLine; decide,fun l0 hl0=>?_⟩
  have g0:=Same.new hl0 (.lst [.int (i0:Nat),.int (j0:Nat)])
  refine ⟨b,l0,os,rs,F,k0,[i0,j0],rfl,L.same hB g0,hW,hk,SqL.of upd_same,fun j' hj'=>?_,fun H1 g1=>?_⟩
  · simp only [List.mem_cons,List.not_mem_nil,or_false] at hj'
    rcases hj' with e | e <;> subst e
    · exact hI
    · exact hJ
  have G1:=g0.trans g1
  generalize upd H l0 (.lst [.int (i0:Nat),.int (j0:Nat)]) = Hx at g0 g1
  refine ⟨by show 0≤sizeLine; decide,fun al hal=>?_⟩
  have g2:=Same.new hal (.lst [])
  have e2:upd H1 al (.lst []) al = some (.lst (natW [])):=upd_same
  have fal:=G1.free hal
  generalize upd H1 al (.lst []) = H2 at g2 e2
  have G2:=G1.trans g2
  refine ⟨_,rfl,_,rfl,_,rfl,b,os,rs,F,k0,i0,rfl,L.same hB G2,hW,hk,hI.1,fun l H3 Ns g3 fl hl rn ln=>?_⟩
  have G3:=G2.trans g3
  have nl:l≠al:=fun e=>by rw [e,e2] at fl; cases fl
  have fll:=G2.free fl
  refine ⟨l,rfl,⟨_,SqL.of hl⟩,?_⟩
  refine for_list (xs:=natW Ns) (fun i σ H'=>∃ (f5 f6:Option V),Same H H'∧H' l = some (.lst (natW Ns))∧H' al = some (.lst (natW (Ns.take i)))∧(∀ m,m < i→∀ c,c < 2 ^ os.length→(rnd os (tB rs k0) (tB rs i0) m).1 c = true→tB rs j0 c = false)∧σ = [some (.ref b),some (.int (k0:Nat)),some (.int (i0:Nat)),some (.int (j0:Nat)),some (.ref al),f5,f6])
    ⟨_,_,G3,hl,g3 _ _ e2,(fun m hm=>absurd hm (Nat.not_lt_zero _)),rfl⟩ ?_ ?_ ?_
  · rintro i σ H' _ ⟨f5,f6,g,h1,_⟩
    exact SqL.of h1
  · rintro i x σ H' hx ⟨f5,f6,g,h1,h2,no,rfl⟩
    obtain ⟨N,hN,rfl⟩:=natW_b hx
    have hi:=(List.getElem?_eq_some_iff.mp hN).1
    obtain ⟨tN,_⟩:=rn.tab i N hN
    have hB':=L.same hB g
    obtain ⟨dx,ml,rl,tl,nd,rv,ts,kvs,h⟩:=id hB'
    refine ⟨_,rfl,_,rfl,b,dx,_,rfl,h.hb,rfl,_,rfl,b,os,rs,F,j0,rfl,hB',hJ.1,fun M tM=>⟨N,M,rfl,rfl,?_⟩⟩
    have tNM:=and_tab tN tM
    refine ⟨_,rfl,rfl,_,rfl,?_⟩
    by_cases c0:N &&& M = 0
    · refine iteNe2 (show V.int ((N &&& M:Nat):Int) = V.int 0 by rw [c0]; rfl) ?_
      refine ⟨_,rfl,.inl ⟨rfl,_,SqL.of h2⟩,_,rfl,al,_,_,rfl,rfl,h2,by rw [natW_len,List.length_take]; exact small1000 (by omega),?_⟩
      refine ⟨_,_,g.over fal _,by rw [upd_ne nl]; exact h1,?_,fun m hm c hc e=>?_,rfl⟩
      · rw [upd_same,take_next hN]
        unfold natW
        rw [List.map_append]
        rfl
      · rcases (by omega:m < i∨m = i) with z | z
        · exact no m z c hc e
        · subst z
          have y:=tNM c
          rw [c0,Nat.zero_testBit,decide_eq_true hc,Bool.true_and] at y
          have y2:((rnd os (tB rs k0) (tB rs i0) m).1 c && tB rs j0 c) = false:=y.symm
          rw [e,Bool.true_and] at y2
          exact y2
    · show if (!decide (V.int ((N &&& M:Nat):Int) = V.int 0)) = true then _ else _
      rw [decide_eq_false (fun e=>c0 (by injection e; omega))]
      refine iteT ?_
      have pf:Paired (IsTab os.length) (Ns.take i) ((List.range i).map fun d=>(rnd os (tB rs k0) (tB rs i0) d).1):=by
        refine pd_ext (by rw [List.length_take,List.length_map,List.length_range]; omega) fun j x y hx hy=>?_
        rw [List.getElem?_take] at hx
        split at hx
        · rename_i lt
          rw [List.getElem?_map,List.getElem?_range lt] at hy
          cases hy
          exact (rn.tab j x hx).1
        · cases hx
      refine ⟨_,rfl,_,rfl,_,rfl,_,rfl,b,al,os,rs,F,k0,N &&& M,Ns.take i,_,_,rfl,hB',hW,hk,SqL.of h2,by rw [List.length_take]; omega,pf,tNM,fun l5 H5 qs g5 fl5 hl5 hp5=>?_⟩
      refine q2 l5 H5 qs Ns i (g.trans g5) (g.free fl5) hl5 rn hi ⟨?_,fun j hj c hc e=>no j hj c hc e⟩ hp5
      refine Classical.byContradiction fun nx=>c0 (nat_ext fun c=>?_)
      rw [tNM c,Nat.zero_testBit]
      by_cases hc:c < 2 ^ os.length
      · rw [decide_eq_true hc,Bool.true_and]
        dsimp only
        cases e:((rnd os (tB rs k0) (tB rs i0) i).1 c && Bdd.yes rs j0 (Bdd.rowN c)) with
        | false=>rfl
        | true=>exact absurd ⟨c,hc,((Bool.and_eq_true _ _).mp e).1,((Bool.and_eq_true _ _).mp e).2⟩ nx
      · rw [decide_eq_false hc,Bool.false_and]
  · rintro σ H' ⟨f5,f6,g,h1,h2,no,rfl⟩
    rw [natW_len] at no
    exact q1 H' Ns g rn no
end
end K77
namespace K77
open PySem L2 Sen
section
variable {P:Program} {w:World} {K:PySem.W.Frag} {mg:Str→Option Value} {base:Heap} {a:Ad} {k:Nat}
theorem ok_law_in77 (T:Txt P w K mg a) (G_joined:FnOk P w K mg base CX0 k a.a_joined a.d_joined ["book", "word", "one", "other"] (spJoinedH a.a_Book)):FnOk P w K mg base CX0 (k + 1) a.a_x_law_in a.d_x_law_in ["book", "one", "other"] (spIn a.a_Book):=by
  refine T.F_x_law_in.ok sc_x_law_in (fun vs H Q E h=>?_) (fun cdv A outer s H vs Q E hr h=>?_)
  · obtain ⟨b,os,rs,F,i,j,f,g,rfl,_⟩:=h
    rfl
  obtain ⟨b,os,rs,F,i,j,f,g,rfl,hB,hlen,xi,xj,sub,q⟩:=h
  refine ⟨_,(pss_one (ps_ret (pe_cmpR op_eq (pe_call G_joined hr rfl T.m_joined T.F_joined.2 T.b_joined .nil pass0 (pa_cons (pv 0) (pa_cons pe_str (pa_cons (pv 1) (pa_cons (pv 2) pa_nil))))) pe_int (nomark _)))),?_⟩
  have L:=bookLike a.a_Book
  refine ⟨_,rfl,_,rfl,_,rfl,b,os,rs,F,false,false,true,false,i,j,_,_,rfl,hB,hlen,⟨xi.1,fun _=>rfl⟩,⟨xj.1,fun _=>rfl⟩,fun m rs' H' aw tu hB' gr mn hh=>?_⟩
  have z:m = 0:=((RB.join mn xi xj).zero (L.bk hB')).mpr fun c hc=>by
    show jn false false true false (f c) (g c) = false
    have s:=sub c hc
    cases e1:f c with
    | false=>cases g c <;> rfl
    | true=>rw [s e1]; rfl
  subst z
  exact ⟨rfl,q rs' H' aw tu hB' gr hh⟩
end
end K77
namespace K77
open PySem L2 Sen
section
variable {P:Program} {w:World} {K:PySem.W.Frag} {mg:Str→Option Value} {base:Heap} {a:Ad} {k:Nat}
theorem ok_law (T:Txt P w K mg a)
    (G_x_law_cell_at:FnOk P w K mg base CX0 (k + 1) a.a_x_law_cell_at a.d_x_law_cell_at ["script", "k"] (spCellF K))
    (G_x_law_both:FnOk P w K mg base CX0 (k + 1) a.a_x_law_both a.d_x_law_both ["script"] (spBoth K))
    (G_x_law_told_place:FnOk P w K mg base CX0 (k + 1) a.a_x_law_told_place a.d_x_law_told_place ["script", "at", "order"] (spToldPlace K))
    (G_x_law_sentence:FnOk P w K mg base CX0 (k + 1) a.a_x_law_sentence a.d_x_law_sentence ["script", "at", "many", "order"] (spSentence K))
    (G_x_law_in:FnOk P w K mg base CX0 (k + 1) a.a_x_law_in a.d_x_law_in ["book", "one", "other"] (spIn a.a_Book))
    (G_Book_init:FnOk P w K mg base CX0 k a.a_Book_init a.d_Book_init ["self", "order"] (spBookInit (BookAt a.a_Book) K a.a_Book))
    (G_Book_enter:FnOk P w K mg base CX0 (k + 1) a.a_Book_enter a.d_Book_enter ["self", "sentence"] (spEnterH a.a_Book))
    (G_joined:FnOk P w K mg base CX0 (k + 1) a.a_joined a.d_joined ["book", "word", "one", "other"] (spJoinedH a.a_Book))
    (G_image:FnOk P w K mg base CX0 (k + 1) a.a_image a.d_image ["book", "steps", "room"] (spImage a.a_Book))
    (G_preimage:FnOk P w K mg base CX0 (k + 1) a.a_preimage a.d_preimage ["book", "steps", "room"] (spPreimage a.a_Book))
    (G_reached:FnOk P w K mg base CX0 (k + 1) a.a_reached a.d_reached ["book", "steps", "start"] (spReached a.a_Book))
    (G_stays:FnOk P w K mg base CX0 (k + 1) a.a_stays a.d_stays ["book", "steps", "room"] (spStays a.a_Book))
    (G_rounds:FnOk P w K mg base CX0 (k + 1) a.a_rounds a.d_rounds ["book", "steps", "start"] (spRounds a.a_Book))
    (G_way_to:FnOk P w K mg base CX0 (k + 1) a.a_way_to a.d_way_to ["book", "steps", "start", "goal"] (spWayTo a.a_Book)) :
    FnOk P w K mg base CX0 (k + 2) a.a_law a.d_law ["script"] (spLaw K):=by
  refine T.F_law.ok sc_law (fun vs H Q E h=>?_) (fun cdv A outer s H vs Q E hr h=>?_)
  · obtain ⟨a,ns,rfl,_⟩:=h
    rfl
  obtain ⟨sc,ns,rfl,hS,h63,q⟩:=h
  have L:=bookLike a.a_Book
  have cnt200:∀ {s:Sn} {m:Nat},s.depth≤m→m≤7→s.count≤200:=fun {s m} h1 h2=>by
    have h3:=Sn.count_depth s
    have h4:2 ^ s.depth≤2 ^ 7:=Nat.pow_le_pow_right (by decide) (by omega)
    have h5:2 ^ 7 = 128:=rfl
    omega
  refine cut0 ?_
  refine cutK (fun σ H=>∃ (H1:Hp) (ol bk p0:Addr) (os:List Str) (rs:List Bdd.Rm) (F:Foot) (k0 k1 k2:Nat) (t f g:Nat→Bool) (f5 f6 f7 f8 f9 f10 f11 f12:Option V),Hst a.a_Book K sc ns H1 ol bk os 200 H rs F k0 k1 k2 t f g∧σ = [some (.ref sc),some (.ref bk),some (.int (k0:Nat)),some (.int (k1:Nat)),some (.int (k2:Nat)),f5,f6,f7,f8,f9,f10,f11,f12,some (.ref ol),some (.ref p0)]) (fun t z=>(pss_cons (ps_asg (pe_call G_x_law_both hr rfl T.m_x_law_both T.F_x_law_both.2 T.b_x_law_both .nil pass0 (pa_cons (pv 0) pa_nil)) (pg_tup rfl (pgs_cons (pg_name (i:=13) sc_law.nd rfl (Or.inl rfl)) (pgs_cons (pg_name (i:=14) sc_law.nd rfl (Or.inl rfl)) pgs_nil))))
      (pss_cons (ps_set (i:=1) sc_law.nd rfl (Or.inl rfl) (pe_make T.mk_Book G_Book_init hr rfl T.m_Book T.b_Book_init .nil pass0 (pa_cons (pv 13) pa_nil)))
      (pss_cons (ps_set (i:=2) sc_law.nd rfl (Or.inl rfl) (pe_meth (pv 1) T.c_Book T.e_Book_enter G_Book_enter hr T.b_Book_enter .nil pass0 (pa_cons (pv 14) pa_nil)))
      (pss_cons (ps_set (i:=3) sc_law.nd rfl (Or.inl rfl) (pe_meth (pv 1) T.c_Book T.e_Book_enter G_Book_enter hr T.b_Book_enter .nil pass0 (pa_cons (pe_call G_x_law_told_place hr rfl T.m_x_law_told_place T.F_x_law_told_place.2 T.b_x_law_told_place .nil pass0 (pa_cons (pv 0) (pa_cons pe_int (pa_cons (pv 13) pa_nil)))) pa_nil)))
      (pss_cons (ps_set (i:=4) sc_law.nd rfl (Or.inl rfl) (pe_meth (pv 1) T.c_Book T.e_Book_enter G_Book_enter hr T.b_Book_enter .nil pass0 (pa_cons (pe_call G_x_law_told_place hr rfl T.m_x_law_told_place T.F_x_law_told_place.2 T.b_x_law_told_place .nil pass0 (pa_cons (pv 0) (pa_cons pe_int (pa_cons (pv 13) pa_nil)))) pa_nil)))
      z)))))) ?_ ?_
  · rintro u hu σ H ⟨rfl,rfl⟩
    refine ⟨_,rfl,sc,ns,rfl,hS,fun t ol p0 H0 os s0 g0 ht hol0 ho hW hn sp0=>?_⟩
    refine ⟨t,_,rfl,SqT.of ht,rfl,_,_,rfl,_,_,rfl,rfl,?_⟩
    have hS0:=g0.seq hS
    have o8:=ho.le
    refine ⟨_,rfl,fun bk dx hbk hdx hne=>⟨bk,dx,ol,os,rfl,upd_same,Ne.symm hne,?_,ho,fun H3 F0 keep hB hF=>⟨rfl,?_⟩⟩⟩
    · refine SqL.of ?_
      rw [upd_ne (ne_of_none hol0 hbk),upd_ne (ne_of_none hol0 hdx)]
      exact hol0
    have g13:Same H0 H3:=fun x o e=>keep x o (by rw [upd_ne (ne_of_none e hbk),upd_ne (ne_of_none e hdx)]; exact e) (ne_of_none e hbk)
    have hF1:∀ x,F0 x→H0 x = none:=fun x hx=>by
      rcases hF x hx with z | z | z
      · rw [z]; exact hbk
      · rw [z]; exact hdx
      · by_cases e1:x = bk
        · rw [e1] at z; rw [upd_same] at z; cases z
        · by_cases e2:x = dx
          · rw [e2,upd_ne hne,upd_same] at z; cases z
          · rw [upd_ne e1,upd_ne e2] at z; exact z
    have L0:LedH a.a_Book H0 bk os 0 H3 [none,none] F0:=⟨g13,hF1,hB,Nat.le_refl _⟩
    clear keep hF hF1
    have hS3:=g13.seq hS0
    obtain ⟨dx0,fs,hins,hm⟩:=L.ins L0.bk
    have sp3:=sp0.mono (Tups.of g13)
    refine ⟨_,rfl,bk,dx0,fs,rfl,hins,hm _ (by decide +kernel),_,rfl,bk,p0,os,[none,none],F0,s0,rfl,L0.bk,by decide,sp3.is_,sp3.inO,sp3.ct,sp3.dp,fun k0 rs1 H5 aw1 tu1 hB1 gr1 mk0 hh1=>?_⟩
    have L1:=L0.grow aw1 hB1 hh1
    obtain ⟨dx1,fs1,hins1,hm1⟩:=L.ins L1.bk
    refine ⟨_,rfl,bk,dx1,fs1,rfl,hins1,hm1 _ (by decide +kernel),_,rfl,_,rfl,sc,ol,ns,11,os,rfl,L1.same.seq hS0,SqL.of (L1.same _ _ hol0),o8,hn,by decide,fun p1 H6 s1 g6 sp1=>?_⟩
    have L1':=L1.new g6
    refine ⟨bk,p1,os,rs1,F0,s1,rfl,L1'.bk,by have:=L1'.len; omega,sp1.is_,inO_sub (fun x hx=>(nowM_sub hx).1) sp1.inO,sp1.ct,sp1.dp,fun k1 rs2 H7 aw2 tu2 hB2 gr2 mk1 hh2=>?_⟩
    have L2:=L1'.grow aw2 hB2 hh2
    obtain ⟨dx2,fs2,hins2,hm2⟩:=L.ins L2.bk
    refine ⟨_,rfl,bk,dx2,fs2,rfl,hins2,hm2 _ (by decide +kernel),_,rfl,_,rfl,sc,ol,ns,19,os,rfl,L2.same.seq hS0,SqL.of (L2.same _ _ hol0),o8,hn,by decide,fun p2 H8 s2 g8 sp2=>?_⟩
    have L2':=L2.new g8
    refine ⟨bk,p2,os,rs2,F0,s2,rfl,L2'.bk,by have:=L2'.len; omega,sp2.is_,inO_sub (fun x hx=>(nowM_sub hx).1) sp2.inO,sp2.ct,sp2.dp,fun k2 rs3 H9 aw3 tu3 hB3 gr3 mk2 hh3=>?_⟩
    have L3:=L2'.grow aw3 hB3 hh3
    have B2:=L.bk L2.bk
    exact hu _ _ ⟨H0,ol,bk,p0,os,rs3,F0,k0,k1,k2,_,_,_,_,_,_,_,_,_,_,_,⟨⟨L3.up (by decide),hS0,hol0,ho,hW,hn,Nat.lt_of_lt_of_le mk0.1 (gr2.trans gr3).len,(ofNow_sen ho sp1.inO mk1).grown B2 gr3,ofNow_sen ho sp2.inO mk2⟩,rfl,rfl,rfl⟩,rfl⟩
  refine cutK (fun σ H=>∃ (H1:Hp) (ol bk p0:Addr) (os:List Str) (rs:List Bdd.Rm) (F:Foot) (k0 k1 k2:Nat) (t f g:Nat→Bool) (k5:Nat) (f6 f7 f8 f9 f10 f11 f12:Option V),Hst a.a_Book K sc ns H1 ol bk os 500 H rs F k0 k1 k2 t f g∧RB os rs k5 (aftB os t f)∧σ = [some (.ref sc),some (.ref bk),some (.int (k0:Nat)),some (.int (k1:Nat)),some (.int (k2:Nat)),some (.int (k5:Nat)),f6,f7,f8,f9,f10,f11,f12,some (.ref ol),some (.ref p0)]) (fun t z=>(pss_cons (ps_set (i:=5) sc_law.nd rfl (Or.inl rfl) (pe_call G_image hr rfl T.m_image T.F_image.2 T.b_image .nil pass0 (pa_cons (pv 1) (pa_cons (pv 2) (pa_cons (pv 3) pa_nil)))))
      (pss_cons (ps_set (i:=6) sc_law.nd rfl (Or.inl rfl) (pe_cmpR op_ne (pe_call G_joined hr rfl T.m_joined T.F_joined.2 T.b_joined .nil pass0 (pa_cons (pv 1) (pa_cons pe_str (pa_cons (pv 5) (pa_cons (pv 4) pa_nil))))) pe_int (nomark _)))
      (pss_cons (ps_if (pt_cmpR op_ne (pv 6) (pe_cmpR op_ne (pe_call G_joined hr rfl T.m_joined T.F_joined.2 T.b_joined .nil pass0 (pa_cons (pv 1) (pa_cons pe_str (pa_cons (pv 3) (pa_cons (pe_call G_preimage hr rfl T.m_preimage T.F_preimage.2 T.b_preimage .nil pass0 (pa_cons (pv 1) (pa_cons (pv 2) (pa_cons (pv 4) pa_nil)))) pa_nil))))) pe_int (nomark _)) (nomark _)) (pss_one (ps_ret pe_bl)) pss_nil)
      z)))) ?_ ?_
  · rintro u hu σ H ⟨H1,ol,bk,p0,os,rs,F,k0,k1,k2,t,f,g,f5,f6,f7,f8,f9,f10,f11,f12,W,rfl⟩
    have ho:=W.w.ho
    have hW:=W.w.hW
    have l0:=W.w.led.len
    refine ⟨_,rfl,_,rfl,_,rfl,bk,os,rs,F,k0,k1,rfl,W.w.led.bk,by omega,hW,W.w.k0l,W.w.n1,fun k5 rs2 H2 aw2 tu2 hB2 gr2 mn2 hh2=>?_⟩
    have x5:RB os rs2 k5 (aftB os t f):=by have:=RB.means mn2; rw [← W.e0,← W.e1]; exact this
    have W2:=W.grow aw2 hB2 gr2 hh2
    have l2:=W2.w.led.len
    refine ⟨_,rfl,_,rfl,_,rfl,bk,os,rs2,F,false,false,false,true,k5,k2,_,_,rfl,W2.w.led.bk,by omega,⟨x5.1,fun _=>rfl⟩,⟨W2.w.n2.1,fun _=>rfl⟩,fun m3 rs3 H3 aw3 tu3 hB3 gr3 mn3 hh3=>?_⟩
    have x3:=RB.join mn3 x5 W2.r2
    have W3:=W2.grow aw3 hB3 gr3 hh3
    have l3:=W3.w.led.len
    refine ⟨rfl,?_⟩
    refine ⟨_,rfl,_,rfl,_,rfl,_,rfl,_,rfl,_,rfl,bk,os,rs3,F,k0,k2,rfl,W3.w.led.bk,by omega,hW,W3.w.k0l,W3.w.n2,fun k4 rs4 H4 aw4 tu4 hB4 gr4 mn4 hh4=>?_⟩
    have x4:RB os rs4 k4 (befB os t g):=by have:=RB.means mn4; rw [← W3.e0,← W3.e2]; exact this
    have W4:=W3.grow aw4 hB4 gr4 hh4
    have l4:=W4.w.led.len
    refine ⟨bk,os,rs4,F,false,false,false,true,k1,k4,_,_,rfl,W4.w.led.bk,by omega,⟨W4.w.n1.1,fun _=>rfl⟩,⟨x4.1,fun _=>rfl⟩,fun m5 rs5 H5 aw5 tu5 hB5 gr5 mn5 hh5=>?_⟩
    have y5:=RB.join mn5 W4.r1 x4
    have W5:=W4.grow aw5 hB5 gr5 hh5
    have z3:=(x3.grown W3.w.B (gr4.trans gr5)).zero W5.w.B
    have z5:=y5.zero W5.w.B
    simp only [jn_and] at z3 z5
    have key:m3 = 0↔m5 = 0:=by
      rw [z3,z5,meet_iff,meet_iff,aft_bef ho hW W.f1 W.f2]
    refine ⟨rfl,rfl,_,rfl,iteNe2 (ne0_eq key) ?_⟩
    exact hu _ _ ⟨H1,ol,bk,p0,os,rs5,F,k0,k1,k2,t,f,g,k5,_,_,_,_,_,_,_,W5.up (by decide),x5.grown W2.w.B (gr3.trans (gr4.trans gr5)),rfl⟩
  refine cutK (fun σ H=>∃ (H1:Hp) (ol bk p0:Addr) (os:List Str) (rs:List Bdd.Rm) (F:Foot) (k0 k1 k2:Nat) (t f g:Nat→Bool) (k5:Nat) (f6 f7 f8 f9 f10 f11 f12:Option V),Hst a.a_Book K sc ns H1 ol bk os 800 H rs F k0 k1 k2 t f g∧RB os rs k5 (aftB os t f)∧σ = [some (.ref sc),some (.ref bk),some (.int (k0:Nat)),some (.int (k1:Nat)),some (.int (k2:Nat)),some (.int (k5:Nat)),f6,f7,f8,f9,f10,f11,f12,some (.ref ol),some (.ref p0)]) (fun t z=>(pss_cons (ps_set (i:=7) sc_law.nd rfl (Or.inl rfl) (pe_call G_image hr rfl T.m_image T.F_image.2 T.b_image .nil pass0 (pa_cons (pv 1) (pa_cons (pv 2) (pa_cons (pe_call G_joined hr rfl T.m_joined T.F_joined.2 T.b_joined .nil pass0 (pa_cons (pv 1) (pa_cons pe_str (pa_cons (pv 3) (pa_cons (pv 4) pa_nil))))) pa_nil)))))
      (pss_cons (ps_if (pt_cmpR op_ne (pv 7) (pe_call G_joined hr rfl T.m_joined T.F_joined.2 T.b_joined .nil pass0 (pa_cons (pv 1) (pa_cons pe_str (pa_cons (pv 5) (pa_cons (pe_call G_image hr rfl T.m_image T.F_image.2 T.b_image .nil pass0 (pa_cons (pv 1) (pa_cons (pv 2) (pa_cons (pv 4) pa_nil)))) pa_nil))))) (nomark _)) (pss_one (ps_ret pe_bl)) pss_nil)
      z))) ?_ ?_
  · rintro u hu σ H ⟨H1,ol,bk,p0,os,rs,F,k0,k1,k2,t,f,g,k5,f6,f7,f8,f9,f10,f11,f12,W,x5,rfl⟩
    have ho:=W.w.ho
    have hW:=W.w.hW
    have l0:=W.w.led.len
    refine ⟨_,rfl,_,rfl,_,rfl,_,rfl,_,rfl,bk,os,rs,F,false,true,true,true,k1,k2,_,_,rfl,W.w.led.bk,by omega,⟨W.w.n1.1,fun _=>rfl⟩,⟨W.w.n2.1,fun _=>rfl⟩,fun m2 rs2 H2 aw2 tu2 hB2 gr2 mn2 hh2=>?_⟩
    have x2:=RB.join mn2 W.r1 W.r2
    simp only [jn_or] at x2
    have W2:=W.grow aw2 hB2 gr2 hh2
    have l2:=W2.w.led.len
    refine ⟨bk,os,rs2,F,k0,m2,rfl,W2.w.led.bk,by omega,hW,W2.w.k0l,x2.now (freeW_or W.f1 W.f2),fun k7 rs3 H3 aw3 tu3 hB3 gr3 mn3 hh3=>?_⟩
    have x7:RB os rs3 k7 (fun b=>aftB os t f b || aftB os t g b):=(RB.means mn3).to fun b hb=>by
      rw [← aft_or]
      exact aft_congr ho hW hb (fun c hc=>x2.2 c hc) (fun c hc=>W2.r0.2 c hc)
    have W3:=W2.grow aw3 hB3 gr3 hh3
    have l3:=W3.w.led.len
    refine ⟨_,rfl,_,rfl,_,rfl,_,rfl,_,rfl,_,rfl,bk,os,rs3,F,k0,k2,rfl,W3.w.led.bk,by omega,hW,W3.w.k0l,W3.w.n2,fun k4 rs4 H4 aw4 tu4 hB4 gr4 mn4 hh4=>?_⟩
    have x4:RB os rs4 k4 (aftB os t g):=by have:=RB.means mn4; rw [← W3.e0,← W3.e2]; exact this
    have W4:=W3.grow aw4 hB4 gr4 hh4
    have l4:=W4.w.led.len
    have x5':=x5.grown W.w.B (gr2.trans (gr3.trans gr4))
    refine ⟨bk,os,rs4,F,false,true,true,true,k5,k4,_,_,rfl,W4.w.led.bk,by omega,⟨x5'.1,fun _=>rfl⟩,⟨x4.1,fun _=>rfl⟩,fun m5 rs5 H5 aw5 tu5 hB5 gr5 mn5 hh5=>?_⟩
    have y5:=RB.join mn5 x5' x4
    simp only [jn_or] at y5
    have W5:=W4.grow aw5 hB5 gr5 hh5
    have key:k7 = m5:=(x7.grown W3.w.B (gr4.trans gr5)).one W5.w.B y5 fun _ _=>rfl
    refine ⟨rfl,_,rfl,iteNe2 (by rw [key]) ?_⟩
    exact hu _ _ ⟨H1,ol,bk,p0,os,rs5,F,k0,k1,k2,t,f,g,k5,_,_,_,_,_,_,_,W5.up (by decide),x5'.grown W4.w.B gr5,rfl⟩
  refine cutK (fun σ H=>∃ (H1:Hp) (ol bk p0:Addr) (os:List Str) (rs:List Bdd.Rm) (F:Foot) (k0 k1 k2:Nat) (t f g:Nat→Bool) (k5 k8:Nat) (Ns:List Nat) (f6 f7 f9 f10 f11 f12:Option V),Hst a.a_Book K sc ns H1 ol bk os 1100 H rs F k0 k1 k2 t f g∧RB os rs k5 (aftB os t f)∧RB os rs k8 (rnd os t f Ns.length).2∧Rnds os t f Ns∧σ = [some (.ref sc),some (.ref bk),some (.int (k0:Nat)),some (.int (k1:Nat)),some (.int (k2:Nat)),some (.int (k5:Nat)),f6,f7,some (.int (k8:Nat)),f9,f10,f11,f12,some (.ref ol),some (.ref p0)]) (fun t z=>(pss_cons (ps_set (i:=8) sc_law.nd rfl (Or.inl rfl) (pe_call G_reached hr rfl T.m_reached T.F_reached.2 T.b_reached .nil pass0 (pa_cons (pv 1) (pa_cons (pv 2) (pa_cons (pv 3) pa_nil)))))
      (pss_cons (ps_if (PW.pt (pw_or (pt_not (pt_truth (pe_call G_x_law_in hr rfl T.m_x_law_in T.F_x_law_in.2 T.b_x_law_in .nil pass0 (pa_cons (pv 1) (pa_cons (pv 3) (pa_cons (pv 8) pa_nil)))) (fun _=>rfl))) (pw_or1 (pt_not (pt_truth (pe_call G_x_law_in hr rfl T.m_x_law_in T.F_x_law_in.2 T.b_x_law_in .nil pass0 (pa_cons (pv 1) (pa_cons (pe_call G_image hr rfl T.m_image T.F_image.2 T.b_image .nil pass0 (pa_cons (pv 1) (pa_cons (pv 2) (pa_cons (pv 8) pa_nil)))) (pa_cons (pv 8) pa_nil)))) (fun _=>rfl)))))) (pss_one (ps_ret pe_bl)) pss_nil)
      z))) ?_ ?_
  · rintro u hu σ H ⟨H1,ol,bk,p0,os,rs,F,k0,k1,k2,t,f,g,k5,f6,f7,f8,f9,f10,f11,f12,W,x5,rfl⟩
    have ho:=W.w.ho
    have hW:=W.w.hW
    have l0:=W.w.led.len
    refine ⟨_,rfl,_,rfl,_,rfl,bk,os,rs,F,k0,k1,rfl,W.w.led.bk,by omega,hW,W.w.k0l,W.w.n1,fun Ns rn ln k8 rs2 H2 aw2 tu2 hB2 gr2 mn2 hh2=>?_⟩
    rw [W.e0,W.e1] at rn
    have x8:RB os rs2 k8 (rnd os t f Ns.length).2:=by have:=RB.means mn2; rw [W.e0,W.e1] at this; exact this
    have W2:=W.grow aw2 hB2 gr2 hh2
    have l2:=W2.w.led.len
    refine ⟨_,rfl,_,rfl,_,rfl,bk,os,rs2,F,k1,k8,f,_,rfl,W2.w.led.bk,by omega,W2.r1,x8,fun c hc e=>rn.start hc e,fun rs3 H3 aw3 tu3 hB3 gr3 hh3=>?_⟩
    refine ⟨_,rfl,iteF ?_⟩
    have W3:=W2.grow aw3 hB3 gr3 hh3
    have l3:=W3.w.led.len
    have x83:=x8.grown W2.w.B gr3
    refine ⟨_,rfl,_,rfl,_,rfl,_,rfl,bk,os,rs3,F,k0,k8,rfl,W3.w.led.bk,by omega,hW,W3.w.k0l,x83.now fun p hp=>(rnd_free ho hW W.f1 _ p hp).2,fun k4 rs4 H4 aw4 tu4 hB4 gr4 mn4 hh4=>?_⟩
    have x4:RB os rs4 k4 (aftB os t (rnd os t f Ns.length).2):=(RB.means mn4).to fun b hb=>aft_congr ho hW hb (fun c hc=>x83.2 c hc) (fun c hc=>W3.r0.2 c hc)
    have W4:=W3.grow aw4 hB4 gr4 hh4
    have l4:=W4.w.led.len
    have x84:=x83.grown W3.w.B gr4
    refine ⟨_,rfl,bk,os,rs4,F,k4,k8,_,_,rfl,W4.w.led.bk,by omega,x4,x84,fun c hc e=>rn.closed hc e,fun rs5 H5 aw5 tu5 hB5 gr5 hh5=>?_⟩
    refine ⟨_,rfl,iteF ?_⟩
    have W5:=W4.grow aw5 hB5 gr5 hh5
    exact hu _ _ ⟨H1,ol,bk,p0,os,rs5,F,k0,k1,k2,t,f,g,k5,k8,Ns,_,_,_,_,_,_,W5.up (by decide),x5.grown W.w.B (gr2.trans (gr3.trans (gr4.trans gr5))),x84.grown W4.w.B gr5,rn,rfl⟩
  refine cutK (fun σ H=>∃ (H1:Hp) (ol bk p0:Addr) (os:List Str) (rs:List Bdd.Rm) (F:Foot) (k0 k1 k2:Nat) (t f g:Nat→Bool) (k5 k8:Nat) (Ns:List Nat) (f6 f7 f9 f10 f11 f12:Option V),Hst a.a_Book K sc ns H1 ol bk os 1200 H rs F k0 k1 k2 t f g∧RB os rs k5 (aftB os t f)∧RB os rs k8 (rnd os t f Ns.length).2∧Rnds os t f Ns∧σ = [some (.ref sc),some (.ref bk),some (.int (k0:Nat)),some (.int (k1:Nat)),some (.int (k2:Nat)),some (.int (k5:Nat)),f6,f7,some (.int (k8:Nat)),f9,f10,f11,f12,some (.ref ol),some (.ref p0)]) (fun t z=>(pss_cons (ps_if (pt_cmpR op_ne (pe_cmpR op_isN (pe_call G_way_to hr rfl T.m_way_to T.F_way_to.2 T.b_way_to .nil pass0 (pa_cons (pv 1) (pa_cons (pv 2) (pa_cons (pv 3) (pa_cons (pv 4) pa_nil))))) pe_non (nomark _)) (pe_cmpR op_eq (pe_call G_joined hr rfl T.m_joined T.F_joined.2 T.b_joined .nil pass0 (pa_cons (pv 1) (pa_cons pe_str (pa_cons (pv 8) (pa_cons (pv 4) pa_nil))))) pe_int (nomark _)) (nomark _)) (pss_one (ps_ret pe_bl)) pss_nil)
      z)) ?_ ?_
  · rintro u hu σ H ⟨H1,ol,bk,p0,os,rs,F,k0,k1,k2,t,f,g,k5,k8,Ns,f6,f7,f9,f10,f11,f12,W,x5,x8,rn,rfl⟩
    have ho:=W.w.ho
    have hW:=W.w.hW
    have l0:=W.w.led.len
    refine ⟨_,rfl,_,rfl,_,rfl,_,rfl,bk,os,rs,F,k0,k1,k2,rfl,W.w.led.bk,hW,W.w.k0l,W.w.n1,W.w.n2,fun H2 Ms s2 rm no=>?_,fun l H2 qs Ms m s2 fl hl rm lm mt hp=>?_⟩
    · rw [W.e0,W.e1] at rm no
      rw [W.e2] at no
      rw [rm.eq rn] at no
      have W2:=W.new s2
      refine ⟨rfl,_,rfl,_,rfl,_,rfl,bk,os,rs,F,false,false,false,true,k8,k2,_,_,rfl,W2.w.led.bk,by omega,⟨x8.1,fun _=>rfl⟩,⟨W2.w.n2.1,fun _=>rfl⟩,fun m3 rs3 H3 aw3 tu3 hB3 gr3 mn3 hh3=>?_⟩
      have x3:=RB.join mn3 x8 W2.r2
      simp only [jn_and] at x3
      have W3:=W2.grow aw3 hB3 gr3 hh3
      have z:m3 = 0:=(x3.zero W3.w.B).mpr fun c hc=>by
        cases e:((rnd os t f Ns.length).2 c && g c) with
        | false=>rfl
        | true =>
          obtain ⟨e1,e2⟩:=(Bool.and_eq_true _ _).mp e
          obtain ⟨j,hj,e3⟩:=(rnd_some f _ c).mp e1
          rw [no j hj c hc e3] at e2
          cases e2
      subst z
      refine ⟨rfl,rfl,_,rfl,iteNe2 rfl ?_⟩
      exact hu _ _ ⟨H1,ol,bk,p0,os,rs3,F,k0,k1,k2,t,f,g,k5,k8,Ns,_,_,_,_,_,_,W3.up (by decide),x5.grown W.w.B gr3,x8.grown W.w.B gr3,rn,rfl⟩
    · rw [W.e0,W.e1] at rm mt
      rw [W.e2] at mt
      rw [rm.eq rn] at lm
      have W2:=W.new s2
      refine ⟨rfl,_,rfl,_,rfl,_,rfl,bk,os,rs,F,false,false,false,true,k8,k2,_,_,rfl,W2.w.led.bk,by omega,⟨x8.1,fun _=>rfl⟩,⟨W2.w.n2.1,fun _=>rfl⟩,fun m3 rs3 H3 aw3 tu3 hB3 gr3 mn3 hh3=>?_⟩
      have x3:=RB.join mn3 x8 W2.r2
      simp only [jn_and] at x3
      have W3:=W2.grow aw3 hB3 gr3 hh3
      have z:m3≠0:=fun e=>by
        obtain ⟨⟨c,hc,e1,e2⟩,_⟩:=mt
        have y:=(x3.zero W3.w.B).mp e c hc
        rw [(rnd_some f _ c).mpr ⟨m,lm,e1⟩,e2] at y
        cases y
      refine ⟨rfl,rfl,_,rfl,iteNe2 (show V.bl false = V.bl (decide (V.int (m3:Nat) = V.int 0)) by rw [decide_eq_false (fun e=>z (int0.mp e))]) ?_⟩
      exact hu _ _ ⟨H1,ol,bk,p0,os,rs3,F,k0,k1,k2,t,f,g,k5,k8,Ns,_,_,_,_,_,_,W3.up (by decide),x5.grown W.w.B gr3,x8.grown W.w.B gr3,rn,rfl⟩
  refine cutK (fun σ H=>∃ (H1:Hp) (ol bk p0:Addr) (os:List Str) (rs:List Bdd.Rm) (F:Foot) (k0 k1 k2:Nat) (t f g:Nat→Bool) (k8:Nat) (Ns:List Nat) (f5 f6 f7 f9 f10 f11 f12:Option V),Hst a.a_Book K sc ns H1 ol bk os 1700 H rs F k0 k1 k2 t f g∧RB os rs k8 (rnd os t f Ns.length).2∧Rnds os t f Ns∧σ = [some (.ref sc),some (.ref bk),some (.int (k0:Nat)),some (.int (k1:Nat)),some (.int (k2:Nat)),f5,f6,f7,some (.int (k8:Nat)),f9,f10,f11,f12,some (.ref ol),some (.ref p0)]) (fun t z=>(pss_cons (ps_set (i:=9) sc_law.nd rfl (Or.inl rfl) (pe_meth (pv 1) T.c_Book T.e_Book_enter G_Book_enter hr T.b_Book_enter .nil pass0 (pa_cons (pe_call G_x_law_sentence hr rfl T.m_x_law_sentence T.F_x_law_sentence.2 T.b_x_law_sentence .nil pass0 (pa_cons (pv 0) (pa_cons pe_int (pa_cons (pe_op op_add pe_int (pe_op op_mod (pe_call G_x_law_cell_at hr rfl T.m_x_law_cell_at T.F_x_law_cell_at.2 T.b_x_law_cell_at .nil pass0 (pa_cons (pv 0) (pa_cons pe_int pa_nil))) pe_int)) (pa_cons (pv 13) pa_nil))))) pa_nil)))
      (pss_cons (ps_if (pt_cmpR op_ne (pe_call G_image hr rfl T.m_image T.F_image.2 T.b_image .nil pass0 (pa_cons (pv 1) (pa_cons (pe_call G_joined hr rfl T.m_joined T.F_joined.2 T.b_joined .nil pass0 (pa_cons (pv 1) (pa_cons pe_str (pa_cons (pv 2) (pa_cons (pv 9) pa_nil))))) (pa_cons (pv 3) pa_nil)))) (pe_call G_joined hr rfl T.m_joined T.F_joined.2 T.b_joined .nil pass0 (pa_cons (pv 1) (pa_cons pe_str (pa_cons (pv 5) (pa_cons (pe_call G_image hr rfl T.m_image T.F_image.2 T.b_image .nil pass0 (pa_cons (pv 1) (pa_cons (pv 9) (pa_cons (pv 3) pa_nil)))) pa_nil))))) (nomark _)) (pss_one (ps_ret pe_bl)) pss_nil)
      z))) ?_ ?_
  · rintro u hu σ H ⟨H1,ol,bk,p0,os,rs,F,k0,k1,k2,t,f,g,k5,k8,Ns,f6,f7,f9,f10,f11,f12,W,x5,x8,rn,rfl⟩
    have ho:=W.w.ho
    have hW:=W.w.hW
    have l0:=W.w.led.len
    have o8:=ho.le
    have hol:=W.w.led.same _ _ W.w.hol
    have hS:=W.w.led.same.seq W.w.hS
    have m0:0≤cellF ns 31 % 6:=Int.emod_nonneg _ (by decide)
    have m1:cellF ns 31 % 6 < 6:=Int.emod_lt_of_pos _ (by decide)
    have em:(2:Int) + cellF ns 31 % 6 = (((2 + cellF ns 31 % 6).toNat:Nat):Int):=by omega
    obtain ⟨dx1,fs1,hins1,hm1⟩:=L.ins W.w.led.bk
    refine ⟨_,rfl,bk,dx1,fs1,rfl,hins1,hm1 _ (by decide +kernel),_,rfl,_,rfl,sc,ns,31,rfl,hS,_,6,rfl,rfl,(show (0:Int) < 6 by decide),2,_,rfl,rfl,_,rfl,sc,ol,ns,32,(2 + cellF ns 31 % 6).toNat,os,?_,hS,SqL.of hol,ho.pos,o8,by omega,by omega,by decide,fun p3 H2 s3 g2 is3 in3 d3=>?_⟩
    · show [V.ref sc,V.int 32,V.int (2 + cellF ns 31 % 6),V.ref ol] = _
      rw [em]; rfl
    have W2:=W.new g2
    refine ⟨bk,p3,os,rs,F,s3,rfl,W2.w.led.bk,by omega,is3,in3,cnt200 d3 (by omega),by omega,fun k9 rs3 H3 aw3 tu3 hB3 gr3 mn3 hh3=>?_⟩
    have W3:=W2.grow aw3 hB3 gr3 hh3
    have l3:=W3.w.led.len
    have x9:=RB.self (os:=os) mn3.1
    refine ⟨_,rfl,_,rfl,_,rfl,_,rfl,bk,os,rs3,F,false,true,true,true,k0,k9,_,_,rfl,W3.w.led.bk,by omega,⟨W3.w.k0l,fun _=>rfl⟩,⟨mn3.1,fun _=>rfl⟩,fun m4 rs4 H4 aw4 tu4 hB4 gr4 mn4 hh4=>?_⟩
    have x4:=RB.join mn4 W3.r0 x9
    simp only [jn_or] at x4
    have W4:=W3.grow aw4 hB4 gr4 hh4
    have l4:=W4.w.led.len
    refine ⟨_,rfl,bk,os,rs4,F,m4,k1,rfl,W4.w.led.bk,by omega,hW,x4.1,W4.w.n1,fun k6 rs5 H5 aw5 tu5 hB5 gr5 mn5 hh5=>?_⟩
    have x6:RB os rs5 k6 (fun b=>aftB os t f b || aftB os (tB rs3 k9) f b):=(RB.means mn5).to fun b hb=>by
      rw [← aft_steps]
      exact aft_congr ho hW hb (fun c hc=>W4.r1.2 c hc) (fun c hc=>x4.2 c hc)
    have W5:=W4.grow aw5 hB5 gr5 hh5
    have l5:=W5.w.led.len
    have x95:=x9.grown W3.w.B (gr4.trans gr5)
    refine ⟨_,rfl,_,rfl,_,rfl,_,rfl,_,rfl,bk,os,rs5,F,k9,k1,rfl,W5.w.led.bk,by omega,hW,x95.1,W5.w.n1,fun k7 rs6 H6 aw6 tu6 hB6 gr6 mn6 hh6=>?_⟩
    have x7:RB os rs6 k7 (aftB os (tB rs3 k9) f):=(RB.means mn6).to fun b hb=>aft_congr ho hW hb (fun c hc=>W5.r1.2 c hc) (fun c hc=>x95.2 c hc)
    have W6:=W5.grow aw6 hB6 gr6 hh6
    have l6:=W6.w.led.len
    have x56:=x5.grown W.w.B (gr3.trans (gr4.trans (gr5.trans gr6)))
    refine ⟨bk,os,rs6,F,false,true,true,true,k5,k7,_,_,rfl,W6.w.led.bk,by omega,⟨x56.1,fun _=>rfl⟩,⟨x7.1,fun _=>rfl⟩,fun m7 rs7 H7 aw7 tu7 hB7 gr7 mn7 hh7=>?_⟩
    have y7:=RB.join mn7 x56 x7
    simp only [jn_or] at y7
    have W7:=W6.grow aw7 hB7 gr7 hh7
    have key:k6 = m7:=(x6.grown W5.w.B (gr6.trans gr7)).one W7.w.B y7 fun _ _=>rfl
    refine ⟨rfl,_,rfl,iteNe2 (by rw [key]) ?_⟩
    exact hu _ _ ⟨H1,ol,bk,p0,os,rs7,F,k0,k1,k2,t,f,g,k8,Ns,_,_,_,_,_,_,_,W7.up (by decide),x8.grown W.w.B (gr3.trans (gr4.trans (gr5.trans (gr6.trans gr7)))),rn,rfl⟩
  refine cutK (fun σ H=>∃ (H1:Hp) (ol bk p0:Addr) (os:List Str) (rs:List Bdd.Rm) (F:Foot) (k0 k1 k2:Nat) (t f g:Nat→Bool) (k8:Nat) (Ns:List Nat) (f5 f6 f7 f9 f10 f11 f12:Option V),Hst a.a_Book K sc ns H1 ol bk os 2000 H rs F k0 k1 k2 t f g∧RB os rs k8 (rnd os t f Ns.length).2∧Rnds os t f Ns∧σ = [some (.ref sc),some (.ref bk),some (.int (k0:Nat)),some (.int (k1:Nat)),some (.int (k2:Nat)),f5,f6,f7,some (.int (k8:Nat)),f9,f10,f11,f12,some (.ref ol),some (.ref p0)]) (fun t z=>(pss_cons (ps_set (i:=10) sc_law.nd rfl (Or.inl rfl) (pe_call G_stays hr rfl T.m_stays T.F_stays.2 T.b_stays .nil pass0 (pa_cons (pv 1) (pa_cons (pv 2) (pa_cons (pv 3) pa_nil)))))
      (pss_cons (ps_if (PW.pt (pw_or (pt_not (pt_truth (pe_call G_x_law_in hr rfl T.m_x_law_in T.F_x_law_in.2 T.b_x_law_in .nil pass0 (pa_cons (pv 1) (pa_cons (pv 10) (pa_cons (pv 3) pa_nil)))) (fun _=>rfl))) (pw_or1 (pt_not (pt_truth (pe_call G_x_law_in hr rfl T.m_x_law_in T.F_x_law_in.2 T.b_x_law_in .nil pass0 (pa_cons (pv 1) (pa_cons (pv 10) (pa_cons (pe_call G_preimage hr rfl T.m_preimage T.F_preimage.2 T.b_preimage .nil pass0 (pa_cons (pv 1) (pa_cons (pv 2) (pa_cons (pv 10) pa_nil)))) pa_nil)))) (fun _=>rfl)))))) (pss_one (ps_ret pe_bl)) pss_nil)
      z))) ?_ ?_
  · rintro u hu σ H ⟨H1,ol,bk,p0,os,rs,F,k0,k1,k2,t,f,g,k8,Ns,f5,f6,f7,f9,f10,f11,f12,W,x8,rn,rfl⟩
    have ho:=W.w.ho
    have hW:=W.w.hW
    have l0:=W.w.led.len
    refine ⟨_,rfl,_,rfl,_,rfl,bk,os,rs,F,k0,k1,rfl,W.w.led.bk,by omega,hW,W.w.k0l,W.w.n1,fun y hy kh rs2 H2 aw2 tu2 hB2 gr2 mn2 hh2=>?_⟩
    rw [W.e0,W.e1] at hy
    have xh:RB os rs2 kh y:=RB.means mn2
    have W2:=W.grow aw2 hB2 gr2 hh2
    have l2:=W2.w.led.len
    refine ⟨_,rfl,_,rfl,_,rfl,bk,os,rs2,F,kh,k1,y,f,rfl,W2.w.led.bk,by omega,xh,W2.r1,hy.sub,fun rs3 H3 aw3 tu3 hB3 gr3 hh3=>?_⟩
    refine ⟨_,rfl,iteF ?_⟩
    have W3:=W2.grow aw3 hB3 gr3 hh3
    have l3:=W3.w.led.len
    have xh3:=xh.grown W2.w.B gr3
    refine ⟨_,rfl,_,rfl,_,rfl,_,rfl,_,rfl,bk,os,rs3,F,k0,kh,rfl,W3.w.led.bk,by omega,hW,W3.w.k0l,xh3.now hy.fre,fun k4 rs4 H4 aw4 tu4 hB4 gr4 mn4 hh4=>?_⟩
    have x4:RB os rs4 k4 (befB os t y):=(RB.means mn4).to fun b hb=>by
      have e:(fun c=>Bdd.yes rs3 k0 (Bdd.rowN c)) = t:=W3.e0
      rw [e]
      exact bef_congr ho hW hb fun c hc=>xh3.2 c hc
    have W4:=W3.grow aw4 hB4 gr4 hh4
    have l4:=W4.w.led.len
    refine ⟨bk,os,rs4,F,kh,k4,_,_,rfl,W4.w.led.bk,by omega,xh3.grown W3.w.B gr4,x4,hy.led,fun rs5 H5 aw5 tu5 hB5 gr5 hh5=>?_⟩
    refine ⟨_,rfl,iteF ?_⟩
    have W5:=W4.grow aw5 hB5 gr5 hh5
    exact hu _ _ ⟨H1,ol,bk,p0,os,rs5,F,k0,k1,k2,t,f,g,k8,Ns,_,_,_,_,_,_,_,W5.up (by decide),x8.grown W.w.B (gr2.trans (gr3.trans (gr4.trans gr5))),rn,rfl⟩
  refine ⟨_,(pss_cons (ps_set (i:=11) sc_law.nd rfl (Or.inl rfl) pe_int)
      (pss_cons (ps_for PassesOwn.never rfl (pi_list (pe_call G_rounds hr rfl T.m_rounds T.F_rounds.2 T.b_rounds .nil pass0 (pa_cons (pv 1) (pa_cons (pv 2) (pa_cons (pv 3) pa_nil))))) (pg_name (i:=12) sc_law.nd rfl (Or.inl rfl)) (pss_cons (ps_if (PW.pt (pw_or (pt_cmpR op_ne (pe_call G_joined hr rfl T.m_joined T.F_joined.2 T.b_joined .nil pass0 (pa_cons (pv 1) (pa_cons pe_str (pa_cons (pv 11) (pa_cons (pv 12) pa_nil))))) pe_int (nomark _)) (pw_or1 (pt_cmpR op_eq (pv 12) pe_int (nomark _))))) (pss_one (ps_ret pe_bl)) pss_nil)
      (pss_one (ps_set (i:=11) sc_law.nd rfl (Or.inl rfl) (pe_call G_joined hr rfl T.m_joined T.F_joined.2 T.b_joined .nil pass0 (pa_cons (pv 1) (pa_cons pe_str (pa_cons (pv 11) (pa_cons (pv 12) pa_nil)))))))))
      (pss_one (ps_ret (pe_cmpR op_eq (pv 11) (pv 8) (nomark _)))))),?_⟩
  rintro σ H ⟨H1,ol,bk,p0,os,rs,F,k0,k1,k2,t,f,g,k8,Ns,f5,f6,f7,f9,f10,f11,f12,W,x8,rn,rfl⟩
  have ho:=W.w.ho
  have hW:=W.w.hW
  have l0:=W.w.led.len
  refine ⟨_,rfl,_,rfl,_,rfl,bk,os,rs,F,k0,k1,rfl,W.w.led.bk,by omega,hW,W.w.k0l,W.w.n1,fun l H2 rs2 js Ms aw2 tu2 hB2 gr2 hh2 fl nF hl pj oj rm lm=>?_⟩
  rw [W.e0,W.e1] at rm
  have eM:=rm.eq rn
  subst eM
  have W2:=(W.grow aw2 hB2 gr2 hh2).up (show 2000 + 16128≤20000 by decide)
  have lj:=pd_len pj
  refine ⟨l,rfl,⟨_,SqL.of hl⟩,?_⟩
  refine for_list (xs:=natW js) (fun i σ H'=>∃ (rs':List Bdd.Rm) (sn:Nat) (f12:Option V),Hst a.a_Book K sc ns H1 ol bk os (20000 + 126 * i) H' rs' F k0 k1 k2 t f g∧Bdd.Grown rs2 rs'∧H' l = some (.lst (natW js))∧RB os rs' sn (rnd os t f i).2∧σ = [some (.ref sc),some (.ref bk),some (.int (k0:Nat)),some (.int (k1:Nat)),some (.int (k2:Nat)),f5,f6,f7,some (.int (k8:Nat)),f9,f10,some (.int (sn:Nat)),f12,some (.ref ol),some (.ref p0)]) ⟨rs2,0,_,W2,Bdd.Grown.refl _,hl,RB.no W2.w.B,rfl⟩ ?_ ?_ ?_
  · rintro i σ H' _ ⟨rs',sn,f12,_,_,h,_⟩
    exact SqL.of h
  · rintro i x σ H' hx ⟨rs',sn,f12,W3,gr3,hl3,x3,rfl⟩
    obtain ⟨j,hj,rfl⟩:=natW_b hx
    have hi:=(List.getElem?_eq_some_iff.mp hj).1
    obtain ⟨N,hN,tj⟩:=pd_at pj hj
    obtain ⟨tN,nz⟩:=rm.tab i N hN
    have xj2:RB os rs2 j (rnd os t f i).1:=⟨tj.1,fun b hb=>tab_on tj.2 tN hb⟩
    have xj:=xj2.grown W2.w.B gr3
    have l3:=W3.w.led.len
    have lm':js.length≤256:=by omega
    refine ⟨_,rfl,_,rfl,_,rfl,bk,os,rs',F,false,false,false,true,sn,j,_,_,rfl,W3.w.led.bk,by omega,⟨x3.1,fun _=>rfl⟩,⟨xj.1,fun _=>rfl⟩,fun m4 rs4 H4 aw4 tu4 hB4 gr4 mn4 hh4=>?_⟩
    have x4:=RB.join mn4 x3 xj
    simp only [jn_and] at x4
    have W4:=W3.grow aw4 hB4 gr4 hh4
    have l4:=W4.w.led.len
    have z4:m4 = 0:=(x4.zero W4.w.B).mpr fun c hc=>by
      cases e:(rnd os t f i).1 c with
      | false=>rw [Bool.and_false]
      | true=>rw [rnd_apart f i c e,Bool.false_and]
    have nj:j≠0:=fun e=>nz (by
      have y:=(xj.zero W3.w.B).mp e
      exact Bdd.tab_inj tN (show IsTab os.length 0 (fun _=>false) from fun c=>by rw [Nat.zero_testBit,Bool.and_false]) y)
    refine ⟨rfl,_,rfl,iteNe2 (int0.mpr z4) ?_⟩
    refine ⟨_,rfl,rfl,_,rfl,?_⟩
    show if decide (V.int (j:Nat) = V.int 0) = true then _ else _
    rw [decide_eq_false (fun e=>nj (int0.mp e))]
    refine iteF ?_
    have x34:=x3.grown W3.w.B gr4
    have xj4:=xj.grown W3.w.B gr4
    refine ⟨_,rfl,_,rfl,_,rfl,bk,os,rs4,F,false,true,true,true,sn,j,_,_,rfl,W4.w.led.bk,by omega,⟨x34.1,fun _=>rfl⟩,⟨xj4.1,fun _=>rfl⟩,fun m5 rs5 H5 aw5 tu5 hB5 gr5 mn5 hh5=>?_⟩
    have x5:=RB.join mn5 x34 xj4
    simp only [jn_or] at x5
    have W5:=W4.grow aw5 hB5 gr5 hh5
    exact ⟨rs5,m5,_,W5.up (by omega),gr3.trans (gr4.trans gr5),aw5 _ _ (aw4 _ _ hl3 nF) nF,x5,rfl⟩
  · rintro σ H' ⟨rs',sn,f12,W3,gr3,hl3,x3,rfl⟩
    rw [natW_len,lj] at x3
    have key:sn = k8:=x3.one W3.w.B (x8.grown W.w.B (gr2.trans gr3)) fun _ _=>rfl
    subst key
    refine ⟨_,rfl,_,rfl,rfl,?_⟩
    have e:decide (V.int (sn:Nat) = V.int (sn:Nat)) = true:=decide_eq_true rfl
    rw [e]
    exact q _
end
end K77
namespace K77
open PySem L2 Sen
section
variable {P:Program} {w:World} {K:PySem.W.Frag} {mg:Str→Option Value} {base:Heap} {a:Ad} {k:Nat}
theorem law_all (T:Txt P w K mg a) (base:Heap):FnOk P w K mg base CX0 60 a.a_law a.d_law ["script"] (spLaw K):=by
  have cell:FnOk P w K mg base CX0 1 a.a_x_law_cell_at a.d_x_law_cell_at ["script", "k"] (spCellAt K):=ok_cell_at (k:=0) T
  have draw:FnOk P w K mg base CX0 1 a.a_x_law_draw a.d_x_law_draw ["cell", "k", "bound"] spDraw:=ok_draw (k:=0) T
  have sentence:=ok_sentence (k:=1) T cell draw
  have allRows:FnOk P w K mg base CX0 2 a.a_all_rows a.d_all_rows ["marks"] spAllRows:=ok_all_rows (k:=1) T
  have rowsWith:FnOk P w K mg base CX0 1 a.a_rows_with a.d_rows_with ["place", "marks"] spRowsWith:=ok_rows_with (k:=0) T
  have flipped:=ok_flipped (k:=1) T rowsWith
  have isMark:FnOk P w K mg base CX0 1 a.a_is_mark a.d_is_mark ["letter"] spIsMark:=ok_is_mark (k:=0) T
  have isOrder:=ok_is_order (k:=1) T isMark
  have lettersOf:FnOk P w K mg base CX0 1 a.a_letters_of a.d_letters_of ["sentence"] spLettersOf:=ok_letters_of (k:=0) T
  have partsOf:FnOk P w K mg base CX0 1 a.a_parts_of a.d_parts_of ["sentence"] spPartsOf:=ok_parts_of (k:=0) T
  have partsOfAll:=ok_parts_of_all (k:=1) T partsOf
  have shaped:=ok_is_shaped (k:=1) T isMark lettersOf partsOf
  have isSen:=ok_is_sentence (k:=2) T shaped partsOfAll
  have mustOrder:=ok_must_be_order (k:=2) T isOrder
  have mustSen:=ok_must_be_sentence (k:=3) T isSen
  have tuplesIn:=ok_tuples_in (k:=2) T partsOfAll
  have lettersIn:=ok_letters_in (k:=3) T tuplesIn (lettersOf.mono (by decide))
  have mustMark:FnOk P w K mg base CX0 1 a.a_must_have_mark a.d_must_have_mark ["order", "letter"] (spMustMark K):=ok_must_have_mark (k:=0) T
  have mustMarks:=ok_must_have_marks (k:=4) T lettersIn (mustMark.mono (by decide))
  have two:FnOk P w K mg base CX0 2 a.a_table_of_two a.d_table_of_two ["word", "one", "other", "every"] spTwo:=ok_table_of_two (k:=1) T
  have table:=ok_table_of (k:=2) T allRows (rowsWith.mono (by decide)) flipped (partsOf.mono (by decide)) two 24
  have heldAt:=ok_held_at (k:=2) T (rowsWith.mono (by decide)) flipped
  have hangs:=ok_hangs_on (k:=2) T flipped
  have first:=ok_first_place (k:=3) T hangs
  have roomWith:=ok_Book_room_withH (k:=4) T first (heldAt.mono (by decide)) 9
  have enter:=ok_Book_enterH (k:=26) T (mustSen.mono (by decide)) (mustMarks.mono (by decide)) table (roomWith.mono (by decide))
  have init:=ok_Book_init (k:=3) T mustOrder (allRows.mono (by decide))
  have mbr:FnOk P w K mg base CX0 1 a.a_Book_must_be_room a.d_Book_must_be_room ["self", "number"] (spMustRoom a.a_Book):=ok_Book_must_be_room (k:=0) T
  have tat:FnOk P w K mg base CX0 1 a.a_Book_table_at a.d_Book_table_at ["self", "number"] (spTableAt a.a_Book):=ok_Book_table_at (k:=0) T
  have ordr:FnOk P w K mg base CX0 1 a.a_Book_order a.d_Book_order ["self"] (spBookOrder (BookAt a.a_Book)):=ok_Book_order (k:=0) T
  have withoutF:FnOk P w K mg base CX0 1 a.a_without a.d_without ["table", "other"] spWithout:=ok_without (k:=0) T
  have chosenF:=ok_chosen (k:=1) T withoutF
  have cellF:FnOk P w K mg base CX0 1 a.a_x_law_cell_at a.d_x_law_cell_at ["script", "k"] (spCellF K):=ok_cell_f (k:=0) T
  have forAny:=ok_for_any (k:=2) T flipped
  have moved:=ok_moved (k:=3) T heldAt (rowsWith.mono (by decide)) (chosenF.mono (by decide))
  have nowM:=ok_now_marks (k:=1) T ordr
  have thenM:=ok_then_marks (k:=1) T ordr
  have nowPl:=ok_now_places (k:=2) T (ordr.mono (by decide)) nowM
  have thenPl:=ok_then_places (k:=2) T (ordr.mono (by decide)) thenM
  have after:=ok_after (k:=4) T (ordr.mono (by decide)) (tat.mono (by decide)) (nowPl.mono (by decide)) (thenPl.mono (by decide)) (forAny.mono (by decide)) moved
  have before:=ok_before (k:=4) T (ordr.mono (by decide)) (tat.mono (by decide)) (nowPl.mono (by decide)) (thenPl.mono (by decide)) (forAny.mono (by decide)) moved
  have mWorld:=ok_must_be_world (k:=1) T ordr
  have mNow:=ok_must_be_of_now (k:=3) T (ordr.mono (by decide)) (tat.mono (by decide)) (mbr.mono (by decide)) thenPl hangs
  have mWith:=ok_must_be_world_with (k:=4) T (mWorld.mono (by decide)) (mbr.mono (by decide)) mNow
  have image:=ok_image (k:=13) T (mWith.mono (by decide)) roomWith (tat.mono (by decide)) (after.mono (by decide))
  have rTabs:=ok_round_tables (k:=5) T (tat.mono (by decide)) after (withoutF.mono (by decide))
  have rounds:=ok_rounds (k:=13) T (mWith.mono (by decide)) (rTabs.mono (by decide)) roomWith
  have lnow:FnOk P w K mg base CX0 1 a.a_x_law_now a.d_x_law_now ["order"] (spNowL K):=ok_law_now (k:=0) T
  have lworld:=ok_law_world (k:=1) T draw
  have lcount:=ok_law_counting (k:=1) T lnow
  have lsingle:=ok_law_single (k:=1) T draw lnow
  have lboth:=ok_law_both (k:=2) T (cellF.mono (by decide)) (draw.mono (by decide)) sentence lworld lcount
  have ltold:=ok_law_told_place (k:=2) T (cellF.mono (by decide)) (draw.mono (by decide)) sentence (lnow.mono (by decide)) lsingle
  have preimage:=ok_preimage (k:=13) T (mWith.mono (by decide)) roomWith (tat.mono (by decide)) (before.mono (by decide))
  have mword:FnOk P w K mg base CX0 1 a.a_must_be_word a.d_must_be_word ["word"] spMustWord:=ok_must_be_word (k:=0) T
  have jby:FnOk P w K mg base CX0 1 a.a_joined_by a.d_joined_by ["word", "one", "other", "every"] spJoinedBy:=ok_joined_by (k:=0) T
  have joined:=ok_joinedH (k:=13) T (mbr.mono (by decide)) roomWith (tat.mono (by decide)) (mword.mono (by decide)) (jby.mono (by decide))
  have reached:=ok_reached (k:=13) T (mWith.mono (by decide)) (rTabs.mono (by decide)) roomWith
  have stays:=ok_stays (k:=13) T (mWith.mono (by decide)) (tat.mono (by decide)) (before.mono (by decide)) roomWith
  have fvals:=ok_first_values (k:=3) (K:=K) T heldAt
  have having:=ok_rows_having (k:=2) (K:=K) T allRows (rowsWith.mono (by decide)) (withoutF.mono (by decide))
  have fnow:=ok_first_of_now (k:=4) (K:=K) T fvals (nowPl.mono (by decide)) (ordr.mono (by decide))
  have only:=ok_only (k:=3) (K:=K) T having nowPl (ordr.mono (by decide))
  have through:=ok_way_through (k:=5) (K:=K) T fnow before (only.mono (by decide))
  have wayTo:=ok_way_to (k:=6) (K:=K) T (mWith.mono (by decide)) rTabs (tat.mono (by decide)) through
  have lin:=ok_law_in77 (k:=14) T joined
  exact ok_law (k:=58) T (cellF.mono (by decide)) (lboth.mono (by decide)) (ltold.mono (by decide)) (sentence.mono (by decide)) (lin.mono (by decide)) (init.mono (by decide)) (enter.mono (by decide)) (joined.mono (by decide)) (image.mono (by decide)) (preimage.mono (by decide)) (reached.mono (by decide)) (stays.mono (by decide)) (rounds.mono (by decide)) (wayTo.mono (by decide))
end
end K77
def PySem.W.Fast.tw13575049939319334791:Nat:=0
def PySem.W.Fast.tw12761889365819233629:Nat:=0
def PySem.W.Fast.tw1999522977028223892:Nat:=0
def PySem.W.Fast.tw3775499290069551208:Nat:=0
def PySem.W.Fast.tw13001524969109052634:Nat:=0
def PySem.W.Fast.tw3111907888779408005:Nat:=0
def PySem.W.Fast.tw13794089191568754504:Nat:=0
def PySem.W.Fast.tw5313864288146758090:Nat:=0
def PySem.W.Fast.tw9062826157459785748:Nat:=0
def PySem.W.Fast.tw15080514395740541810:Nat:=0
def PySem.W.Fast.tw13484753475711250305:Nat:=0
def PySem.W.Fast.tw7428764252267178721:Nat:=0
def PySem.W.Fast.tw7674073153506097429:Nat:=0
def PySem.W.Fast.tw12099967632442514661:Nat:=0
def PySem.W.Fast.tw5937470771060960553:Nat:=0
def PySem.W.Fast.tw6462412013673453093:Nat:=0
def PySem.W.Fast.tw2395194955255296898:Nat:=0
def PySem.W.Fast.tw12653611868544971407:Nat:=0
def PySem.W.Fast.tw8941269466052802298:Nat:=0
def PySem.W.Fast.tw13176003548890760962:Nat:=0
def PySem.W.Fast.tw10684395168682708125:Nat:=0
def PySem.W.Fast.tw8686278661748678712:Nat:=0
def PySem.W.Fast.tw18402445756438645985:Nat:=0
def PySem.W.Fast.tw2564289950370741760:Nat:=0
def PySem.W.Fast.tw12637065483032614415:Nat:=0
def PySem.W.Fast.tw13055415193577814641:Nat:=0
def PySem.W.Fast.tw2188118413938730785:Nat:=0
def PySem.W.Fast.tw17476129989450189648:Nat:=0
def PySem.W.Fast.tw14811123972753251812:Nat:=0
def PySem.W.Fast.tw9758471092671487576:Nat:=0
def PySem.W.Fast.tw13783897347481406714:Nat:=0
def PySem.W.Fast.tw2672221432674194037:Nat:=0
def PySem.W.Fast.tw11906983263282424209:Nat:=0
def PySem.W.Fast.tw14526161444847500652:Nat:=0
def PySem.W.Fast.tw16235476549802504507:Nat:=0
def PySem.W.Fast.tw7009512470896792742:Nat:=0
def PySem.W.Fast.tw1771892150182930483:Nat:=0
def PySem.W.Fast.tw17448719104884557400:Nat:=0
def PySem.W.Fast.tw773573380875406590:Nat:=0
def PySem.W.Fast.tw4657958420881058471:Nat:=0
def PySem.W.Fast.tw6467508412382231126:Nat:=0
def PySem.W.Fast.tw3665185970296333272:Nat:=0
def PySem.W.Fast.tw15977403985546133401:Nat:=0
def PySem.W.Fast.tw9781558210806223308:Nat:=0
def PySem.W.Fast.tw8585653618150586289:Nat:=0
def PySem.W.Fast.tw16804498790366558057:Nat:=0
def PySem.W.Fast.tw9700973884917600800:Nat:=0
def PySem.W.Fast.tw14913421462395207709:Nat:=0
def PySem.W.Fast.tw293857915087209442:Nat:=0
def PySem.W.Fast.tw5952106278942078452:Nat:=0
def PySem.W.Fast.tw3598249193508457314:Nat:=0
def PySem.W.Fast.tw5483802181767659487:Nat:=0
def PySem.W.Fast.tw14726277938453072511:Nat:=0
def PySem.W.Fast.tw7517395115279970134:Nat:=0
def PySem.W.Fast.tw6894553381705446234:Nat:=0
def PySem.W.Fast.tw15702362720620204383:Nat:=0
def PySem.W.Fast.tw2724635974694045392:Nat:=0
def PySem.W.Fast.tw8341843474547185021:Nat:=0
def PySem.W.Fast.tw8875564389352582155:Nat:=0
def PySem.W.Fast.tw15601849503946498466:Nat:=0
def PySem.W.Fast.tw14932982475362484669:Nat:=0
def PySem.W.Fast.tw8782399974032167533:Nat:=0
def PySem.W.Fast.tw17740587104349939389:Nat:=0
def PySem.W.Fast.tw6003094474625198298:Nat:=0
def PySem.W.Fast.tw17444966178552630029:Nat:=0
def PySem.W.Fast.tw6404248804441476883:Nat:=0
def PySem.W.Fast.tw838115156784672793:Nat:=0
def PySem.W.Fast.tw6140339770382060456:Nat:=0
def PySem.W.Fast.tw13163025803805035731:Nat:=0
def PySem.W.Fast.tw14421481062039362523:Nat:=0
def PySem.W.Fast.tw16473954141088192131:Nat:=0
def PySem.W.Fast.tw9749036681600512644:Nat:=0
def PySem.W.Fast.tw1018525694362503664:Nat:=0
def PySem.W.Fast.tw6192749152524944259:Nat:=0
def PySem.W.Fast.tw15698002851372748777:Nat:=0
def PySem.W.Fast.tw17494897812443305187:Nat:=0
def PySem.W.Fast.tw14562852494954903508:Nat:=0
def PySem.W.Fast.tw17439551666977233181:Nat:=0
def PySem.W.Fast.tw8243113433927564054:Nat:=0
def PySem.W.Fast.tw8634506190613916509:Nat:=0
def PySem.W.Fast.tw9261712598730026538:Nat:=0
def PySem.W.Fast.tw358957071743387885:Nat:=0
def PySem.W.Fast.tw82775518168198975:Nat:=0
def PySem.W.Fast.tw5245677786786326915:Nat:=0
def PySem.W.Fast.tw11041370821056217188:Nat:=0
def PySem.W.Fast.tw4024996770061356778:Nat:=0
def PySem.W.Fast.tw331592707934802384:Nat:=0
def PySem.W.Fast.tw11143890513049767323:Nat:=0
def PySem.W.Fast.tw462337860661669237:Nat:=0
def PySem.W.Fast.tw9058649169834671583:Nat:=0
def PySem.W.Fast.tw11289731976192332916:Nat:=0
def PySem.W.Fast.tw17977655065316176208:Nat:=0
def PySem.W.Fast.tw6773420819286937137:Nat:=0
def PySem.W.Fast.tw4093890826666533265:Nat:=0
def PySem.W.Fast.tw13245753970328532456:Nat:=0
def PySem.W.Fast.tw14623666007424268575:Nat:=0
def PySem.W.Fast.tw6536076666071773583:Nat:=0
def PySem.W.Fast.tw5221041314471406168:Nat:=0
def PySem.W.Fast.tw3764902258065928439:Nat:=0
def PySem.W.Fast.tw17031970357732007646:Nat:=0
def PySem.W.Fast.tw10909488710096532093:Nat:=0
def PySem.W.Fast.tw6560469961827074433:Nat:=0
def PySem.W.Fast.tw13441523050915067690:Nat:=0
def PySem.W.Fast.tw10664249535833107976:Nat:=0
def PySem.W.Fast.tw12847681584325138908:Nat:=0
def PySem.W.Fast.tw17294912344368262554:Nat:=0
def PySem.W.Fast.tw14221439245781142753:Nat:=0
def PySem.W.Fast.tw8528046101968223448:Nat:=0
def PySem.W.Fast.tw11056950946982060122:Nat:=0
def PySem.W.Fast.tw11200288384219364204:Nat:=0
def PySem.W.Fast.tw9696738742969903943:Nat:=0
def PySem.W.Fast.tw13587182161387382059:Nat:=0
def PySem.W.Fast.tw6896840513174705504:Nat:=0
def PySem.W.Fast.tw9762427931424969580:Nat:=0
def PySem.W.Fast.tw6020711756795993279:Nat:=0
def PySem.W.Fast.tw9149572479300551630:Nat:=0
def PySem.W.Fast.tw4220878011827320055:Nat:=0
def PySem.W.Fast.tw17586315787488157743:Nat:=0
def PySem.W.Fast.tw17577372658051090447:Nat:=0
def PySem.W.Fast.tw13037470055645865403:Nat:=0
def PySem.W.Fast.tw9815474664963795608:Nat:=0
def PySem.W.Fast.tw16883932646907669198:Nat:=0
def PySem.W.Fast.tw17769689359274045422:Nat:=0
def PySem.W.Fast.tw10777570065563822173:Nat:=0
def PySem.W.Fast.tw5900215496479624858:Nat:=0
def PySem.W.Fast.tw14009017273437962920:Nat:=0
def PySem.W.Fast.tw10668193023108558188:Nat:=0
def PySem.W.Fast.tw13649299954989496524:Nat:=0
def PySem.W.Fast.tw8066767236440558996:Nat:=0
def PySem.W.Fast.tw9932570785936586577:Nat:=0
def PySem.W.Fast.tw5613106016667858431:Nat:=0
def PySem.W.Fast.tw6193202774508638318:Nat:=0
def PySem.W.Fast.tw191040789553353365:Nat:=0
def PySem.W.Fast.tw17668746430998060409:Nat:=0
open PySem PySem.W PyProof.Rows
set_option maxRecDepth 100000 in
set_option maxHeartbeats 0 in
theorem PySem.Challenge.cw_decidebook_k77_whole_worlds_hang_togethe_holds : PySem.Challenge.rw_decidebook_k77_whole_worlds_hang_togethe.Holds := by
  w_on; o_law; k_head; (case hw => w_witness2)
  k_fill
  refine L2.walk_ofK (l := PySem.Challenge.rw_decidebook_k77_whole_worlds_hang_togethe) (n := 63) (k := 60) (x := "script") (CX := L2.CX0) (sp := Sen.spLaw) rfl (by decide) rfl ⟨rfl, by decide, by decide⟩ (fun w h Y => PySem.W.kIn_of Y) ?F ?S ?C
  case F =>
    intro w mg fa h KX G hmg
    have T : ∃ a, K77.Txt PySem.Challenge.rw_decidebook_k77_whole_worlds_hang_togethe.prog w (L2.KOf KX) mg a := by
      dsimp only [L2.KOf]
      refine' K77.txt_mk KX G ?a_Book ?a0 ?F0 ?a1 ?F1 ?a2 ?F2 ?a3 ?F3 ?a4 ?F4 ?a5 ?F5 ?a6 ?F6 ?a7 ?F7 ?a8 ?F8 ?a9 ?F9 ?a10 ?F10 ?a11 ?F11 ?a12 ?F12 ?a13 ?F13 ?a14 ?F14 ?a15 ?F15 ?a16 ?F16 ?a17 ?F17 ?a18 ?F18 ?a19 ?F19 ?a20 ?F20 ?a21 ?F21 ?a22 ?F22 ?a23 ?F23 ?a24 ?F24 ?a25 ?F25 ?a26 ?F26 ?a27 ?F27 ?a28 ?F28 ?a29 ?F29 ?a30 ?F30 ?a31 ?F31 ?a32 ?F32 ?a33 ?F33 ?a34 ?F34 ?a35 ?F35 ?a36 ?F36 ?a37 ?F37 ?a38 ?F38 ?a39 ?F39 ?a40 ?F40 ?a41 ?F41 ?a42 ?F42 ?a43 ?F43 ?a44 ?F44 ?a45 ?F45 ?a46 ?F46 ?a47 ?i47 ?F47 ?a48 ?i48 ?F48 ?a49 ?i49 ?F49 ?a50 ?i50 ?F50 ?a51 ?i51 ?F51 ?a52 ?i52 ?F52 ?a53 ?i53 ?F53 ?a54 ?i54 ?F54 ?a55 ?i55 ?F55 ?a56 ?i56 ?F56 ?a57 ?i57 ?F57 ?a58 ?F58 ?a59 ?F59 ?a60 ?F60 ?a61 ?F61 ?a62 ?F62 ?a63 ?F63 ?a64 ?F64 ?a65 ?F65 ?a66 ?F66 ?a67 ?F67 ?a68 ?F68 ?a69 ?F69 ?a70 ?F70 ?pg_Book ?hd_Book ?po_Book ?sa_Book ?mk_Book ?kc_Book ?na_Book_marks ?na_Book_rooms ?na_Book_tables ?na_Book_numbers ?a_MARKS ?l_MARKS ?v_MARKS ?a_MOST_TUPLES ?a_MOST_DEEP ?a_SHAPES ?l_SHAPES ?e_SHAPES ?s_SHAPES ?lSHAPES_0 ?vSHAPES_0 ?lSHAPES_1 ?vSHAPES_1 ?lSHAPES_2 ?vSHAPES_2 ?lSHAPES_3 ?vSHAPES_3 ?lSHAPES_4 ?vSHAPES_4 ?lSHAPES_5 ?vSHAPES_5 ?lSHAPES_6 ?vSHAPES_6 ?lSHAPES_7 ?vSHAPES_7 ?lSHAPES_8 ?vSHAPES_8 ?lSHAPES_9 ?vSHAPES_9 ?a_PAIRS ?l_PAIRS ?v_PAIRS ?l_PAIRS_0 ?v_PAIRS_0 ?l_PAIRS_1 ?v_PAIRS_1 ?l_PAIRS_2 ?v_PAIRS_2 ?l_PAIRS_3 ?v_PAIRS_3 ?z_all ?z_isinstance ?z_len ?z_list ?z_range ?z_reversed ?z_set ?z_str ?z_sum ?z_tuple ?z_zip
      (case a_Book => k_is)
      (case a0 => k_is)
      (case F0 => apply L2.fun_mk; k_is; k_is; k_is)
      (case a1 => k_is)
      (case F1 => apply L2.fun_mk; k_is; k_is; k_is)
      (case a2 => k_is)
      (case F2 => apply L2.fun_mk; k_is; k_is; k_is)
      (case a3 => k_is)
      (case F3 => apply L2.fun_mk; k_is; k_is; k_is)
      (case a4 => k_is)
      (case F4 => apply L2.fun_mk; k_is; k_is; k_is)
      (case a5 => k_is)
      (case F5 => apply L2.fun_mk; k_is; k_is; k_is)
      (case a6 => k_is)
      (case F6 => apply L2.fun_mk; k_is; k_is; k_is)
      (case a7 => k_is)
      (case F7 => apply L2.fun_mk; k_is; k_is; k_is)
      (case a8 => k_is)
      (case F8 => apply L2.fun_mk; k_is; k_is; k_is)
      (case a9 => k_is)
      (case F9 => apply L2.fun_mk; k_is; k_is; k_is)
      (case a10 => k_is)
      (case F10 => apply L2.fun_mk; k_is; k_is; k_is)
      (case a11 => k_is)
      (case F11 => apply L2.fun_mk; k_is; k_is; k_is)
      (case a12 => k_is)
      (case F12 => apply L2.fun_mk; k_is; k_is; k_is)
      (case a13 => k_is)
      (case F13 => apply L2.fun_mk; k_is; k_is; k_is)
      (case a14 => k_is)
      (case F14 => apply L2.fun_mk; k_is; k_is; k_is)
      (case a15 => k_is)
      (case F15 => apply L2.fun_mk; k_is; k_is; k_is)
      (case a16 => k_is)
      (case F16 => apply L2.fun_mk; k_is; k_is; k_is)
      (case a17 => k_is)
      (case F17 => apply L2.fun_mk; k_is; k_is; k_is)
      (case a18 => k_is)
      (case F18 => apply L2.fun_mk; k_is; k_is; k_is)
      (case a19 => k_is)
      (case F19 => apply L2.fun_mk; k_is; k_is; k_is)
      (case a20 => k_is)
      (case F20 => apply L2.fun_mk; k_is; k_is; k_is)
      (case a21 => k_is)
      (case F21 => apply L2.fun_mk; k_is; k_is; k_is)
      (case a22 => k_is)
      (case F22 => apply L2.fun_mk; k_is; k_is; k_is)
      (case a23 => k_is)
      (case F23 => apply L2.fun_mk; k_is; k_is; k_is)
      (case a24 => k_is)
      (case F24 => apply L2.fun_mk; k_is; k_is; k_is)
      (case a25 => k_is)
      (case F25 => apply L2.fun_mk; k_is; k_is; k_is)
      (case a26 => k_is)
      (case F26 => apply L2.fun_mk; k_is; k_is; k_is)
      (case a27 => k_is)
      (case F27 => apply L2.fun_mk; k_is; k_is; k_is)
      (case a28 => k_is)
      (case F28 => apply L2.fun_mk; k_is; k_is; k_is)
      (case a29 => k_is)
      (case F29 => apply L2.fun_mk; k_is; k_is; k_is)
      (case a30 => k_is)
      (case F30 => apply L2.fun_mk; k_is; k_is; k_is)
      (case a31 => k_is)
      (case F31 => apply L2.fun_mk; k_is; k_is; k_is)
      (case a32 => k_is)
      (case F32 => apply L2.fun_mk; k_is; k_is; k_is)
      (case a33 => k_is)
      (case F33 => apply L2.fun_mk; k_is; k_is; k_is)
      (case a34 => k_is)
      (case F34 => apply L2.fun_mk; k_is; k_is; k_is)
      (case a35 => k_is)
      (case F35 => apply L2.fun_mk; k_is; k_is; k_is)
      (case a36 => k_is)
      (case F36 => apply L2.fun_mk; k_is; k_is; k_is)
      (case a37 => k_is)
      (case F37 => apply L2.fun_mk; k_is; k_is; k_is)
      (case a38 => k_is)
      (case F38 => apply L2.fun_mk; k_is; k_is; k_is)
      (case a39 => k_is)
      (case F39 => apply L2.fun_mk; k_is; k_is; k_is)
      (case a40 => k_is)
      (case F40 => apply L2.fun_mk; k_is; k_is; k_is)
      (case a41 => k_is)
      (case F41 => apply L2.fun_mk; k_is; k_is; k_is)
      (case a42 => k_is)
      (case F42 => apply L2.fun_mk; k_is; k_is; k_is)
      (case a43 => k_is)
      (case F43 => apply L2.fun_mk; k_is; k_is; k_is)
      (case a44 => k_is)
      (case F44 => apply L2.fun_mk; k_is; k_is; k_is)
      (case a45 => k_is)
      (case F45 => apply L2.fun_mk; k_is; k_is; k_is)
      (case a46 => k_is)
      (case F46 => apply L2.fun_mk; k_is; k_is; k_is)
      (case a47 => k_is)
      (case i47 => k_is)
      (case F47 => apply L2.fun_mk; k_is; k_is; k_is)
      (case a48 => k_is)
      (case i48 => k_is)
      (case F48 => apply L2.fun_mk; k_is; k_is; k_is)
      (case a49 => k_is)
      (case i49 => k_is)
      (case F49 => apply L2.fun_mk; k_is; k_is; k_is)
      (case a50 => k_is)
      (case i50 => k_is)
      (case F50 => apply L2.fun_mk; k_is; k_is; k_is)
      (case a51 => k_is)
      (case i51 => k_is)
      (case F51 => apply L2.fun_mk; k_is; k_is; k_is)
      (case a52 => k_is)
      (case i52 => k_is)
      (case F52 => apply L2.fun_mk; k_is; k_is; k_is)
      (case a53 => k_is)
      (case i53 => k_is)
      (case F53 => apply L2.fun_mk; k_is; k_is; k_is)
      (case a54 => k_is)
      (case i54 => k_is)
      (case F54 => apply L2.fun_mk; k_is; k_is; k_is)
      (case a55 => k_is)
      (case i55 => k_is)
      (case F55 => apply L2.fun_mk; k_is; k_is; k_is)
      (case a56 => k_is)
      (case i56 => k_is)
      (case F56 => apply L2.fun_mk; k_is; k_is; k_is)
      (case a57 => k_is)
      (case i57 => k_is)
      (case F57 => apply L2.fun_mk; k_is; k_is; k_is)
      (case a58 => k_is)
      (case F58 => apply L2.fun_mk; k_is; k_is; k_is)
      (case a59 => k_is)
      (case F59 => apply L2.fun_mk; k_is; k_is; k_is)
      (case a60 => k_is)
      (case F60 => apply L2.fun_mk; k_is; k_is; k_is)
      (case a61 => k_is)
      (case F61 => apply L2.fun_mk; k_is; k_is; k_is)
      (case a62 => k_is)
      (case F62 => apply L2.fun_mk; k_is; k_is; k_is)
      (case a63 => k_is)
      (case F63 => apply L2.fun_mk; k_is; k_is; k_is)
      (case a64 => k_is)
      (case F64 => apply L2.fun_mk; k_is; k_is; k_is)
      (case a65 => k_is)
      (case F65 => apply L2.fun_mk; k_is; k_is; k_is)
      (case a66 => k_is)
      (case F66 => apply L2.fun_mk; k_is; k_is; k_is)
      (case a67 => k_is)
      (case F67 => apply L2.fun_mk; k_is; k_is; k_is)
      (case a68 => k_is)
      (case F68 => apply L2.fun_mk; k_is; k_is; k_is)
      (case a69 => k_is)
      (case F69 => apply L2.fun_mk; k_is; k_is; k_is)
      (case a70 => k_is)
      (case F70 => apply L2.fun_mk; k_is; k_is; k_is)
      (case pg_Book => k_is)
      (case hd_Book => k_is)
      (case po_Book => k_is)
      (case sa_Book => k_is)
      (case mk_Book => k_is)
      (case kc_Book => k_is)
      (case na_Book_marks => k_is)
      (case na_Book_rooms => k_is)
      (case na_Book_tables => k_is)
      (case na_Book_numbers => k_is)
      (case a_MARKS => k_is)
      (case l_MARKS => k_is)
      (case v_MARKS => rfl)
      (case a_MOST_TUPLES => k_is)
      (case a_MOST_DEEP => k_is)
      (case a_SHAPES => k_is)
      (case l_SHAPES => k_is)
      (case e_SHAPES => rfl)
      (case s_SHAPES => rfl)
      (case lSHAPES_0 => k_is)
      (case vSHAPES_0 => rfl)
      (case lSHAPES_1 => k_is)
      (case vSHAPES_1 => rfl)
      (case lSHAPES_2 => k_is)
      (case vSHAPES_2 => rfl)
      (case lSHAPES_3 => k_is)
      (case vSHAPES_3 => rfl)
      (case lSHAPES_4 => k_is)
      (case vSHAPES_4 => rfl)
      (case lSHAPES_5 => k_is)
      (case vSHAPES_5 => rfl)
      (case lSHAPES_6 => k_is)
      (case vSHAPES_6 => rfl)
      (case lSHAPES_7 => k_is)
      (case vSHAPES_7 => rfl)
      (case lSHAPES_8 => k_is)
      (case vSHAPES_8 => rfl)
      (case lSHAPES_9 => k_is)
      (case vSHAPES_9 => rfl)
      (case a_PAIRS => k_is)
      (case l_PAIRS => k_is)
      (case v_PAIRS => rfl)
      (case l_PAIRS_0 => k_is)
      (case v_PAIRS_0 => rfl)
      (case l_PAIRS_1 => k_is)
      (case v_PAIRS_1 => rfl)
      (case l_PAIRS_2 => k_is)
      (case v_PAIRS_2 => rfl)
      (case l_PAIRS_3 => k_is)
      (case v_PAIRS_3 => rfl)
      (case z_all => k_is)
      (case z_isinstance => k_is)
      (case z_len => k_is)
      (case z_list => k_is)
      (case z_range => k_is)
      (case z_reversed => k_is)
      (case z_set => k_is)
      (case z_str => k_is)
      (case z_sum => k_is)
      (case z_tuple => k_is)
      (case z_zip => k_is)
    obtain ⟨a, T⟩ := T
    have e0 := hmg.symm.trans T.m_law
    cases e0
    exact ⟨_, T.x_law, fun base kb nb => K77.law_all T base⟩
  case S => exact fun K H a ns hl hO hS => ⟨a, ns, rfl, hS, hl, fun _ => rfl⟩
  case C => exact fun _ _ _ _ h => h
