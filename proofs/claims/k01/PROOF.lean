import PyProof.Rows.All
import Wide.All
import OpenK.AllK
import Wide.FinOn
import Lean
import PyProof.EqAt
import PyProof.EqKinds
import PyProof.TupleCall
import KE.KRevIter
import OpenK.KOwn
import PyProof.Draws
import PyProof.EnumMake
import PyProof.StrBlockI
import PyProof.StrBlock2
import PyProof.DictValues
import PyProof.DictWalks
import PySem.Challenge.RW_decidebook_k01_orders_and_sentences
set_option Elab.async false
set_option linter.all false
set_option maxRecDepth 100000
namespace L2
open PySem PySem.Spec PyProof.Rows
abbrev Key := Sum Int Str
def keyIs : Key → Value → Bool
  | .inl k, v => Value.isInt k v
  | .inr x, v => Value.isStrOf x v
def keyH (w : World) : Key → Int
  | .inl k => hashInt k
  | .inr x => hashStr w x
theorem keyIs_shape : ∀ {k : Key} {v : Value}, keyIs k v = true → (∃ i t, k = Sum.inl i ∧ v = Value.int i t) ∨ (∃ x t, k = Sum.inr x ∧ v = Value.str x t)
  | .inl i, v, h => by
    obtain ⟨t, e⟩ := Value.isInt_shape (k := i) (v := v) h
    exact .inl ⟨i, t, rfl, e⟩
  | .inr x, v, h => by
    obtain ⟨t, e⟩ := Value.isStrOf_shape (x := x) (v := v) h
    exact .inr ⟨x, t, rfl, e⟩
theorem key_ll (a b : Int) : decide ((Sum.inl a : Key) = Sum.inl b) = (a == b) := by
  by_cases e : a = b
  · subst e; simp
  · have h : ¬ (Sum.inl a : Key) = Sum.inl b := fun q => e (Sum.inl.inj q)
    rw [decide_eq_false h]
    exact (beq_eq_false_iff_ne.mpr e).symm
theorem key_rr (a b : Str) : decide ((Sum.inr a : Key) = Sum.inr b) = decide (a = b) := by
  by_cases e : a = b
  · subst e; simp
  · have h : ¬ (Sum.inr a : Key) = Sum.inr b := fun q => e (Sum.inr.inj q)
    rw [decide_eq_false h, decide_eq_false e]
theorem key_lr (a : Int) (b : Str) : decide ((Sum.inl a : Key) = Sum.inr b) = false := decide_eq_false (fun q => nomatch q)
theorem key_rl (a : Str) (b : Int) : decide ((Sum.inr a : Key) = Sum.inl b) = false := decide_eq_false (fun q => nomatch q)
def mixKind (prog : Program) (w : World) : PySem.KeyKind prog w Key where
  is := keyIs
  hash := keyH w
  inj := fun v a b ha hb => by
    rcases keyIs_shape ha with ⟨i, t, rfl, rfl⟩ | ⟨x, t, rfl, rfl⟩
    · rcases keyIs_shape hb with ⟨j, u, rfl, e⟩ | ⟨y, u, rfl, e⟩
      · injection e with e1 _; rw [e1]
      · exact nomatch e
    · rcases keyIs_shape hb with ⟨j, u, rfl, e⟩ | ⟨y, u, rfl, e⟩
      · exact nomatch e
      · injection e with e1 _; rw [e1]
  byValue := fun k v h => by
    rcases keyIs_shape h with ⟨i, t, rfl, rfl⟩ | ⟨x, t, rfl, rfl⟩ <;> rfl
  pyHash := fun hv h => by
    rcases keyIs_shape hv with ⟨i, t, rfl, rfl⟩ | ⟨x, t, rfl, rfl⟩
    · exact wpAny_pyHash_int h
    · exact wpAny_pyHash_str h
  eqBool := fun hu hv h => by
    rcases keyIs_shape hu with ⟨i, t, rfl, rfl⟩ | ⟨x, t, rfl, rfl⟩
    · rcases keyIs_shape hv with ⟨j, u, rfl, rfl⟩ | ⟨y, u, rfl, rfl⟩
      · rw [key_ll] at h; exact wpAny_eqBool_int h
      · rw [key_lr] at h; exact SeqAt.EqAt.int_str i t y u _ _ _ _ h
    · rcases keyIs_shape hv with ⟨j, u, rfl, rfl⟩ | ⟨y, u, rfl, rfl⟩
      · rw [key_rl] at h; exact SeqAt.EqAt.str_int x t j u _ _ _ _ h
      · rw [key_rr] at h; exact wpAny_eqBool_str h
  «strs» := fun k x t v h => by
    rcases keyIs_shape h with ⟨i, u, rfl, e⟩ | ⟨y, u, rfl, e⟩
    · exact nomatch e
    · injection e with e1 _
      subst e1
      cases v <;> rfl
end L2
namespace L2
open PySem PySem.Spec PyProof.Rows
inductive V where
  | non | bl (b : Bool) | int (i : Int) | str (x : Str) | byt (b : Array UInt8) | flt (b : UInt64) | ref (a : Addr) | ty (n : String)
  deriving DecidableEq
def RelV : V → Value → Prop
  | .non, u => u = Value.none
  | .bl b, u => u = Value.bool b
  | .int i, u => ∃ t, u = Value.int i t
  | .str x, u => ∃ t, u = Value.str x t
  | .byt b, u => ∃ t, u = Value.bytes b t
  | .flt b, u => ∃ t, u = Value.float b t
  | .ref a, u => u = Value.ref a
  | .ty n, u => u = Value.type n
abbrev Vals : List V → List Value → Prop := Paired RelV
theorem Vals.length {xs : List V} {us : List Value} (r : Vals xs us) : xs.length = us.length := Paired.length r
theorem Vals.get : ∀ {xs : List V} {us : List Value} {i : Nat} {x : V}, Vals xs us → xs[i]? = some x → ∃ u, us[i]? = some u ∧ RelV x u
  | _, _, _, _, .nil, e => by simp at e
  | _, _, 0, _, .cons r _, e => by simp at e; subst e; exact ⟨_, rfl, r⟩
  | _, _, i + 1, x, .cons _ t, e => by
    obtain ⟨u, h1, h2⟩ := Vals.get (i := i) (x := x) t (by simpa using e)
    exact ⟨u, by simpa using h1, h2⟩
theorem Vals.append : ∀ {xs ys : List V} {us ws : List Value}, Vals xs us → Vals ys ws → Vals (xs ++ ys) (us ++ ws)
  | _, _, _, _, .nil, s => s
  | _, _, _, _, .cons r t, s => .cons r (Vals.append t s)
theorem Vals.take : ∀ {xs : List V} {us : List Value} (n : Nat), Vals xs us → Vals (xs.take n) (us.take n)
  | _, _, 0, _ => .nil
  | _, _, _ + 1, .nil => .nil
  | _, _, n + 1, .cons r t => .cons r (Vals.take n t)
theorem Vals.drop : ∀ {xs : List V} {us : List Value} (n : Nat), Vals xs us → Vals (xs.drop n) (us.drop n)
  | _, _, 0, r => r
  | _, _, _ + 1, .nil => .nil
  | _, _, n + 1, .cons _ t => Vals.drop n t
def RelO : Option V → Option Value → Prop
  | some v, some u => RelV v u
  | none, none => True
  | _, _ => False
def KV {κ : Type} : List (κ × V) → List (κ × Value) → Prop := Paired fun (p : κ × V) (q : κ × Value) => p.1 = q.1 ∧ RelV p.2 q.2
def kV : Key → V
  | .inl i => .int i
  | .inr x => .str x
inductive HO where
  | lst (xs : List V)
  | tup (xs : List V)
  | dK (kvs : List (Key × V)) | dT (kvs : List (List Key × V))
  | set (S : Int → Bool) (n : Nat)
  | ins (C dx : Addr) (fs : List (Str × V))
  | own (x : Addr)
  | xd (fs : List (Str × V))
  | met (f x : Addr)
  | rng (lo hi : Int)
  | frz (o : Obj) (u : HO)
  | tbl (ps : Array Value)
  | ext (φ : Heap → Prop)
abbrev Hp := Addr → Option HO
def upd (H : Hp) (a : Addr) (o : HO) : Hp := fun b => if b = a then some o else H b
theorem upd_same {H : Hp} {a : Addr} {o : HO} : upd H a o a = some o := by unfold upd; rw [if_pos rfl]
theorem upd_ne {H : Hp} {a b : Addr} {o : HO} (h : b ≠ a) : upd H a o b = H b := by unfold upd; rw [if_neg h]
theorem ne_of {H : Hp} {a b : Addr} {o u : HO} (h : H a = some o) (h' : H b = some u) (d : o ≠ u) : a ≠ b := by
  intro e; subst e; rw [h] at h'; exact d (Option.some.inj h')
theorem ne_of_none {H : Hp} {a b : Addr} {o : HO} (h : H a = some o) (h' : H b = none) : a ≠ b := by
  intro e; subst e; rw [h] at h'; cases h'
section
variable (P : Program) (w : World)
def ObjOk (H : Hp) (h : Heap) (a : Addr) : HO → Prop
  | .lst xs => xs.length ≤ sizeLine ∧ ∃ (its : List Value) (n : Nat), Vals xs its ∧ h.get? a = some { cls := .type "list", data := .seq its.toArray n }
  | .tup xs => xs.length ≤ sizeLine ∧ ∃ its : List Value, Vals xs its ∧ IsTup h a its.toArray
  | .dK kvs => kvs.length ≤ sizeLine ∧ (a == sysModules) = false ∧ ∃ vs, KV kvs vs ∧ h.DictOf (mixKind P w) a vs
  | .dT kvs => kvs.length ≤ sizeLine ∧ (a == sysModules) = false ∧ ∃ xs : List (List Key × Addr × Value),
      Paired (fun (p : List Key × V) (q : List Key × Addr × Value) => p.1 = q.1 ∧ H q.2.1 = some (.tup (p.1.map kV)) ∧ RelV p.2 q.2.2) kvs xs ∧
      ∃ o es ep, h.get? a = some o ∧ o.ExactDict ∧ o.data = .dict es ep ∧ es.toList = xs.map (entryOfKey (tupleKind (mixKind P w))) ∧ (xs.map (·.1)).Nodup
  | .set S n => h.SetOf (intKind P w) a S n
  | .ins C dx fs => H dx = some (.own a) ∧ fs.length ≤ 1000 ∧ dx ≠ a ∧ h.get? a = some (PySem.W.instObj C dx) ∧
      ∃ mA, h.Ns1 dx mA ∧ (∀ f, RelO (fs.lookup f) (mA f)) ∧ PySem.Within mA (fs.map (·.1))
  | .own _ => ∃ o, h.get? a = some o
  | .xd fs => ∃ mA, h.Ns1 a mA ∧ ∀ f, RelO (fs.lookup f) (mA f)
  | .rng lo hi => ∃ t u v, h.get? a = some { cls := .type "range", data := .fields #[.int lo t, .int hi u, .int 1 v] }
  | .frz o u => h.get? a = some o ∧ ObjOk H h a u
  /- tblFirst -/
  | .tbl ps => ∃ qs : Array Value, h.get? a = some { cls := .none, data := .fields qs } ∧ (qs = #[] ∨ ∃ (c : Addr) (oc : Obj) (vs : Array Value) (q : Str) (t t' : Tok), H c = some (.frz oc (.own a)) ∧ qs = #[ps.getD 0 .none, ps.getD 1 .none, .ref c] ∧ ps[2]? = some (.str q t) ∧ oc.data = .fields vs ∧ vs[1]? = some (.str q t'))
  | .met f x => h.get? a = some (PySem.W.methodObj (.ref f) (.ref x))
  | .ext φ => φ h ∧ (∃ o, h.get? a = some o) ∧ ∀ h1 h2 : Heap, φ h1 → (∀ o, h1.get? a = some o → h2.get? a = some o) → φ h2
def HOk (H : Hp) (h : Heap) : Prop := ∀ a o, H a = some o → ObjOk P w H h a o
end
section
variable {P : Program} {w : World} {H H' : Hp} {h h' : Heap} {a : Addr} {o : HO}
theorem ObjOk.lt (x : ObjOk P w H h a o) : a < h.objs.size := by
  cases o with
  | lst xs => obtain ⟨_, _, _, _, e⟩ := x; exact Heap.lt_size e
  | tup xs => obtain ⟨_, _, _, p⟩ := x; exact p.lt
  | dK kvs => obtain ⟨_, _, _, _, o, _, _, e, _⟩ := x; exact Heap.lt_size e
  | dT kvs => obtain ⟨_, _, _, _, o, _, _, e, _⟩ := x; exact Heap.lt_size e
  | set S n => obtain ⟨o, _, _, _, e, _⟩ := x; exact Heap.lt_size e
  | ins C dx fs => obtain ⟨_, _, _, e, _⟩ := x; exact Heap.lt_size e
  | own y => obtain ⟨_, e⟩ := x; exact Heap.lt_size e
  | xd fs => obtain ⟨_, ⟨_, _, _, e, _⟩, _⟩ := x; exact Heap.lt_size e
  | rng lo hi => obtain ⟨_, _, _, e⟩ := x; exact Heap.lt_size e
  | frz ob u => obtain ⟨e, _⟩ := x; exact Heap.lt_size e
  | tbl ps => obtain ⟨_, e, _⟩ := x; exact Heap.lt_size e
  | met f y => exact Heap.lt_size (show h.get? a = some _ from x)
  | ext φ => obtain ⟨_, ⟨_, e⟩, _⟩ := x; exact Heap.lt_size e
theorem Paired.mapP {α β : Type} {F G : α → β → Prop} : ∀ {l₁ : List α} {l₂ : List β}, Paired F l₁ l₂ → (∀ a b, F a b → G a b) → Paired G l₁ l₂
  | _, _, .nil, _ => .nil
  | _, _, .cons r t, f => .cons (f _ _ r) (Paired.mapP t f)
theorem ObjOk.stay (x : ObjOk P w H h a o) (k : ∀ b u, (b = a ∨ H b = some (.own a)) → h.get? b = some u → h'.get? b = some u)
    (ho : ∀ b, H b = some (.own a) → H' b = some (.own a)) (ht : ∀ b xs, H b = some (.tup xs) → H' b = some (.tup xs)) (hz : ∀ b o u, H b = some (.frz o u) → H' b = some (.frz o u) := by exact fun _ _ _ q => q) : ObjOk P w H' h' a o := by
  induction o with
  | lst xs => obtain ⟨z, its, n, r, e⟩ := x; exact ⟨z, its, n, r, k _ _ (.inl rfl) e⟩
  | tup xs => obtain ⟨z, its, r, ob, e, c⟩ := x; exact ⟨z, its, r, ob, k _ _ (.inl rfl) e, c⟩
  | dK kvs => obtain ⟨z, y, vs, r, ob, es, ep, e, c⟩ := x; exact ⟨z, y, vs, r, ob, es, ep, k _ _ (.inl rfl) e, c⟩
  | dT kvs =>
    obtain ⟨z, y, xs, r, ob, es, ep, e, c⟩ := x
    exact ⟨z, y, xs, Paired.mapP r fun p q z => ⟨z.1, ht _ _ z.2.1, z.2.2⟩, ob, es, ep, k _ _ (.inl rfl) e, c⟩
  | set S n => obtain ⟨ob, es, ep, t, e, c⟩ := x; exact ⟨ob, es, ep, t, k _ _ (.inl rfl) e, c⟩
  | ins C dx fs =>
    obtain ⟨d, z, ne, e, mA, ⟨od, es, ep, e2, c⟩, r⟩ := x
    exact ⟨ho _ d, z, ne, k _ _ (.inl rfl) e, mA, ⟨od, es, ep, k _ _ (.inr d) e2, c⟩, r⟩
  | own y => obtain ⟨ob, e⟩ := x; exact ⟨ob, k _ _ (.inl rfl) e⟩
  | xd fs => obtain ⟨mA, ⟨od, es, ep, e, c⟩, r⟩ := x; exact ⟨mA, ⟨od, es, ep, k _ _ (.inl rfl) e, c⟩, r⟩
  | rng lo hi => obtain ⟨t, u, v, e⟩ := x; exact ⟨t, u, v, k _ _ (.inl rfl) e⟩
  | frz ob u ih => obtain ⟨e, q⟩ := x; exact ⟨k _ _ (.inl rfl) e, ih q⟩
  | tbl ps =>
    obtain ⟨qs, e, z⟩ := x
    refine ⟨qs, k a _ (.inl rfl) e, ?_⟩
    rcases z with z | ⟨c, oc, vs, q, t, t', hc, z⟩
    · exact .inl z
    · exact .inr ⟨c, oc, vs, q, t, t', hz _ _ _ hc, z⟩
  | met f y =>
    have e : h.get? a = some (PySem.W.methodObj (.ref f) (.ref y)) := x
    show h'.get? a = some (PySem.W.methodObj (.ref f) (.ref y))
    exact k a _ (.inl rfl) e
  | ext φ => obtain ⟨p, ⟨o, e⟩, st⟩ := x; exact ⟨st _ _ p fun o q => k _ _ (.inl rfl) q, ⟨o, k _ _ (.inl rfl) e⟩, st⟩
theorem HOk.lt (x : HOk P w H h) (e : H a = some o) : a < h.objs.size := (x a o e).lt
theorem HOk.fresh (x : HOk P w H h) (e : h.objs.size ≤ a) : H a = none := by
  cases q : H a with
  | none => rfl
  | some u => exact absurd (Nat.lt_of_lt_of_le (x.lt q) e) (Nat.lt_irrefl _)
theorem HOk.kept (x : HOk P w H h) (k : ∀ b u, h.get? b = some u → h'.get? b = some u) : HOk P w H h' := fun a o e =>
  (x a o e).stay (fun b u _ q => k b u q) (fun _ q => q) fun _ _ q => q
theorem HOk.laid (x : HOk P w H h) (k : ∀ b u, h.get? b = some u → h'.get? b = some u) (hp : h.objs.size ≤ a) (new : ObjOk P w (upd H a o) h' a o) : HOk P w (upd H a o) h' := fun b u e => by
  have hn := x.fresh hp
  by_cases hb : b = a
  · subst hb; rw [upd_same] at e; cases e; exact new
  · rw [upd_ne hb] at e
    exact (x b u e).stay (fun c v _ q => k c v q) (fun c q => by rw [upd_ne (ne_of_none q hn)]; exact q) (fun c xs q => by rw [upd_ne (ne_of_none q hn)]; exact q) fun c o u q => by rw [upd_ne (ne_of_none q hn)]; exact q
end
def Rd (H : Hp) (a : Addr) (u : HO) : Prop := H a = some u ∨ ∃ o, H a = some (.frz o u)
theorem Rd.ok {P : Program} {w : World} {H : Hp} {h : Heap} {a : Addr} {u : HO} (r : Rd H a u) (x : HOk P w H h) : ObjOk P w H h a u := by
  rcases r with r | ⟨o, r⟩
  · exact x a u r
  · obtain ⟨_, q⟩ := x a _ r
    exact q
def Mut : Option HO → Prop
  | some (.lst _) => True
  | some (.dK _) => True
  | some (.dT _) => True
  | some (.set _ _) => True
  | some (.ins _ _ _) => True
  | some (.ext _) => True
  | _ => False
section
variable {P : Program} {w : World} {H : Hp} {h h' : Heap} {x e : Addr} {o' : HO}
theorem HOk.write (ok : HOk P w H h) (mu : Mut (H x)) (he : e = x ∨ H e = some (.own x)) (k : ∀ b u, b ≠ e → h.get? b = some u → h'.get? b = some u) (heo : ∃ u, h'.get? e = some u)
    (new : ObjOk P w (upd H x o') h' x o') : HOk P w (upd H x o') h' := fun b u q => by
  have nown : ∀ c y, H c = some (.own y) → c ≠ x := fun c y r z => by subst z; rw [r] at mu; exact mu
  have ntup : ∀ c xs, H c = some (.tup xs) → c ≠ x := fun c xs r z => by subst z; rw [r] at mu; exact mu
  by_cases hb : b = x
  · subst hb; rw [upd_same] at q; cases q; exact new
  · rw [upd_ne hb] at q
    by_cases hbe : b = e
    · have q' : H b = some (.own x) := by
        rcases he with z | z
        · exact absurd (hbe.trans z) hb
        · rw [hbe]; exact z
      rw [q] at q'; cases q'
      obtain ⟨v, hv⟩ := heo
      exact ⟨v, by rw [hbe]; exact hv⟩
    · refine (ok b u q).stay (fun c v hc r => k c v ?_ r) (fun c r => by rw [upd_ne (nown c b r)]; exact r) (fun c xs r => by rw [upd_ne (ntup c xs r)]; exact r) fun c ob xs r => by rw [upd_ne (fun z => by subst z; rw [r] at mu; exact mu)]; exact r
      rcases hc with rfl | hc
      · exact hbe
      · rintro rfl
        rcases he with z | z
        · exact nown c b hc z
        · rw [hc] at z; cases z; exact hb rfl
end
structure Un (fs ex : List Addr) (H H' : Hp) (h h' : Heap) : Prop where
  keep : ∀ b o, h.get? b = some o → H b = none → b ∉ fs → b ∉ ex → h'.get? b = some o
  slot : ∀ b o, h.get? b = some o → H b = none → b ∈ fs → b ∉ ex → ∃ sl, h'.get? b = some { o with slots := sl }
  free : ∀ b o, h.get? b = some o → H b = none → b ∉ ex → H' b = none
  there : ∀ b o, h.get? b = some o → b ∉ ex → ∃ o', h'.get? b = some o'
  tups : ∀ b xs, H b = some (.tup xs) → H' b = some (.tup xs)
  frzs : ∀ b o u, H b = some (.frz o u) → H' b = some (.frz o u)
  tbls : ∀ b ps, H b = some (.tbl ps) → ∃ more, H' b = some (.tbl (ps ++ more))
section
variable {fs fs' ex ex' : List Addr} {H H1 H2 : Hp} {h h1 h2 h' : Heap} {a x e : Addr} {o : HO}
theorem Un.any (u : Un fs ex H H1 h h1) {b : Addr} {ob : Obj} (q : h.get? b = some ob) (n : H b = none) (hx : b ∉ ex) : ∃ sl, h1.get? b = some { ob with slots := sl } := by
  by_cases hb : b ∈ fs
  · exact u.slot b ob q n hb hx
  · exact ⟨ob.slots, u.keep b ob q n hb hx⟩
theorem Un.kept (k : ∀ b u, h.get? b = some u → h'.get? b = some u) : Un fs ex H H h h' :=
  ⟨fun b ob q _ _ _ => k b ob q, fun b ob q _ _ _ => ⟨ob.slots, k b ob q⟩, fun _ _ _ n _ => n, fun b ob q _ => ⟨ob, k b ob q⟩, fun _ _ q => q, fun _ _ _ q => q, fun _ ps q => ⟨#[], by rw [q]; simp⟩⟩
theorem Un.refl : Un fs ex H H h h := Un.kept fun _ _ q => q
theorem Un.laid (k : ∀ b u, h.get? b = some u → h'.get? b = some u) (hp : h.objs.size ≤ a) (hn : H a = none) : Un fs ex H (upd H a o) h h' where
  keep := fun b u q _ _ _ => k b u q
  slot := fun b u q _ _ _ => ⟨u.slots, k b u q⟩
  free := fun b u q n _ => by rw [upd_ne (Nat.ne_of_lt (Nat.lt_of_lt_of_le (Heap.lt_size q) hp))]; exact n
  there := fun b u q _ => ⟨u, k b u q⟩
  tups := fun b xs q => by rw [upd_ne (ne_of_none q hn)]; exact q
  frzs := fun b u xs q => by rw [upd_ne (ne_of_none q hn)]; exact q
  tbls := fun b ps q => ⟨#[], by rw [upd_ne (ne_of_none q hn), q]; simp⟩
theorem Un.write (mu : Mut (H x)) (he : e = x ∨ H e = some (.own x)) (k : ∀ b u, b ≠ e → h.get? b = some u → h'.get? b = some u) (heo : ∃ u, h'.get? e = some u) : Un fs ex H (upd H x o) h h' := by
  have hx : ∀ b, H b = none → b ≠ x := fun b n z => by subst z; rw [n] at mu; exact mu
  have hb : ∀ b, H b = none → b ≠ e := fun b n z => by
    subst z
    rcases he with r | r
    · exact hx b n r
    · rw [n] at r; cases r
  have hm : ∀ b u, H b = some u → ¬ Mut (some u) → b ≠ x := fun b u q nm z => by subst z; rw [q] at mu; exact nm mu
  refine ⟨fun b u q n _ _ => k b u (hb b n) q, fun b u q n _ _ => ⟨u.slots, k b u (hb b n) q⟩, fun b u q n _ => by rw [upd_ne (hx b n)]; exact n, fun b u q _ => ?_,
    fun b xs q => by rw [upd_ne (hm b _ q fun z => z)]; exact q, fun b u xs q => by rw [upd_ne (hm b _ q fun z => z)]; exact q, fun b ps q => ⟨#[], by rw [upd_ne (hm b _ q fun z => z), q]; simp⟩⟩
  by_cases hbe : b = e
  · subst hbe; exact heo
  · exact ⟨u, k b u hbe q⟩
end
def trk (h : Heap) (H : Hp) : List Addr := (List.range h.objs.size).filter fun a => (H a).isSome
def hidT (h : Heap) (H : Hp) : Heap := PySem.W.hideAll h (trk h H)
theorem hidT_size (h : Heap) (H : Hp) : (hidT h H).objs.size = h.objs.size := PySem.W.hideAll_size _ _
theorem hidT_get {h : Heap} {H : Hp} {b : Addr} {o : Obj} (e : h.get? b = some o) (n : H b = none) : (hidT h H).get? b = some o :=
  PySem.W.hideAll_get _ e fun hm => by
    have q : (H b).isSome = true := (List.mem_filter.mp hm).2
    rw [n] at q; simp at q
theorem of_hidT {h : Heap} {H : Hp} {b : Addr} {o : Obj} (e : (hidT h H).get? b = some o) : h.get? b = some o ∧ H b = none := by
  have e' : h.get? b = some o := PySem.W.of_hideAll (trk h H) e
  refine ⟨e', ?_⟩
  cases q : H b with
  | none => rfl
  | some x =>
    have hm : b ∈ trk h H := List.mem_filter.mpr ⟨List.mem_range.mpr (Heap.lt_size e'), by simp [q]⟩
    have z : (hidT h H).get? b = none := PySem.W.hideAll_none (trk h H) hm
    rw [z] at e; cases e
end L2
namespace L2
open PySem PySem.Spec PyProof.Rows
structure Mod (K : PySem.W.Frag) (mg : Str → Option Value) (base : Heap) : Prop where
  kin : K.In base
  glob : base.Ns mainGlobals mg
  blt : ∃ mb, base.Ns builtinsNs mb ∧ ∀ x : Str, x ≠ "__name__" → mb x = bootBuiltins x
  nolimit : base.NoLimit
structure Cx where
  prog : Program
  w : World
  K : PySem.W.Frag
  mg : Str → Option Value
  base : Heap
  A : Around
  N : List Str
  s₀ : Shared
  H₀ : Hp
  env : Env
  outer : List Env
  stack : List Env
  ex : List Addr
  fn : Str → Bool
  calm : Bool
  pn : List (Addr × Obj)
  xe : Value → Shared → Prop
def frs (l : List Env) : List Addr := l.filterMap (·.frame)
abbrev Cx.fs (X : Cx) : List Addr := frs X.outer
def Vis (sc : Scope) (x : Str) : Prop := sc.names.lookup x = some .local ∨ sc.names.lookup x = some .cell ∨ sc.names.lookup x = some .free
def Loc (sc : Scope) (x : Str) : Prop := sc.names.lookup x = some .local ∨ sc.names.lookup x = some .cell
def Look (env : Env) (h : Heap) (m : Str → Option Value) (x : Str) (u : Value) : Prop :=
  (env.kindOf x = some .local ∧ m x = some u) ∨ ((env.kindOf x = some .cell ∨ env.kindOf x = some .free) ∧ ∃ c, env.cells.lookup x = some c ∧ h.IsCell c (some u))
structure Cx.Ok (X : Cx) : Prop where
  mod : Mod X.K X.mg X.base
  kind : X.env.scope.kind = .function
  glob : X.env.globals = mainGlobals
  blt : X.env.builtins = builtinsNs
  above : X.s₀.heap.objs.size ≤ X.env.locals
  inj : ∀ x y c, X.env.cells.lookup x = some c → X.env.cells.lookup y = some c → x = y
  has : ∀ x, (X.env.kindOf x = some .cell ∨ X.env.kindOf x = some .free) → ∃ c, X.env.cells.lookup x = some c
  cab : ∀ x c, X.fn x = true → X.env.cells.lookup x = some c → X.s₀.heap.objs.size ≤ c
  hd : X.calm = true → X.A.handled = none
  frames : X.A.frames = some X.stack
  stk : X.stack = X.outer ∨ (X.stack = X.env :: X.outer ∧ X.env.frame = some X.env.locals)
  exf : ∀ b ∈ X.ex, b ≠ X.env.locals ∧ ∀ x c, X.env.cells.lookup x = some c → c ≠ b
  bs : ∀ b o, X.base.get? b = some o → X.s₀.heap.get? b = some o ∧ X.H₀ b = none
  bsz : X.base.objs.size ≤ X.s₀.heap.objs.size
  noex : ∀ b o, X.base.get? b = some o → b ∉ X.ex
  exfs : ∀ b ∈ X.ex, b ∉ X.fs
  funs : X.s₀.heap.FunFrames X.base X.outer
  frf : ∀ b ∈ X.fs, X.H₀ b = none
structure Inv (X : Cx) (pins : List (Addr × Obj)) (σ : List (Option V)) (H : Hp) (s : Shared) : Prop where
  ok : X.Ok
  os : s.os = X.s₀.os
  bare : AllBare s.gens
  base : Un X.fs X.ex X.H₀ H X.s₀.heap s.heap
  loc : ∃ m, s.heap.Ns X.env.locals m ∧ ∀ (i : Nat) (x : Str) (v : V), X.N[i]? = some x → σ[i]? = some (some v) → Vis X.env.scope x → ∃ u, RelV v u ∧ Look X.env s.heap m x u
  cell : ∀ x c, X.env.cells.lookup x = some c → ∃ v, s.heap.IsCell c v
  free : H X.env.locals = none
  freeC : ∀ x c, X.env.cells.lookup x = some c → H c = none
  pin : ∀ p ∈ X.pn ++ pins, s.heap.get? p.1 = some p.2 ∧ H p.1 = none ∧ p.1 ≠ X.env.locals ∧ p.1 ∉ X.fs ∧ ∀ v, p.2.data ≠ .cell v
  hok : HOk X.prog X.w H s.heap
  len : σ.length = X.N.length
section
variable {X : Cx} {pins : List (Addr × Obj)} {σ : List (Option V)} {H H' : Hp} {s : Shared} {h' : Heap}
theorem Cx.Ok.nofr (ok : X.Ok) {b : Addr} {o : Obj} (e : X.base.get? b = some o) : b ∉ X.fs := fun hb => by
  have := (ok.funs.mem hb).1
  rw [e] at this; cases this
theorem Inv.bs (I : Inv X pins σ H s) : ∀ b o, X.base.get? b = some o → s.heap.get? b = some o ∧ H b = none := fun b o e =>
  ⟨I.base.keep b o (I.ok.bs b o e).1 (I.ok.bs b o e).2 (I.ok.nofr e) (I.ok.noex b o e), I.base.free b o (I.ok.bs b o e).1 (I.ok.bs b o e).2 (I.ok.noex b o e)⟩
theorem Inv.bk (I : Inv X pins σ H s) : ∀ b o, X.base.get? b = some o → s.heap.get? b = some o := fun b o e => (I.bs b o e).1
theorem Inv.mod (I : Inv X pins σ H s) : Mod X.K X.mg X.base := I.ok.mod
theorem Inv.kIn (I : Inv X pins σ H s) : X.K.In s.heap := I.ok.mod.kin.keeps I.bk
theorem Inv.lt (I : Inv X pins σ H s) : X.env.locals < s.heap.objs.size := let ⟨_, hn, _⟩ := I.loc; hn.lt
theorem Inv.sz (I : Inv X pins σ H s) : X.s₀.heap.objs.size ≤ s.heap.objs.size := Nat.le_trans I.ok.above (Nat.le_of_lt I.lt)
theorem Inv.nofs (I : Inv X pins σ H s) {a : Addr} (h : s.heap.objs.size ≤ a) : a ∉ X.fs := fun hb => by
  obtain ⟨_, o, ho, _⟩ := I.ok.funs.mem hb
  exact absurd (Nat.lt_of_lt_of_le (Heap.lt_size ho) (Nat.le_trans I.sz h)) (Nat.lt_irrefl _)
theorem Inv.cne (I : Inv X pins σ H s) : ∀ x c, X.env.cells.lookup x = some c → c ≠ X.env.locals := fun x c e z => by
  obtain ⟨v, o, ho, hd⟩ := I.cell x c e
  obtain ⟨m, ⟨o', es, ep, ho', hd', _⟩, _⟩ := I.loc
  rw [z, ho'] at ho; cases ho; rw [hd'] at hd; cases hd
theorem Inv.funs (I : Inv X pins σ H s) : s.heap.FunFrames X.base X.outer := by
  have all : ∀ (l : List Env), (∀ b ∈ frs l, b ∈ X.fs) → X.s₀.heap.FunFrames X.base l → s.heap.FunFrames X.base l := by
    intro l
    induction l with
    | nil => intro _ _; trivial
    | cons env r ih =>
      intro hs hl
      obtain ⟨hk, ⟨L, o, hf, hn, ho, hd⟩, hr⟩ := hl
      have hL : L ∈ X.fs := hs L (by unfold frs; rw [List.filterMap_cons, hf]; exact List.mem_cons_self)
      obtain ⟨sl, e⟩ := I.base.slot L o ho (I.ok.frf L hL) hL fun z => I.ok.exfs L z hL
      exact ⟨hk, ⟨L, _, hf, hn, e, hd⟩, ih (fun b hb => hs b (by unfold frs; rw [List.filterMap_cons, hf]; exact List.mem_cons_of_mem _ hb)) hr⟩
  exact all X.outer (fun _ hb => hb) I.ok.funs
theorem Inv.stack (I : Inv X pins σ H s) : s.heap.FunFrames X.base X.stack := by
  rcases I.ok.stk with e | ⟨e, hf⟩
  · rw [e]; exact I.funs
  · rw [e]
    obtain ⟨m, hn, _⟩ := I.loc
    refine .cons (by rw [I.ok.kind]; decide) hf hn ?_ I.funs
    exact Heap.get?_none_of_le (Nat.le_trans I.ok.bsz I.ok.above)
theorem Inv.stkSub (I : Inv X pins σ H s) : ∀ b ∈ frs X.stack, b ∈ X.env.locals :: X.fs := fun b hb => by
  rcases I.ok.stk with e | ⟨e, hf⟩
  · rw [e] at hb; exact List.mem_cons_of_mem _ hb
  · rw [e] at hb
    unfold frs at hb
    rw [List.filterMap_cons, hf] at hb
    exact hb
theorem Inv.stkFree (I : Inv X pins σ H s) : ∀ b ∈ frs X.stack, H b = none := fun b hb => by
  rcases List.mem_cons.mp (I.stkSub b hb) with e | hb
  · rw [e]; exact I.free
  · obtain ⟨_, o, ho, _⟩ := I.ok.funs.mem hb
    exact I.base.free b o ho (I.ok.frf b hb) fun z => I.ok.exfs b z hb
theorem Inv.step {g' : Array GenState} {t' : Nat} {d' : Drawn} {ch : List Addr} (I : Inv X pins σ H s)
    (hch : ∀ b ∈ ch, (b ∈ X.ex ∨ X.s₀.heap.objs.size ≤ b) ∧ b ≠ X.env.locals ∧ (∀ x c, X.env.cells.lookup x = some c → c ≠ b) ∧ ∀ p ∈ X.pn ++ pins, p.1 ≠ b)
    (keep : ∀ b o, b ≠ X.env.locals → b ∉ X.fs → b ∉ ch → s.heap.get? b = some o → H b = none → h'.get? b = some o)
    (slot : ∀ b o, b ≠ X.env.locals → b ∈ X.fs → b ∉ ch → s.heap.get? b = some o → H b = none → ∃ sl, h'.get? b = some { o with slots := sl }) (free : ∀ b o, b ∉ ch → s.heap.get? b = some o → H b = none → H' b = none)
    (there : ∀ b o, b ∉ ch → s.heap.get? b = some o → ∃ o', h'.get? b = some o')
    (tups : ∀ b xs, H b = some (.tup xs) → H' b = some (.tup xs)) (frzs : ∀ b o u, H b = some (.frz o u) → H' b = some (.frz o u)) (tbls : ∀ b ps, H b = some (.tbl ps) → ∃ more, H' b = some (.tbl (ps ++ more)))
    (ns : ∀ m, s.heap.Ns X.env.locals m → h'.Ns X.env.locals m) (hok : HOk X.prog X.w H' h') (hg : AllBare g') :
    Inv X pins σ H' { s with heap := h', gens := g', drawn := d', toks := t' } := by
  have neL : ∀ b o, X.s₀.heap.get? b = some o → b ≠ X.env.locals := fun b o e => Nat.ne_of_lt (Nat.lt_of_lt_of_le (Heap.lt_size e) I.ok.above)
  have neC : ∀ b o, X.s₀.heap.get? b = some o → b ∉ X.ex → b ∉ ch := fun b o e hx hb => by
    rcases (hch b hb).1 with z | z
    · exact hx z
    · exact absurd (Nat.lt_of_lt_of_le (Heap.lt_size e) z) (Nat.lt_irrefl _)
  have cellK : ∀ x c, X.env.cells.lookup x = some c → ∀ v, s.heap.IsCell c v → h'.IsCell c v := fun x c e v ⟨o, ho, hd⟩ => by
    have nch : c ∉ ch := fun z => (hch c z).2.2.1 x c e rfl
    by_cases hc : c ∈ X.fs
    · obtain ⟨sl, q⟩ := slot c o (I.cne x c e) hc nch ho (I.freeC x c e)
      exact ⟨_, q, hd⟩
    · exact ⟨o, keep c o (I.cne x c e) hc nch ho (I.freeC x c e), hd⟩
  refine ⟨I.ok, I.os, hg, ⟨fun b o e n hb hx => ?_, fun b o e n hb hx => ?_, fun b o e n hx => ?_, fun b o e hx => ?_, fun b xs e => tups b xs (I.base.tups b xs e), fun b o xs e => frzs b o xs (I.base.frzs b o xs e), fun b ps e => ?_⟩, ?_, fun x c e => ?_, ?_, fun x c e => ?_, fun p hp => ?_, hok, I.len⟩
  · exact keep b o (neL b o e) hb (neC b o e hx) (I.base.keep b o e n hb hx) (I.base.free b o e n hx)
  · obtain ⟨sl, e1⟩ := I.base.slot b o e n hb hx
    obtain ⟨sl', e2⟩ := slot b _ (neL b o e) hb (neC b o e hx) e1 (I.base.free b o e n hx)
    exact ⟨sl', e2⟩
  · obtain ⟨o', e1⟩ := I.base.there b o e hx
    exact free b o' (neC b o e hx) e1 (I.base.free b o e n hx)
  · obtain ⟨o', e1⟩ := I.base.there b o e hx
    exact there b o' (neC b o e hx) e1
  · obtain ⟨m1, e1⟩ := I.base.tbls b ps e
    obtain ⟨m2, e2⟩ := tbls b _ e1
    exact ⟨m1 ++ m2, by rw [e2, Array.append_assoc]⟩
  · obtain ⟨m, hn, hl⟩ := I.loc
    refine ⟨m, ns m hn, fun i x v e1 e2 e3 => ?_⟩
    obtain ⟨u, r, l⟩ := hl i x v e1 e2 e3
    refine ⟨u, r, ?_⟩
    rcases l with l | ⟨k, c, e, z⟩
    · exact .inl l
    · exact .inr ⟨k, c, e, cellK x c e _ z⟩
  · obtain ⟨v, z⟩ := I.cell x c e
    exact ⟨v, cellK x c e v z⟩
  · obtain ⟨m, ⟨o, _, _, ho, _⟩, _⟩ := I.loc
    exact free _ o (fun z => (hch _ z).2.1 rfl) ho I.free
  · obtain ⟨v, o, ho, hd⟩ := I.cell x c e
    exact free c o (fun z => (hch c z).2.2.1 x c e rfl) ho (I.freeC x c e)
  · obtain ⟨e, n, ne, nf, d⟩ := I.pin p hp
    have nch : p.1 ∉ ch := fun z => (hch p.1 z).2.2.2 p hp rfl
    exact ⟨keep p.1 p.2 ne nf nch e n, free p.1 p.2 nch e n, ne, nf, d⟩
theorem Inv.un {t' : Nat} (I : Inv X pins σ H s) (u : Un X.fs [] H H' s.heap h') (hok : HOk X.prog X.w H' h') : Inv X pins σ H' { s with heap := h', toks := t' } := by
  obtain ⟨m, ⟨o, es, ep, ho, r⟩, _⟩ := id I.loc
  obtain ⟨sl, hL⟩ := u.any ho I.free (by simp)
  exact I.step (g' := s.gens) (d' := s.drawn) (ch := []) (fun _ z => nomatch z) (fun b o _ hb _ e n => u.keep b o e n hb (by simp)) (fun b o _ hb _ e n => u.slot b o e n hb (by simp)) (fun b o _ e n => u.free b o e n (by simp)) (fun b o _ e => u.there b o e (by simp)) u.tups u.frzs u.tbls (fun m' hm => by
    obtain ⟨o', es', ep', ho', r'⟩ := hm
    rw [ho] at ho'; cases ho'
    exact ⟨_, es', ep', hL, r'⟩) hok I.bare
theorem Inv.call {g' : Array GenState} {t' : Nat} {d' : Drawn} {ch : List Addr} (I : Inv X pins σ H s) (u : Un (frs X.stack) ch H H' s.heap h') (hok : HOk X.prog X.w H' h') (hg : AllBare g')
    (hch : ∀ b ∈ ch, (b ∈ X.ex ∨ X.s₀.heap.objs.size ≤ b) ∧ b ≠ X.env.locals ∧ (∀ x c, X.env.cells.lookup x = some c → c ≠ b) ∧ ∀ p ∈ X.pn ++ pins, p.1 ≠ b) :
    Inv X pins σ H' { s with heap := h', gens := g', drawn := d', toks := t' } := by
  obtain ⟨m, ⟨o, es, ep, ho, r⟩, _⟩ := id I.loc
  obtain ⟨sl, hL⟩ := u.any ho I.free fun z => (hch _ z).2.1 rfl
  exact I.step (ch := ch) hch (fun b o hL hb hc e n => u.keep b o e n (fun z => (List.mem_cons.mp (I.stkSub b z)).elim hL hb) hc) (fun b o _ _ hc e n => u.any e n hc) (fun b o hc e n => u.free b o e n hc) (fun b o hc e => u.there b o e hc) u.tups u.frzs u.tbls (fun m' hm => by
    obtain ⟨o', es', ep', ho', r'⟩ := hm
    rw [ho] at ho'; cases ho'
    exact ⟨_, es', ep', hL, r'⟩) hok hg
theorem Inv.turned {t' : Nat} {it : Addr} (I : Inv X pins σ H s) (k : ∀ b o, b ≠ it → s.heap.get? b = some o → h'.get? b = some o) (hn : H it = none) (hL : it ≠ X.env.locals)
    (h1 : it ∈ X.ex ∨ X.s₀.heap.objs.size ≤ it) (h2 : ∀ x c, X.env.cells.lookup x = some c → c ≠ it) (h3 : ∀ p ∈ X.pn ++ pins, p.1 ≠ it) : Inv X pins σ H { s with heap := h', toks := t' } := by
  have nit : ∀ b u, H b = some u → b ≠ it := fun b u e z => by rw [z, hn] at e; cases e
  refine I.step (g' := s.gens) (d' := s.drawn) (ch := [it]) (fun b hb => ?_) (fun b o _ _ hc e _ => k b o (fun z => hc (by simp [z])) e) (fun b o _ _ hc e _ => ⟨o.slots, k b o (fun z => hc (by simp [z])) e⟩) (fun _ _ _ _ n => n)
    (fun b o hc e => ⟨o, k b o (fun z => hc (by simp [z])) e⟩) (fun _ _ e => e) (fun _ _ _ e => e) (fun b ps e => ⟨#[], by rw [e]; simp⟩) (fun m hm => ?_) (fun b u e => ?_) I.bare
  · have e : b = it := by simpa using hb
    subst e
    exact ⟨h1, hL, h2, h3⟩
  · obtain ⟨o, es, ep, ho, r⟩ := hm
    exact ⟨o, es, ep, k _ o (Ne.symm hL) ho, r⟩
  · refine (I.hok b u e).stay (fun c v hc q => k c v ?_ q) (fun _ q => q) fun _ _ q => q
    rcases hc with z | z
    · rw [z]; exact nit b u e
    · exact nit c _ z
theorem Inv.tok (I : Inv X pins σ H s) (t : Nat) : Inv X pins σ H { s with toks := t } := I.un (h' := s.heap) (t' := t) Un.refl I.hok
theorem Inv.kept {t' : Nat} (I : Inv X pins σ H s) (k : ∀ b u, s.heap.get? b = some u → h'.get? b = some u) : Inv X pins σ H { s with heap := h', toks := t' } := I.un (Un.kept k) (I.hok.kept k)
theorem Inv.laid {a : Addr} {o : HO} {t' : Nat} (I : Inv X pins σ H s) (k : ∀ b u, s.heap.get? b = some u → h'.get? b = some u) (hp : s.heap.objs.size ≤ a) (new : ObjOk X.prog X.w (upd H a o) h' a o) :
    Inv X pins σ (upd H a o) { s with heap := h', toks := t' } := I.un (Un.laid k hp (I.hok.fresh hp)) (I.hok.laid k hp new)
theorem Inv.write {x e : Addr} {o : HO} {t' : Nat} (I : Inv X pins σ H s) (mu : Mut (H x)) (he : e = x ∨ H e = some (.own x)) (k : ∀ b u, b ≠ e → s.heap.get? b = some u → h'.get? b = some u) (heo : ∃ u, h'.get? e = some u)
    (new : ObjOk X.prog X.w (upd H x o) h' x o) : Inv X pins σ (upd H x o) { s with heap := h', toks := t' } := I.un (Un.write mu he k heo) (I.hok.write mu he k heo new)
theorem Inv.pins_of {pins' : List (Addr × Obj)} (I : Inv X pins σ H s) (h : ∀ p ∈ pins', s.heap.get? p.1 = some p.2 ∧ H p.1 = none ∧ p.1 ≠ X.env.locals ∧ p.1 ∉ X.fs ∧ ∀ v, p.2.data ≠ .cell v) : Inv X pins' σ H s :=
  ⟨I.ok, I.os, I.bare, I.base, I.loc, I.cell, I.free, I.freeC, fun p hp => (List.mem_append.mp hp).elim (fun z => I.pin p (List.mem_append_left _ z)) (h p), I.hok, I.len⟩
theorem nodup_ix {N : List Str} (hN : N.Nodup) {i j : Nat} {x : Str} (a : N[i]? = some x) (b : N[j]? = some x) : i = j := by
  obtain ⟨h1, e1⟩ := List.getElem?_eq_some_iff.mp a
  obtain ⟨h2, e2⟩ := List.getElem?_eq_some_iff.mp b
  exact (List.getElem_inj hN).mp (e1.trans e2.symm)
theorem store_ok2 {M : Model} {A : Around} {E : Value → Shared → Prop} {i : Nat} {x : Str} {v : V} {u : Value} {Q : Unit → Shared → Prop} (I : Inv X pins σ H s) (hN : X.N.Nodup) (hi : X.N[i]? = some x) (hx : Loc X.env.scope x) (r : RelV v u)
    (h : ∀ s', Inv X pins (σ.set i (some v)) H s' → (∃ a, Heap.SameBut a s.heap s'.heap ∧ (a = X.env.locals ∨ X.env.cells.lookup x = some a)) → Q () s') (hf : X.fn x = true ∨ X.env.scope.names.lookup x = some .local := by first | exact .inl rfl | exact .inr rfl | assumption) : wpAny M A (storeName X.env x u) Q E s := by
  obtain ⟨m, hn, hl⟩ := id I.loc
  have hcls : (X.env.scope.kind == .class || (X.env.scope.kind == .module && X.env.locals != X.env.globals)) = false := by rw [I.ok.kind]; rfl
  have hiσ : i < σ.length := by rw [I.len]; exact (List.getElem?_eq_some_iff.mp hi).1
  have cne := I.cne
  have tracked : ∀ {a : Addr} {h' : Heap}, (∃ o, s.heap.get? a = some o ∧ H a = none) → Heap.SameBut a s.heap h' → HOk X.prog X.w H h' := fun {a h'} ha hs b ob e => by
    obtain ⟨_, _, hfree⟩ := ha
    refine (I.hok b ob e).stay (fun c w' hc q => (hs.2 c ?_).trans q) (fun _ q => q) fun _ _ q => q
    rintro rfl
    rcases hc with rfl | hc
    · rw [hfree] at e; cases e
    · rw [hfree] at hc; cases hc
  rcases hx with hk | hk
  · refine wpAny_storeName_local hk hn (fun h' hn' hs => ?_) hcls
    obtain ⟨oL, _, _, hoL, _⟩ := id hn
    refine h _ ⟨I.ok, I.os, I.bare, ⟨fun b o e n hb hx => ?_, fun b o e n hb hx => ?_, I.base.free, fun b o e hx => ?_, I.base.tups, I.base.frzs, I.base.tbls⟩, ⟨_, hn', fun j y v' e1 e2 e3 => ?_⟩, fun y c e => ?_, I.free, I.freeC, fun p hp => ?_, tracked ⟨oL, hoL, I.free⟩ hs, by simpa using I.len⟩ ⟨_, hs, .inl rfl⟩
    · exact (hs.2 b (Nat.ne_of_lt (Nat.lt_of_lt_of_le (Heap.lt_size e) I.ok.above))).trans (I.base.keep b o e n hb hx)
    · obtain ⟨sl, e1⟩ := I.base.slot b o e n hb hx
      exact ⟨sl, (hs.2 b (Nat.ne_of_lt (Nat.lt_of_lt_of_le (Heap.lt_size e) I.ok.above))).trans e1⟩
    · obtain ⟨o', e1⟩ := I.base.there b o e hx
      exact ⟨o', (hs.2 b (Nat.ne_of_lt (Nat.lt_of_lt_of_le (Heap.lt_size e) I.ok.above))).trans e1⟩
    · by_cases hj : j = i
      · subst hj
        rw [hi] at e1; cases e1
        rw [List.getElem?_set_self hiσ] at e2
        cases e2
        exact ⟨u, r, .inl ⟨hk, by simp⟩⟩
      · rw [List.getElem?_set_ne (Ne.symm hj)] at e2
        obtain ⟨u', r', q⟩ := hl j y v' e1 e2 e3
        refine ⟨u', r', ?_⟩
        rcases q with ⟨k, e⟩ | ⟨k, c, e, z⟩
        · refine .inl ⟨k, ?_⟩
          have : y ≠ x := fun e => hj (nodup_ix hN e1 (e ▸ hi))
          simp [this, e]
        · exact .inr ⟨k, c, e, z.sameBut hs (cne y c e)⟩
    · obtain ⟨w', z⟩ := I.cell y c e
      exact ⟨w', z.sameBut hs (cne y c e)⟩
    · obtain ⟨e, n, ne, nf, d⟩ := I.pin p hp
      exact ⟨(hs.2 p.1 ne).trans e, n, ne, nf, d⟩
  · have hfn : X.fn x = true := by
      rcases hf with z | z
      · exact z
      · rw [z] at hk; cases hk
    obtain ⟨c, hc⟩ := I.ok.has x (.inl hk)
    obtain ⟨w', z⟩ := I.cell x c hc
    refine wpAny_storeName_cell I.ok.kind hk hc z (fun h' hc' hs => ?_)
    obtain ⟨oc, hoc, hocd⟩ := id z
    refine h { s with heap := h' } ⟨I.ok, I.os, I.bare, ⟨fun b o e n hb hx => ?_, fun b o e n hb hx => ?_, I.base.free, fun b o e hx => ?_, I.base.tups, I.base.frzs, I.base.tbls⟩, ⟨m, hn.sameBut hs (Ne.symm (cne x c hc)), fun j y v' e1 e2 e3 => ?_⟩, fun y c' e => ?_, I.free, I.freeC, fun p hp => ?_, tracked ⟨oc, hoc, I.freeC x c hc⟩ hs, by simpa using I.len⟩ ⟨c, hs, .inr hc⟩
    · exact (hs.2 b (Nat.ne_of_lt (Nat.lt_of_lt_of_le (Heap.lt_size e) (I.ok.cab x c hfn hc)))).trans (I.base.keep b o e n hb hx)
    · obtain ⟨sl, e1⟩ := I.base.slot b o e n hb hx
      exact ⟨sl, (hs.2 b (Nat.ne_of_lt (Nat.lt_of_lt_of_le (Heap.lt_size e) (I.ok.cab x c hfn hc)))).trans e1⟩
    · obtain ⟨o', e1⟩ := I.base.there b o e hx
      exact ⟨o', (hs.2 b (Nat.ne_of_lt (Nat.lt_of_lt_of_le (Heap.lt_size e) (I.ok.cab x c hfn hc)))).trans e1⟩
    · by_cases hj : j = i
      · subst hj
        rw [hi] at e1; cases e1
        rw [List.getElem?_set_self hiσ] at e2
        cases e2
        exact ⟨u, r, .inr ⟨.inl hk, c, hc, hc'⟩⟩
      · rw [List.getElem?_set_ne (Ne.symm hj)] at e2
        obtain ⟨u', r', q⟩ := hl j y v' e1 e2 e3
        refine ⟨u', r', ?_⟩
        rcases q with q | ⟨k, c', e, z'⟩
        · exact .inl q
        · refine .inr ⟨k, c', e, z'.sameBut hs ?_⟩
          rintro rfl
          exact hj (nodup_ix hN e1 (I.ok.inj _ _ _ e hc ▸ hi))
    · by_cases hcc : c' = c
      · subst hcc; exact ⟨_, hc'⟩
      · obtain ⟨w2, z2⟩ := I.cell y c' e
        exact ⟨w2, z2.sameBut hs hcc⟩
    · obtain ⟨e, n, ne, nf, d⟩ := I.pin p hp
      refine ⟨(hs.2 p.1 ?_).trans e, n, ne, nf, d⟩
      intro q
      rw [q, hoc] at e
      have q' : oc = p.2 := Option.some.inj e
      exact d w' (by rw [← q']; exact hocd)
theorem store_ok {M : Model} {A : Around} {E : Value → Shared → Prop} {i : Nat} {x : Str} {v : V} {u : Value} {Q : Unit → Shared → Prop} (I : Inv X pins σ H s) (hN : X.N.Nodup) (hi : X.N[i]? = some x) (hx : Loc X.env.scope x) (r : RelV v u)
    (h : ∀ s', Inv X pins (σ.set i (some v)) H s' → Q () s') (hf : X.fn x = true ∨ X.env.scope.names.lookup x = some .local := by first | exact .inl rfl | exact .inr rfl | assumption) : wpAny M A (storeName X.env x u) Q E s :=
  store_ok2 I hN hi hx r (fun s' I' _ => h s' I') hf
theorem Inv.call' {s' : Shared} {ch : List Addr} (I : Inv X pins σ H s) (ho : s'.os = s.os) (u : Un (frs X.stack) ch H H' s.heap s'.heap) (hok : HOk X.prog X.w H' s'.heap) (hg : AllBare s'.gens)
    (hch : ∀ b ∈ ch, (b ∈ X.ex ∨ X.s₀.heap.objs.size ≤ b) ∧ b ≠ X.env.locals ∧ (∀ x c, X.env.cells.lookup x = some c → c ≠ b) ∧ ∀ p ∈ X.pn ++ pins, p.1 ≠ b) : Inv X pins σ H' s' := by
  obtain ⟨h', g', d', t', o'⟩ := s'
  have e : o' = s.os := ho
  subst e
  exact I.call (g' := g') (t' := t') (d' := d') u hok hg hch
end
abbrev XK := Value → Option Addr → Hp → Prop
abbrev St := List (Option V)
abbrev VK := V → Hp → Prop
abbrev TE := St → Hp → VK → Prop
abbrev TT := St → Hp → (Bool → Hp → Prop) → Prop
abbrev TA := St → Hp → (List V → Hp → Prop) → Prop
structure Ends where
  nx : St → Hp → Prop
  rt : VK
  bk : St → Hp → Prop := fun _ _ => False
  ct : St → Hp → Prop := fun _ _ => False
abbrev TS := Ends → St → Hp → Prop
def EP (X : Cx) (pins : List (Addr × Obj)) (σ : St) (Q : VK) (u : Value) (s' : Shared) : Prop := ∃ v H', Inv X pins σ H' s' ∧ RelV v u ∧ Q v H'
def TP (X : Cx) (pins : List (Addr × Obj)) (σ : St) (Q : Bool → Hp → Prop) (b : Bool) (s' : Shared) : Prop := ∃ H', Inv X pins σ H' s' ∧ Q b H'
def AP (X : Cx) (pins : List (Addr × Obj)) (σ : St) (Q : List V → Hp → Prop) (us : List Value) (s' : Shared) : Prop := ∃ vs H', Inv X pins σ H' s' ∧ Vals vs us ∧ Q vs H'
def SP (X : Cx) (pins : List (Addr × Obj)) (D : Ends) (f : Flow) (s' : Shared) : Prop :=
  match f with
  | .next => ∃ σ' H', Inv X pins σ' H' s' ∧ D.nx σ' H'
  | .brk => ∃ σ' H', Inv X pins σ' H' s' ∧ D.bk σ' H'
  | .cont => ∃ σ' H', Inv X pins σ' H' s' ∧ D.ct σ' H'
  | .ret u => ∃ v σ' H', Inv X pins σ' H' s' ∧ RelV v u ∧ D.rt v H'
def PE (X : Cx) (e : Expr) (t : TE) : Prop :=
  ∀ (pins : List (Addr × Obj)) (s : Shared) (σ : St) (H : Hp) (Q : VK), Inv X pins σ H s → t σ H Q → wpAny (model X.prog X.w) X.A (eval e X.env) (EP X pins σ Q) X.xe s
def PT (X : Cx) (e : Expr) (t : TT) : Prop :=
  ∀ (pins : List (Addr × Obj)) (s : Shared) (σ : St) (H : Hp) (Q : Bool → Hp → Prop), Inv X pins σ H s → t σ H Q → wpAny (model X.prog X.w) X.A (isTrue e X.env (eval e X.env)) (TP X pins σ Q) X.xe s
def PW (X : Cx) (e : Expr) (t : TT) : Prop :=
  ∀ (whole : Sem Value) (pins : List (Addr × Obj)) (s : Shared) (σ : St) (H : Hp) (Q : Bool → Hp → Prop), Inv X pins σ H s → t σ H Q → wpAny (model X.prog X.w) X.A (isTrue e X.env whole) (TP X pins σ Q) X.xe s
theorem PW.pt {X : Cx} {e : Expr} {t : TT} (h : PW X e t) : PT X e t := h _
def PA (X : Cx) (es : List Expr) (t : TA) : Prop :=
  ∀ (pos : Pos) (pins : List (Addr × Obj)) (s : Shared) (σ : St) (H : Hp) (Q : List V → Hp → Prop), Inv X pins σ H s → t σ H Q → wpAny (model X.prog X.w) X.A (spliced (backTo pos (starEach es X.env))) (AP X pins σ Q) X.xe s
def PS (X : Cx) (st : Stmt) (t : TS) : Prop :=
  ∀ (pins : List (Addr × Obj)) (s : Shared) (σ : St) (H : Hp) (D : Ends), Inv X pins σ H s → t D σ H → wpAny (model X.prog X.w) X.A (exec st X.env) (SP X pins D) X.xe s
def PSs (X : Cx) (st : List Stmt) (t : TS) : Prop :=
  ∀ (pins : List (Addr × Obj)) (s : Shared) (σ : St) (H : Hp) (D : Ends), Inv X pins σ H s → t D σ H → wpAny (model X.prog X.w) X.A (execs st X.env) (SP X pins D) X.xe s
theorem thn {α : Type} {t : Sem α} {Q Q' : α → Shared → Prop} {M : Model} {A : Around} {E : Value → Shared → Prop} {s : Shared} (h : wpAny M A t Q E s) (hQ : ∀ a s, Q a s → Q' a s) : wpAny M A t Q' E s := wpAny_mono h hQ fun _ _ x => x
end L2
namespace L2
open PySem PySem.Spec PyProof.Rows
section
variable {X : Cx}
theorem bin {a b : Expr} {ta tb : TE} (ha : PE X a ta) (hb : PE X b tb) {pins : List (Addr × Obj)} {s : Shared} {σ : St} {H : Hp} {R : V → V → Hp → Prop} (I : Inv X pins σ H s) (h : ta σ H fun x H1 => tb σ H1 fun y H2 => R x y H2)
    {α : Type} {Q : α → Shared → Prop} {f : Value → Value → Sem α}
    (hf : ∀ v u s2 x y H2, Inv X pins σ H2 s2 → RelV x v → RelV y u → R x y H2 → wpAny (model X.prog X.w) X.A (f v u) Q X.xe s2) :
    wpAny (model X.prog X.w) X.A (eval a X.env) (fun v s₁ => wpAny (model X.prog X.w) X.A (eval b X.env) (fun u s₂ => wpAny (model X.prog X.w) X.A (f v u) Q X.xe s₂) X.xe s₁) X.xe s := by
  refine thn (ha pins s σ H _ I h) fun v s1 ⟨x, H1, I1, r1, q1⟩ => ?_
  refine thn (hb pins s1 σ H1 _ I1 q1) fun u s2 ⟨y, H2, I2, r2, q2⟩ => ?_
  exact hf v u s2 x y H2 I2 r1 r2 q2
inductive tVar (i : Nat) (σ : St) (H : Hp) (Q : V → Hp → Prop) : Prop
  | mk (v : V) (_ : σ[i]? = some (some v)) (_ : Q v H) : tVar i σ H Q
def tC (v : V) : TE := fun _ H Q => Q v H
theorem pe_var {i : Nat} {x : Str} {pos : Pos} (hN : X.N[i]? = some x) (hv : Vis X.env.scope x) (hd : (x == ("__debug__" : Str)) = false := by decide) (hcd : (x == ("__classdict__" : Str)) = false := by decide) : PE X (.Name x pos) (tVar i) := by
  intro pins s σ H Q I h
  obtain ⟨v, e, h⟩ := h
  obtain ⟨m, hn, hl⟩ := I.loc
  obtain ⟨u, r, l⟩ := hl i x v hN e hv
  have fin : EP X pins σ Q u s := ⟨v, H, I, r, h⟩
  rcases l with ⟨hk, hm⟩ | ⟨hk, c, hc, hcell⟩
  · exact wpAny_Name (wpAny_loadName_local I.ok.kind hk hn hm fin) hd
  · rcases hk with hk | hk
    · exact wpAny_Name (wpAny_loadName_cell I.ok.kind hk hc hcell fin) hd
    · exact wpAny_Name (wpAny_loadName_free I.ok.kind hk hc hcell fin hcd) hd
theorem pe_int {i j pos} : PE X (.Constant (.int i) j pos) (tC (.int i)) := fun _ _ _ H _ I h => wpAny_Constant_int ⟨.int i, H, I.tok _, ⟨_, rfl⟩, h⟩
theorem pe_bl {b j pos} : PE X (.Constant (.bool b) j pos) (tC (.bl b)) := fun _ _ _ H _ I h => Constant_bool ⟨.bl b, H, I, rfl, h⟩
theorem pe_str {x j pos} : PE X (.Constant (.str x) j pos) (tC (.str x)) := fun _ _ _ H _ I h => Calls.Constant_str ⟨.str x, H, I.tok _, ⟨_, rfl⟩, h⟩
def Gl (X : Cx) (x : Str) : Prop := X.env.kindOf x = some .globalImplicit
theorem ld_glob {E : Value → Shared → Prop} {pins : List (Addr × Obj)} {s : Shared} {σ : St} {H : Hp} {x : Str} {u : Value} {pos : Pos} {Q : Value → Shared → Prop} (I : Inv X pins σ H s) (hg : Gl X x) (hm : X.mg x = some u) (h : Q u s)
    (hd : (x == ("__debug__" : Str)) = false := by decide) : wpAny (model X.prog X.w) X.A (eval (.Name x pos) X.env) Q E s :=
  Calls.Name_function_global I.ok.kind hg (Calls.loadGlobal_global (by rw [I.ok.glob]; exact I.mod.glob.keeps I.bk) hm h) hd
theorem ld_blt {E : Value → Shared → Prop} {pins : List (Addr × Obj)} {s : Shared} {σ : St} {H : Hp} {x : Str} {u : Value} {pos : Pos} {Q : Value → Shared → Prop} (I : Inv X pins σ H s) (hg : Gl X x) (hm : X.mg x = none) (hv : bootBuiltins x = some u) (h : Q u s)
    (hn : x ≠ "__name__" := by decide) (hd : (x == ("__debug__" : Str)) = false := by decide) : wpAny (model X.prog X.w) X.A (eval (.Name x pos) X.env) Q E s := by
  obtain ⟨mb, h1, h2⟩ := I.mod.blt
  exact Calls.Name_function_global I.ok.kind hg (Calls.loadGlobal_builtin (by rw [I.ok.glob]; exact I.mod.glob.keeps I.bk) hm (by rw [I.ok.blt]; exact h1.keeps I.bk) ((h2 x hn).trans hv) h) hd
theorem pe_glob {x : Str} {v : V} {u : Value} {pos : Pos} (hg : Gl X x) (hm : X.mg x = some u) (r : RelV v u) (hd : (x == ("__debug__" : Str)) = false := by decide) : PE X (.Name x pos) (tC v) :=
  fun _ _ _ H _ I h => ld_glob I hg hm ⟨v, H, I, r, h⟩ hd
theorem pe_bltn {x : Str} {v : V} {u : Value} {pos : Pos} (hg : Gl X x) (hm : X.mg x = none) (hv : bootBuiltins x = some u) (r : RelV v u) (hn : x ≠ "__name__" := by decide) (hd : (x == ("__debug__" : Str)) = false := by decide) : PE X (.Name x pos) (tC v) :=
  fun _ _ _ H _ I h => ld_blt I hg hm hv ⟨v, H, I, r, h⟩ hn hd
variable {a b : Expr} {ta tb : TE} {pos : Pos}
variable {tA tB' : TT} {rest : List Expr}
def tAnd (t u : TT) : TT := fun σ H Q => t σ H fun c H1 => if c = true then u σ H1 Q else Q false H1
def tOr (t u : TT) : TT := fun σ H Q => t σ H fun c H1 => if c = true then Q true H1 else u σ H1 Q
def tNot (t : TT) : TT := fun σ H Q => t σ H fun c H1 => Q (!c) H1
theorem pw_and1 (ha : PT X a tA) : PW X (.BoolOp .And [a] pos) tA := by
  intro wh pins s σ H Q I h
  refine isTrue_and (thn (ha pins s σ H Q I h) fun c s1 e => ?_)
  cases c with
  | true => exact isTrue_and_nil e
  | false => exact e
theorem pw_or1 (ha : PT X a tA) : PW X (.BoolOp .Or [a] pos) tA := by
  intro wh pins s σ H Q I h
  refine isTrue_or (thn (ha pins s σ H Q I h) fun c s1 e => ?_)
  cases c with
  | false => exact isTrue_or_nil e
  | true => exact e
theorem pw_and (ha : PT X a tA) (hb : PW X (.BoolOp .And (b :: rest) pos) tB') : PW X (.BoolOp .And (a :: b :: rest) pos) (tAnd tA tB') := by
  intro wh pins s σ H Q I h
  refine isTrue_and (thn (ha pins s σ H _ I h) fun c s1 ⟨H1, I1, q1⟩ => ?_)
  cases c with
  | true => exact hb wh pins s1 σ H1 Q I1 q1
  | false => exact ⟨H1, I1, q1⟩
theorem pw_or (ha : PT X a tA) (hb : PW X (.BoolOp .Or (b :: rest) pos) tB') : PW X (.BoolOp .Or (a :: b :: rest) pos) (tOr tA tB') := by
  intro wh pins s σ H Q I h
  refine isTrue_or (thn (ha pins s σ H _ I h) fun c s1 ⟨H1, I1, q1⟩ => ?_)
  cases c with
  | true => exact ⟨H1, I1, q1⟩
  | false => exact hb wh pins s1 σ H1 Q I1 q1
theorem pt_not (ha : PT X a tA) : PT X (.UnaryOp .Not a pos) (tNot tA) := by
  intro pins s σ H Q I h
  exact isTrue_not (ha pins s σ H (fun c H1 => Q (!c) H1) I h)
def tAndV (ta tb : TE) : TE := fun σ H Q => ta σ H fun x H1 => ∃ c, x = .bl c ∧ if c = true then tb σ H1 Q else Q (.bl false) H1
def tNotV (ta : TE) : TE := fun σ H Q => ta σ H fun x H1 => ∃ c, x = .bl c ∧ Q (.bl (!c)) H1
theorem pe_one {op} {t : TE} (h : PE X a t) : PE X (.BoolOp op [a] pos) t := fun pins s σ H Q I hw => BoolOp_one (h pins s σ H Q I hw)
theorem pe_and (ha : PE X a ta) (hb : PE X (.BoolOp .And (b :: rest) pos) tb) : PE X (.BoolOp .And (a :: b :: rest) pos) (tAndV ta tb) := by
  intro pins s σ H Q I h
  refine BoolOp_and (thn (ha pins s σ H _ I h) fun v s1 ⟨x, H1, I1, r1, q1⟩ => ?_)
  obtain ⟨c, rfl, q1⟩ := q1
  cases r1
  refine wpAny_truthy_bool ?_
  cases c with
  | true => exact hb pins s1 σ H1 Q I1 q1
  | false => exact ⟨.bl false, H1, I1, rfl, q1⟩
theorem pe_not (ha : PE X a ta) : PE X (.UnaryOp .Not a pos) (tNotV ta) := by
  intro pins s σ H Q I h
  refine UnaryOp_ (thn (ha pins s σ H _ I h) fun v s1 ⟨x, H1, I1, r1, q1⟩ => ?_)
  obtain ⟨c, rfl, q1⟩ := q1
  cases r1
  exact not_of (wpAny_truthy_bool ⟨.bl (!c), H1, I1, rfl, q1⟩)
end
end L2
namespace L2
open PySem PySem.Spec PyProof.Rows
def SqL (K : PySem.W.Frag) (H : Hp) (a : Addr) (xs : List V) : Prop :=
  Rd H a (.lst xs) ∨
    ∃ (o : Obj) (its : Array Value) (n : Nat), K.lookup a = some o ∧ o.cls = .type "list" ∧ o.dict = none ∧ o.data = .seq its n ∧ its.size ≤ sizeLine ∧ Vals xs its.toList
def SqT (K : PySem.W.Frag) (H : Hp) (a : Addr) (xs : List V) : Prop :=
  Rd H a (.tup xs) ∨
    ∃ (o : Obj) (its : Array Value) (n : Nat), K.lookup a = some o ∧ o.cls = .type "tuple" ∧ o.data = .seq its n ∧ its.size ≤ sizeLine ∧ Vals xs its.toList
def absV : Value → Option V
  | .none => some .non
  | .bool b => some (.bl b)
  | .int i _ => some (.int i)
  | .str x _ => some (.str x)
  | .bytes b _ => some (.byt b)
  | .float b _ => some (.flt b)
  | .ref a => some (.ref a)
  | .type n => some (.ty n)
  | _ => none
theorem RelV.abs {x : V} {u : Value} (r : RelV x u) : absV u = some x := by
  cases x with
  | non => cases r; rfl
  | bl _ => cases r; rfl
  | int _ => obtain ⟨t, rfl⟩ := r; rfl
  | str _ => obtain ⟨t, rfl⟩ := r; rfl
  | byt _ => obtain ⟨t, rfl⟩ := r; rfl
  | flt _ => obtain ⟨t, rfl⟩ := r; rfl
  | ref _ => cases r; rfl
  | ty _ => cases r; rfl
theorem RelV.inj {x y : V} {u : Value} (r : RelV x u) (q : RelV y u) : x = y := Option.some.inj (r.abs.symm.trans q.abs)
theorem Vals.inj : ∀ {xs ys : List V} {us : List Value}, Vals xs us → Vals ys us → xs = ys
  | _, _, _, .nil, .nil => rfl
  | _, _, _, .cons r t, .cons r' t' => by rw [r.inj r', Vals.inj t t']
section
variable {X : Cx} {pins : List (Addr × Obj)} {σ : St} {H : Hp} {s : Shared} {a : Addr} {xs ys : List V}
theorem SqL.of {K : PySem.W.Frag} (h : H a = some (.lst xs)) : SqL K H a xs := .inl (.inl h)
theorem SqT.of {K : PySem.W.Frag} (h : H a = some (.tup xs)) : SqT K H a xs := .inl (.inl h)
theorem Inv.list (I : Inv X pins σ H s) (h : SqL X.K H a xs) : ∃ its : List Value, Vals xs its ∧ PlainL s.heap a its.toArray ∧ xs.length ≤ sizeLine := by
  rcases h with h | ⟨o, its, n, hk, hc, hd, hs, hz, r⟩
  · obtain ⟨z, its, n, r, e⟩ := h.ok I.hok
    exact ⟨its, r, ⟨_, n, e, rfl, rfl, rfl⟩, z⟩
  · refine ⟨its.toList, r, ⟨o, n, I.kIn a o hk, hc, hd, by simpa using hs⟩, ?_⟩
    have e := r.length
    simp only [Array.length_toList] at e
    omega
theorem Inv.tuple (I : Inv X pins σ H s) (h : SqT X.K H a xs) : ∃ its : List Value, Vals xs its ∧ IsTup s.heap a its.toArray ∧ xs.length ≤ sizeLine := by
  rcases h with h | ⟨o, its, n, hk, hc, hs, hz, r⟩
  · obtain ⟨z, its, r, p⟩ := h.ok I.hok
    exact ⟨its, r, p, z⟩
  · refine ⟨its.toList, r, ⟨o, I.kIn a o hk, hc, n, by simpa using hs⟩, ?_⟩
    have e := r.length
    simp only [Array.length_toList] at e
    omega
theorem Inv.list_inj (I : Inv X pins σ H s) (h : SqL X.K H a xs) (h' : SqL X.K H a ys) : xs = ys := by
  obtain ⟨its, r, ⟨o, n, e, _, _, d⟩, _⟩ := I.list h
  obtain ⟨its', r', ⟨o', n', e', _, _, d'⟩, _⟩ := I.list h'
  rw [e] at e'; cases e'
  rw [d] at d'
  injection d' with d1 _
  have : its = its' := by simpa using congrArg Array.toList d1
  subst this
  exact r.inj r'
theorem Inv.tuple_inj (I : Inv X pins σ H s) (h : SqT X.K H a xs) (h' : SqT X.K H a ys) : xs = ys := by
  obtain ⟨its, r, ⟨o, e, _, n, d⟩, _⟩ := I.tuple h
  obtain ⟨its', r', ⟨o', e', _, n', d'⟩, _⟩ := I.tuple h'
  rw [e] at e'; cases e'
  rw [d] at d'
  injection d' with d1 _
  have : its = its' := by simpa using congrArg Array.toList d1
  subst this
  exact r.inj r'
end
abbrev Cx.wish (X : Cx) (E : Value → Shared → Prop) : Cx := { X with xe := E }
abbrev Cx.nox (X : Cx) : Cx := X.wish fun _ _ => False
theorem Cx.Ok.wish {X : Cx} (ok : X.Ok) (E : Value → Shared → Prop) : (X.wish E).Ok :=
  ⟨ok.mod, ok.kind, ok.glob, ok.blt, ok.above, ok.inj, ok.has, ok.cab, ok.hd, ok.frames, ok.stk, ok.exf, ok.bs, ok.bsz, ok.noex, ok.exfs, ok.funs, ok.frf⟩
theorem Cx.Ok.unwish {X : Cx} {E : Value → Shared → Prop} (ok : (X.wish E).Ok) : X.Ok :=
  ⟨ok.mod, ok.kind, ok.glob, ok.blt, ok.above, ok.inj, ok.has, ok.cab, ok.hd, ok.frames, ok.stk, ok.exf, ok.bs, ok.bsz, ok.noex, ok.exfs, ok.funs, ok.frf⟩
section
variable {X : Cx} {pins : List (Addr × Obj)} {σ : St} {H : Hp} {s : Shared} {E : Value → Shared → Prop}
theorem Inv.wish (I : Inv X pins σ H s) (E : Value → Shared → Prop) : Inv (X.wish E) pins σ H s := ⟨I.ok.wish E, I.os, I.bare, I.base, I.loc, I.cell, I.free, I.freeC, I.pin, I.hok, I.len⟩
theorem Inv.unwish (I : Inv (X.wish E) pins σ H s) : Inv X pins σ H s := ⟨I.ok.unwish, I.os, I.bare, I.base, I.loc, I.cell, I.free, I.freeC, I.pin, I.hok, I.len⟩
theorem SP.unwish {D : Ends} {f : Flow} {s' : Shared} (h : SP (X.wish E) pins D f s') : SP X pins D f s' := by
  cases f with
  | next => obtain ⟨σ', H', I, q⟩ := h; exact ⟨σ', H', I.unwish, q⟩
  | brk => obtain ⟨σ', H', I, q⟩ := h; exact ⟨σ', H', I.unwish, q⟩
  | cont => obtain ⟨σ', H', I, q⟩ := h; exact ⟨σ', H', I.unwish, q⟩
  | ret u => obtain ⟨v, σ', H', I, r, q⟩ := h; exact ⟨v, σ', H', I.unwish, r, q⟩
theorem PSs.nox {st : List Stmt} {t : TS} (h : PSs X.nox st t) : PSs X st t := fun pins s σ H D I hw =>
  wpAny_mono (h pins s σ H D (I.wish _) hw) (fun _ _ q => q.unwish) fun _ _ z => False.elim z
end
section
variable {X : Cx} {st : Stmt} {rest : List Stmt} {t u : TS} {e : Expr} {te : TE} {pos : Pos}
def tNext : TS := fun D σ H => D.nx σ H
def tSeq (t u : TS) : TS := fun D σ H => t { D with nx := u D } σ H
theorem pss_nil : PSs X [] tNext := fun _ _ σ H _ I h => wpAny_execs_nil ⟨σ, H, I, h⟩
theorem pss_cons (h1 : PS X st t) (h2 : PSs X rest u) : PSs X (st :: rest) (tSeq t u) := by
  intro pins s σ H D I h
  refine wpAny_execs_cons (thn (h1 pins s σ H { D with nx := u D } I h) fun f s1 q => ?_)
  cases f with
  | next =>
    obtain ⟨σ', H', I', q⟩ := q
    exact h2 pins s1 σ' H' D I' q
  | ret v => exact q
  | brk => exact q
  | cont => exact q
theorem pss_one (h1 : PS X st t) : PSs X [st] t := by
  intro pins s σ H D I h
  refine wpAny_execs_cons (thn (h1 pins s σ H D I h) fun f s1 q => ?_)
  cases f with
  | next => exact wpAny_execs_nil q
  | ret v => exact q
  | brk => exact q
  | cont => exact q
theorem Inv.quiet {pins : List (Addr × Obj)} {σ : St} {H : Hp} {s : Shared} (I : Inv X pins σ H s) : interactive X.env = false := by simp [interactive, I.ok.kind]
def tDrop (te : TE) : TS := fun D σ H => te σ H fun _ H1 => D.nx σ H1
theorem ps_expr (he : PE X e te) (hs : swapsWith e none pos.line X.env = pure false := by rfl) : PS X (.Expr e pos) (tDrop te) := by
  intro pins s σ H D I h
  exact wpAny_Expr_any (thn (he pins s σ H _ I h) fun v s1 ⟨x, H1, I1, r1, q1⟩ => ⟨σ, H1, I1, q1⟩) I.quiet hs
def tRet (te : TE) : TS := fun D σ H => te σ H D.rt
theorem ps_ret (he : PE X e te) : PS X (.Return (some e) pos) (tRet te) := by
  intro pins s σ H D I h
  exact wpAny_Return_some (thn (he pins s σ H _ I h) fun v s1 ⟨x, H1, I1, r1, q1⟩ => ⟨x, σ, H1, I1, r1, q1⟩)
def tIfS (c : TT) (t u : TS) : TS := fun D σ H => c σ H fun b H1 => if b = true then t D σ H1 else u D σ H1
theorem ps_if {c : Expr} {a b : List Stmt} {tc : TT} (hc : PT X c tc) (ha : PSs X a t) (hb : PSs X b u) : PS X (.If c a b pos) (tIfS tc t u) := by
  intro pins s σ H D I h
  refine wpAny_If (thn (hc pins s σ H _ I h) fun d s1 ⟨H1, I1, q1⟩ => ?_)
  cases d with
  | true => exact ha pins s1 σ H1 D I1 q1
  | false => exact hb pins s1 σ H1 D I1 q1
def tNever : TS := fun _ _ _ => False
theorem ps_never : PS X st tNever := fun _ _ _ _ _ _ h => h.elim
end
abbrev TG := V → St → Hp → (St → Hp → Prop) → Prop
def PG (X : Cx) (target : Expr) (t : TG) : Prop :=
  ∀ (pins : List (Addr × Obj)) (s : Shared) (σ : St) (H : Hp) (v : V) (u : Value) (Q : St → Hp → Prop), Inv X pins σ H s → RelV v u → t v σ H Q →
    wpAny (model X.prog X.w) X.A (assign target X.env u) (fun _ s' => ∃ σ' H', Inv X pins σ' H' s' ∧ Q σ' H') X.xe s
abbrev TIp := V → V → Hp → VK → Prop
def PIp (X : Cx) (op : Operator) (t : TIp) : Prop :=
  ∀ (pins : List (Addr × Obj)) (s : Shared) (σ : St) (H : Hp) (x y : V) (v u : Value) (Q : VK), Inv X pins σ H s → RelV x v → RelV y u → t x y H Q →
    wpAny (model X.prog X.w) X.A (inplaceOp op v u) (EP X pins σ Q) X.xe s
section
variable {X : Cx} {pos : Pos}
def gName (i : Nat) : TG := fun v σ H Q => Q (σ.set i (some v)) H
theorem pg_name {i : Nat} {x : Str} (hN : X.N.Nodup) (hi : X.N[i]? = some x) (hx : Loc X.env.scope x) (hf : X.fn x = true ∨ X.env.scope.names.lookup x = some .local := by first | exact .inl rfl | exact .inr rfl | assumption) : PG X (.Name x pos) (gName i) := by
  intro pins s σ H v u Q I r h
  exact wpAny_assign_Name (store_ok I hN hi hx r (fun s' I' => ⟨_, H, I', h⟩) hf)
def tAsg (te : TE) (g : TG) : TS := fun D σ H => te σ H fun x H1 => g x σ H1 D.nx
theorem ps_set {i : Nat} {x : Str} {e : Expr} {te : TE} {pos' : Pos} (hN : X.N.Nodup) (hi : X.N[i]? = some x) (hx : Loc X.env.scope x) (he : PE X e te) (hs : swapsWith e (some (.Name x pos')) pos.line X.env = pure false := by rfl) (hf : X.fn x = true ∨ X.env.scope.names.lookup x = some .local := by first | exact .inl rfl | exact .inr rfl | assumption) :
    PS X (.Assign [.Name x pos'] e pos) (tAsg te (gName i)) := by
  intro pins s σ H D I h
  refine wpAny_Assign_Name (thn (he pins s σ H _ I h) fun v s1 ⟨y, H1, I1, r1, q1⟩ => ?_) hs
  exact store_ok I1 hN hi hx r1 (fun s2 I2 => ⟨_, H1, I2, q1⟩) hf
def tAug (i : Nat) (te : TE) (ti : TIp) : TS := fun D σ H => ∃ x, σ[i]? = some (some x) ∧ te σ H fun y H1 => ti x y H1 fun z H2 => D.nx (σ.set i (some z)) H2
theorem ps_aug {i : Nat} {x : Str} {e : Expr} {te : TE} {op : Operator} {ti : TIp} {pos' : Pos} (hN : X.N.Nodup) (hi : X.N[i]? = some x) (hx : Loc X.env.scope x) (he : PE X e te) (ho : PIp X op ti) (hf : X.fn x = true ∨ X.env.scope.names.lookup x = some .local := by first | exact .inl rfl | exact .inr rfl | assumption) :
    PS X (.AugAssign (.Name x pos') op e pos) (tAug i te ti) := by
  intro pins s σ H D I h
  obtain ⟨v, e1, h⟩ := h
  obtain ⟨m, hn, hl⟩ := I.loc
  have vis : Vis X.env.scope x := by rcases hx with k | k; exact .inl k; exact .inr (.inl k)
  obtain ⟨u, r, l⟩ := hl i x v hi e1 vis
  refine wpAny_AugAssign_Name ?_
  have go : wpAny (model X.prog X.w) X.A (eval e X.env) (fun w s₂ => wpAny (model X.prog X.w) X.A (inplaceOp op u w) (fun r s₃ => wpAny (model X.prog X.w) X.A (storeName X.env x r) (fun _ => SP X pins D .next) X.xe s₃) X.xe s₂) X.xe s := by
    refine thn (he pins s σ H _ I h) fun w s1 ⟨y, H1, I1, r1, q1⟩ => ?_
    refine thn (ho pins s1 σ H1 v y u w _ I1 r r1 q1) fun z s2 ⟨zv, H2, I2, r2, q2⟩ => ?_
    exact store_ok I2 hN hi hx r2 (fun s3 I3 => ⟨_, H2, I3, q2⟩) hf
  rcases l with ⟨hk, hm⟩ | ⟨hk, c, hc, hcell⟩
  · exact wpAny_loadName_local I.ok.kind hk hn hm go
  · rcases hk with hk | hk
    · exact wpAny_loadName_cell I.ok.kind hk hc hcell go
    · rcases hx with k | k
      · have : X.env.scope.names.lookup x = some .free := hk
        rw [k] at this; cases this
      · have : X.env.scope.names.lookup x = some .free := hk
        rw [k] at this; cases this
end
section
variable {X : Cx} {pos : Pos}
def tWhile (c : TT) (tb : TS) : TS := fun D σ H => ∃ W : Nat → St → Hp → Prop, (∃ m, W m σ H) ∧ ∀ m σ H, W m σ H →
  c σ H fun b H1 => if b = true then ∃ N : St → Hp → Prop, (∀ σ' H', N σ' H' → ∃ m', m' < m ∧ W m' σ' H') ∧ tb { D with nx := N, ct := N, bk := D.nx } σ H1 else D.nx σ H1
theorem ps_while {c : Expr} {body : List Stmt} {tc : TT} {tb : TS} (hp : PassesOwn (model X.prog X.w) X.A X.env X.xe) (hc : PT X c tc) (hb : PSs X body tb) : PS X (.While c body [] pos) (tWhile tc tb) := by
  intro pins s σ H D I h
  obtain ⟨W, ⟨m0, w0⟩, turn⟩ := h
  refine wpAny_While (codeAny_whileLoop (fun n s' => ∃ σ' H', Inv X pins σ' H' s' ∧ W n σ' H') ?_ m0 ⟨σ, H, I, w0⟩)
  rintro n s1 ⟨σ1, H1, I1, w1⟩
  refine wpAny_passesOwn hp (thn (hc pins s1 σ1 H1 _ I1 (turn n σ1 H1 w1)) fun b s2 ⟨H2, I2, q2⟩ => ?_)
  cases b with
  | true =>
    obtain ⟨N, hN, q2⟩ := q2
    rw [if_pos rfl]
    refine wpAny_passesOwn hp (thn (hb pins s2 σ1 H2 _ I2 q2) fun f s3 q3 => ?_)
    cases f with
    | next =>
      obtain ⟨σ3, H3, I3, n3⟩ := q3
      obtain ⟨m', hm, w3⟩ := hN σ3 H3 n3
      exact ⟨m', hm, σ3, H3, I3, w3⟩
    | cont =>
      obtain ⟨σ3, H3, I3, n3⟩ := q3
      obtain ⟨m', hm, w3⟩ := hN σ3 H3 n3
      exact ⟨m', hm, σ3, H3, I3, w3⟩
    | brk => exact q3
    | ret v => exact q3
  | false =>
    rw [if_neg Bool.false_ne_true]
    exact wpAny_execs_nil ⟨σ1, H2, I2, q2⟩
end
structure It where
  go : Nat → Hp → Prop
  yld : Nat → Hp → V → Hp → Prop
  stop : Nat → Hp → Prop
def FpOk (X : Cx) (pins : List (Addr × Obj)) (H : Hp) (b : Addr) : Prop :=
  H b = none ∧ b ≠ X.env.locals ∧ b ∉ X.fs ∧ (b ∈ X.ex ∨ X.s₀.heap.objs.size ≤ b) ∧ (∀ x c, X.env.cells.lookup x = some c → c ≠ b) ∧ ∀ p ∈ X.pn ++ pins, p.1 ≠ b
theorem Inv.fpOk {X : Cx} {pins : List (Addr × Obj)} {σ : St} {H H' : Hp} {s : Shared} {b : Addr} (I : Inv X pins σ H s) (hb : s.heap.objs.size ≤ b) (hn : H' b = none) : FpOk X pins H' b := by
  refine ⟨hn, Nat.ne_of_gt (Nat.lt_of_lt_of_le I.lt hb), I.nofs hb, .inr (Nat.le_trans I.sz hb), fun x c e z => ?_, fun p hp z => ?_⟩
  · obtain ⟨v, q⟩ := I.cell x c e
    exact absurd (Nat.lt_of_lt_of_le q.lt (by rw [z]; exact hb)) (Nat.lt_irrefl _)
  · exact absurd (Nat.lt_of_lt_of_le (Heap.lt_size (I.pin p hp).1) (by rw [z]; exact hb)) (Nat.lt_irrefl _)
abbrev Calm (X : Cx) : Prop := X.calm = true
structure Turn (P : Program) (w : World) (K : PySem.W.Frag) (tg : Expr) (J : It) (fp : List Addr) (it : Addr) (tn : Nat → Heap → Prop) (rd : Cx → Prop := Calm) : Prop where
  mem : it ∈ fp
  obj : ∀ i h, tn i h → ∀ b ∈ fp, ∃ o, h.get? b = some o ∧ ∀ v, o.data ≠ .cell v
  keep : ∀ i h h', tn i h → (∀ b ∈ fp, ∀ o, h.get? b = some o → h'.get? b = some o) → tn i h'
  item : ∀ (X : Cx), X.prog = P → X.w = w → X.K = K → rd X → ∀ (i : Nat) (pins : List (Addr × Obj)) (s : Shared) (σ : St) (H : Hp) (E : Value → Shared → Prop), Inv X pins σ H s → (∀ b ∈ fp, FpOk X pins H b) → tn i s.heap → J.go i H →
    wpAny (model P w) X.A (pyNext (.ref it)) (fun r s1 => ∃ u, r = some u ∧
      wpAny (model P w) X.A (letOwnedTupleGo tg (.ref it) u) (fun _ s2 => ∃ x H', Inv X pins σ H' s2 ∧ RelV x u ∧ J.yld i H x H' ∧ tn (i + 1) s2.heap ∧ ∀ b ∈ fp, H' b = none) E s1) E s
  done : ∀ (X : Cx), X.prog = P → X.w = w → X.K = K → rd X → ∀ (i : Nat) (pins : List (Addr × Obj)) (s : Shared) (σ : St) (H : Hp) (E : Value → Shared → Prop), Inv X pins σ H s → (∀ b ∈ fp, FpOk X pins H b) → tn i s.heap → J.stop i H →
    wpAny (model P w) X.A (pyNext (.ref it)) (fun r s1 => r = none ∧ Inv X pins σ H s1) E s
  self : ∀ (A : Around) (i : Nat) (s : Shared) (Q : Value → Shared → Prop) (E : Value → Shared → Prop), tn i s.heap → Q (.ref it) s → wpAny (model P w) A (pyIter (.ref it)) Q E s
abbrev TI := St → Hp → (It → Hp → Prop) → Prop
def PIEr (rd : Cx → Prop) (X : Cx) (pins : List (Addr × Obj)) (σ : St) (tg : Expr) (R : It → Hp → Prop) (itv : Value) (s2 : Shared) : Prop :=
  ∃ (it : Addr) (fp : List Addr) (tn : Nat → Heap → Prop) (J : It) (H' : Hp), itv = .ref it ∧ Inv X pins σ H' s2 ∧ Turn X.prog X.w X.K tg J fp it tn rd ∧ tn 0 s2.heap ∧ (∀ b ∈ fp, FpOk X pins H' b) ∧ R J H'
abbrev PIE := PIEr Calm
def PIr (rd : Cx → Prop) (X : Cx) (tg iter : Expr) (wi : TI) : Prop :=
  ∀ (pins : List (Addr × Obj)) (s : Shared) (σ : St) (H : Hp) (R : It → Hp → Prop), Inv X pins σ H s → wi σ H R →
    wpAny (model X.prog X.w) X.A (eval iter X.env) (fun v s1 => wpAny (model X.prog X.w) X.A (pyIter v) (PIEr rd X pins σ tg R) X.xe s1) X.xe s
abbrev PI := PIr Calm
theorem go_of {M : Model} {A : Around} {E : Value → Shared → Prop} {s : Shared} {tg : Expr} {it : Addr} {u : Value} {o : Obj} {n : String} {vs : Array Value} {Q : Unit → Shared → Prop} (ho : s.heap.get? it = some o) (hc : o.cls = .type n) (hd : o.data = .fields vs)
    (hn : ["enumerate", "zip", "dict_itemiterator", "dict_reverseitemiterator", "odict_iterator", "itertools.zip_longest", "itertools.pairwise"].contains n = false) (hQ : Q () s) : wpAny M A (letOwnedTupleGo tg (.ref it) u) Q E s := by
  unfold letOwnedTupleGo
  cases tg <;> first
    | exact wpAny_pure hQ
    | (cases u <;> first
        | exact wpAny_pure hQ
        | (refine wpAny_bind (wpAny_load ho ?_)
           rw [hc, hd]
           show wpAny M A (if (["enumerate", "zip", "dict_itemiterator", "dict_reverseitemiterator", "odict_iterator", "itertools.zip_longest", "itertools.pairwise"].contains n && vs[0]? == some (rawInt _)) = true then _ else _) Q E s
           rw [if_neg (by intro h; rw [hn, Bool.false_and] at h; cases h)]
           exact wpAny_pure hQ))
def Itl (K : PySem.W.Frag) (a : Addr) : It :=
  ⟨fun i H => ∃ xs x, SqL K H a xs ∧ xs[i]? = some x, fun i H x H' => H' = H ∧ ∀ xs, SqL K H a xs → xs[i]? = some x, fun i H => ∃ xs, SqL K H a xs ∧ xs.length ≤ i⟩
def Itt (K : PySem.W.Frag) (a : Addr) : It :=
  ⟨fun i H => ∃ xs x, SqT K H a xs ∧ xs[i]? = some x, fun i H x H' => H' = H ∧ ∀ xs, SqT K H a xs → xs[i]? = some x, fun i H => ∃ xs, SqT K H a xs ∧ xs.length ≤ i⟩
def Itr (lo : Int) (n : Nat) : It := ⟨fun i _ => i < n, fun i H x H' => H' = H ∧ x = .int (lo + i), fun i _ => n ≤ i⟩
theorem turn_list {P : Program} {w : World} {K : PySem.W.Frag} {tg : Expr} (a it : Addr) : Turn P w K tg (Itl K a) [it] it (fun i h => h.IsListIter it a i) where
  mem := by simp
  obj := fun i h st b hb => by
    have e : b = it := by simpa using hb
    subst e
    obtain ⟨o, e, c, d⟩ := st
    exact ⟨o, e, fun v z => by rw [d] at z; cases z⟩
  keep := fun i h h' st k => st.at fun o e => k it (by simp) o e
  item := by
    intro X hP hw hK hc i pins s σ H E I hf st hg
    subst hP hw hK
    obtain ⟨xs, x, hq, hx⟩ := hg
    obtain ⟨its, rv, p, hz⟩ := I.list hq
    obtain ⟨u, hu, ru⟩ := rv.get hx
    obtain ⟨f0, f1, f2, f3, f4, f5⟩ := hf it (by simp)
    refine wpAny_pyNext_list_item st p.isList (x := u) (by simpa using hu) fun h' st' sb => ?_
    have I1 : Inv X pins σ H { s with heap := h' } := I.turned (t' := s.toks) (fun b o hb e => (sb.2 b hb).trans e) f0 f1 f3 f4 f5
    obtain ⟨o, e, c, d⟩ := id st'
    exact ⟨u, rfl, go_of (s := { s with heap := h' }) e c d (by decide) ⟨x, H, I1, ru, ⟨rfl, fun ys hy => by rw [I.list_inj hy hq]; exact hx⟩, st', fun b hb => (hf b hb).1⟩⟩
  done := by
    intro X hP hw hK hc i pins s σ H E I hf st hg
    subst hP hw hK
    obtain ⟨xs, hq, hx⟩ := hg
    obtain ⟨its, rv, p, hz⟩ := I.list hq
    obtain ⟨f0, f1, f2, f3, f4, f5⟩ := hf it (by simp)
    have hl := rv.length
    exact wpAny_pyNext_list_end (I.ok.hd hc) st p.isList (by simp; omega) fun h' eb => ⟨rfl, I.turned (t' := s.toks) (fun b o hb e => eb b o hb e) f0 f1 f3 f4 f5⟩
  self := fun _ _ _ _ _ st h => wpAny_pyIter_listiter st h
theorem turn_tuple {P : Program} {w : World} {K : PySem.W.Frag} {tg : Expr} (a it : Addr) : Turn P w K tg (Itt K a) [it] it (fun i h => h.IsTupleIter it a i) where
  mem := by simp
  obj := fun i h st b hb => by
    have e : b = it := by simpa using hb
    subst e
    obtain ⟨o, e, c, d⟩ := st
    exact ⟨o, e, fun v z => by rw [d] at z; cases z⟩
  keep := fun i h h' st k => st.at fun o e => k it (by simp) o e
  item := by
    intro X hP hw hK hc i pins s σ H E I hf st hg
    subst hP hw hK
    obtain ⟨xs, x, hq, hx⟩ := hg
    obtain ⟨its, rv, p, hz⟩ := I.tuple hq
    obtain ⟨u, hu, ru⟩ := rv.get hx
    obtain ⟨f0, f1, f2, f3, f4, f5⟩ := hf it (by simp)
    refine wpAny_pyNext_tuple_item st (show s.heap.IsTuple a its.toArray from p) (x := u) (by simpa using hu) fun h' st' sb => ?_
    have I1 : Inv X pins σ H { s with heap := h' } := I.turned (t' := s.toks) (fun b o hb e => (sb.2 b hb).trans e) f0 f1 f3 f4 f5
    obtain ⟨o, e, c, d⟩ := id st'
    exact ⟨u, rfl, go_of (s := { s with heap := h' }) e c d (by decide) ⟨x, H, I1, ru, ⟨rfl, fun ys hy => by rw [I.tuple_inj hy hq]; exact hx⟩, st', fun b hb => (hf b hb).1⟩⟩
  done := by
    intro X hP hw hK hc i pins s σ H E I hf st hg
    subst hP hw hK
    obtain ⟨xs, hq, hx⟩ := hg
    obtain ⟨its, rv, p, hz⟩ := I.tuple hq
    obtain ⟨f0, f1, f2, f3, f4, f5⟩ := hf it (by simp)
    have hl := rv.length
    exact wpAny_pyNext_tuple_end (I.ok.hd hc) st (show s.heap.IsTuple a its.toArray from p) (by simp; omega) fun h' eb => ⟨rfl, I.turned (t' := s.toks) (fun b o hb e => eb b o hb e) f0 f1 f3 f4 f5⟩
  self := fun _ _ _ _ _ st h => wpAny_pyIter_tupleiter st h
theorem turn_range {P : Program} {w : World} {K : PySem.W.Frag} {tg : Expr} (it : Addr) (lo : Int) (n : Nat) : Turn P w K tg (Itr lo n) [it] it (fun i h => IsRangeIter h it (lo + (i : Nat) * 1) ((n : Int) - (i : Nat)) 1) where
  mem := by simp
  obj := fun i h st b hb => by
    have e : b = it := by simpa using hb
    subst e
    exact ⟨_, st, fun v z => by
      have z' : Data.fields _ = Data.cell v := z
      cases z'⟩
  keep := fun i h h' st k => k it (by simp) _ st
  item := by
    intro X hP hw hK hc i pins s σ H E I hf st hg
    subst hP hw hK
    obtain ⟨f0, f1, f2, f3, f4, f5⟩ := hf it (by simp)
    have W := Walks.range (prog := X.prog) (w := X.w) (I.ok.hd hc) it lo 1 n
    refine W.item i s _ _ hg st fun v h' tk hv st' kk => ?_
    obtain ⟨t, rfl⟩ := hv
    have I1 : Inv X pins σ H { s with heap := h', toks := tk } := I.turned (fun b o hb e => kk b o (by simpa using hb) e) f0 f1 f3 f4 f5
    refine ⟨_, rfl, go_of (s := { s with heap := h', toks := tk }) (n := "range_iterator") st' rfl rfl (by decide) ⟨.int (lo + i), H, I1, ⟨t, ?_⟩, ⟨rfl, rfl⟩, st', fun b hb => (hf b hb).1⟩⟩
    rw [Int.mul_one]
  done := by
    intro X hP hw hK hc i pins s σ H E I hf st hg
    subst hP hw hK
    obtain ⟨f0, f1, f2, f3, f4, f5⟩ := hf it (by simp)
    exact wpAny_pyNext_range_end (I.ok.hd hc) st (by have : n ≤ i := hg; omega) fun h' eb => ⟨rfl, I.turned (t' := s.toks) (fun b o hb e => eb b o hb e) f0 f1 f3 f4 f5⟩
  self := fun _ _ _ _ _ st h => wpAny_pyIter_rangeiter st h
end L2
namespace L2
open PySem PySem.Spec PyProof.Rows
section
variable {X : Cx} {tg : Expr}
def iList (K : PySem.W.Frag) (tl : TE) : TI := fun σ H R => tl σ H fun x H1 => ∃ a, x = .ref a ∧ (∃ xs, SqL K H1 a xs) ∧ R (Itl K a) H1
def iTup (K : PySem.W.Frag) (tl : TE) : TI := fun σ H R => tl σ H fun x H1 => ∃ a, x = .ref a ∧ (∃ xs, SqT K H1 a xs) ∧ R (Itt K a) H1
theorem pi_list {l : Expr} {tl : TE} (hl : PE X l tl) : PI X tg l (iList X.K tl) := by
  intro pins s σ H R I h
  refine thn (hl pins s σ H _ I h) fun v s1 ⟨x, H1, I1, r1, q1⟩ => ?_
  obtain ⟨a, e, ⟨xs, hq⟩, q⟩ := q1
  subst e
  cases r1
  obtain ⟨its, rv, p, hz⟩ := I1.list hq
  refine wpAny_pyIter_list p.isList ?_
  refine ⟨s1.heap.objs.size, [s1.heap.objs.size], _, _, H1, rfl, I1.kept (t' := s1.toks) fun b o e => Heap.get?_push_of_some _ e, turn_list a _, ⟨_, Heap.get?_push_size _ rfl, rfl, rfl⟩, fun b hb => ?_, q⟩
  have e : b = s1.heap.objs.size := by simpa using hb
  subst e
  exact I1.fpOk (Nat.le_refl _) (I1.hok.fresh (Nat.le_refl _))
theorem pi_tup {l : Expr} {tl : TE} (hl : PE X l tl) : PI X tg l (iTup X.K tl) := by
  intro pins s σ H R I h
  refine thn (hl pins s σ H _ I h) fun v s1 ⟨x, H1, I1, r1, q1⟩ => ?_
  obtain ⟨a, e, ⟨xs, hq⟩, q⟩ := q1
  subst e
  cases r1
  obtain ⟨its, rv, p, hz⟩ := I1.tuple hq
  refine wpAny_pyIter_tuple (show s1.heap.IsTuple a its.toArray from p) ?_
  refine ⟨s1.heap.objs.size, [s1.heap.objs.size], _, _, H1, rfl, I1.kept (t' := s1.toks) fun b o e => Heap.get?_push_of_some _ e, turn_tuple a _, ⟨_, Heap.get?_push_size _ rfl, rfl, rfl⟩, fun b hb => ?_, q⟩
  have e : b = s1.heap.objs.size := by simpa using hb
  subst e
  exact I1.fpOk (Nat.le_refl _) (I1.hok.fresh (Nat.le_refl _))
theorem range_it {pins : List (Addr × Obj)} {σ : St} {H : Hp} {s : Shared} {R : It → Hp → Prop} {E : Value → Shared → Prop} {lo hi : Int} {t u v : Tok} {tk : Nat} (I : Inv X pins σ H s) (h1 : -(2 ^ 62) ≤ lo) (h2 : lo < 2 ^ 62) (h3 : -(2 ^ 62) ≤ hi) (h4 : hi < 2 ^ 62)
    (q : R (Itr lo (hi - lo).toNat) H) : wpAny (model X.prog X.w) X.A (pyIter (.ref s.heap.objs.size)) (PIE X pins σ tg R) E { s with heap := s.heap.push { cls := .type "range", data := .fields #[.int lo t, .int hi u, .int 1 v] }, toks := tk } := by
  refine wpAny_pyIter_range (IsRange.new ..) (small_one h1 h2 h3 h4) ?_
  have I1 : Inv X pins σ H { s with heap := s.heap.push { cls := .type "range", data := .fields #[.int lo t, .int hi u, .int 1 v] }, toks := tk } := I.kept fun b o e => Heap.get?_push_of_some _ e
  refine ⟨(s.heap.push { cls := .type "range", data := .fields #[.int lo t, .int hi u, .int 1 v] }).objs.size, [(s.heap.push { cls := .type "range", data := .fields #[.int lo t, .int hi u, .int 1 v] }).objs.size], _, _, H, rfl,
    I1.kept (t' := tk) fun b o e => Heap.get?_push_of_some _ e, turn_range _ lo (hi - lo).toNat, ?_, fun b hb => ?_, q⟩
  · have e1 : lo + ((0 : Nat) : Int) * 1 = lo := by simp
    have e2 : (((hi - lo).toNat : Nat) : Int) - ((0 : Nat) : Int) = Builtin.Range.rangeSize lo hi 1 := by rw [rangeSize_one]; split <;> omega
    show IsRangeIter _ _ (lo + ((0 : Nat) : Int) * 1) ((((hi - lo).toNat : Nat) : Int) - ((0 : Nat) : Int)) 1
    rw [e1, e2]
    exact Heap.get?_push_size _ rfl
  · have e : b = (s.heap.push { cls := .type "range", data := .fields #[.int lo t, .int hi u, .int 1 v] }).objs.size := by simpa using hb
    subst e
    exact I1.fpOk (Nat.le_refl _) (I1.hok.fresh (Nat.le_refl _))
def iRng1 (ta : TA) : TI := fun σ H R => ta σ H fun vs H1 => ∃ j : Int, vs = [.int j] ∧ -(2 ^ 62) ≤ j ∧ j < 2 ^ 62 ∧ R (Itr 0 j.toNat) H1
def iRng2 (ta : TA) : TI := fun σ H R => ta σ H fun vs H1 => ∃ i j : Int, vs = [.int i, .int j] ∧ (-(2 ^ 62) ≤ i ∧ i < 2 ^ 62 ∧ -(2 ^ 62) ≤ j ∧ j < 2 ^ 62) ∧ R (Itr i (j - i).toNat) H1
theorem pi_range1 {a : Expr} {ta : TA} {p pos : Pos} (hg : Gl X "range") (hm : X.mg "range" = none) (ha : PA X [a] ta) (hs : starEach [a] X.env = [(false, eval a X.env)] := by rfl) : PI X tg (.Call (.Name "range" p) [a] [] pos) (iRng1 ta) := by
  intro pins s σ H R I h
  refine Call_ (ld_blt I hg hm boot_range (PyProof.Rows.callWith_type1 (thn (ha pos pins s σ H _ I h) fun us s1 ⟨vs, H1, I1, r1, q1⟩ => ?_) hs rfl))
  obtain ⟨j, e, q1, q2, q⟩ := q1
  subst e
  cases r1 with
  | cons r rr =>
    cases rr
    obtain ⟨t, rfl⟩ := r
    exact call_range_1 (range_it I1 (by omega) (by omega) q1 q2 (by simpa using q))
theorem pi_range2 {a b : Expr} {ta : TA} {p pos : Pos} (hg : Gl X "range") (hm : X.mg "range" = none) (ha : PA X [a, b] ta) (hs : starEach [a, b] X.env = [(false, eval a X.env), (false, eval b X.env)] := by rfl) (hs2 : starEach [b] X.env = [(false, eval b X.env)] := by rfl) :
    PI X tg (.Call (.Name "range" p) [a, b] [] pos) (iRng2 ta) := by
  intro pins s σ H R I h
  refine Call_ (ld_blt I hg hm boot_range (PyProof.Rows.callWith_type1 (thn (ha pos pins s σ H _ I h) fun us s1 ⟨vs, H1, I1, r1, q1⟩ => ?_) (by rw [hs, hs2]) (by rw [hs2]; rfl)))
  obtain ⟨i, j, e, ⟨q1, q2, q3, q4⟩, q⟩ := q1
  subst e
  cases r1 with
  | cons r rr =>
    cases rr with
    | cons r' rr =>
      cases rr
      obtain ⟨t, rfl⟩ := r
      obtain ⟨t', rfl⟩ := r'
      exact call_range_2 (range_it I1 q1 q2 q3 q4 q)
def tFor (wi : TI) (g : TG) (tb : TS) : TS := fun D σ H => wi σ H fun J H1 => ∃ W : Nat → Nat → St → Hp → Prop, (∃ m, W 0 m σ H1) ∧ ∀ i m σ H, W i m σ H →
  (J.stop i H ∧ D.nx σ H) ∨ (J.go i H ∧ ∃ N : St → Hp → Prop, (∀ σ' H', N σ' H' → ∃ m', m' < m ∧ W (i + 1) m' σ' H') ∧ ∀ x H', J.yld i H x H' → g x σ H' fun σ2 H2 => tb { D with nx := N, ct := N, bk := D.nx } σ2 H2)
def pinsAt (fp : List Addr) (h : Heap) : List (Addr × Obj) := fp.filterMap fun b => (h.get? b).map fun o => (b, o)
theorem mem_pinsAt {fp : List Addr} {h : Heap} {b : Addr} {o : Obj} (hb : b ∈ fp) (e : h.get? b = some o) : (b, o) ∈ pinsAt fp h := List.mem_filterMap.mpr ⟨b, hb, by rw [e]; rfl⟩
theorem of_pinsAt {fp : List Addr} {h : Heap} {p : Addr × Obj} (hp : p ∈ pinsAt fp h) : p.1 ∈ fp ∧ h.get? p.1 = some p.2 := by
  obtain ⟨b, hb, e⟩ := List.mem_filterMap.mp hp
  cases q : h.get? b with
  | none => rw [q] at e; cases e
  | some o =>
    rw [q] at e
    have e' : (b, o) = p := Option.some.inj e
    subst e'
    exact ⟨hb, q⟩
theorem Inv.pinned {pins : List (Addr × Obj)} {σ : St} {H : Hp} {s : Shared} {fp : List Addr} (I : Inv X pins σ H s) (hf : ∀ b ∈ fp, FpOk X pins H b) (ho : ∀ b ∈ fp, ∃ o, s.heap.get? b = some o ∧ ∀ v, o.data ≠ .cell v) : Inv X (pins ++ pinsAt fp s.heap) σ H s :=
  I.pins_of fun p hp => (List.mem_append.mp hp).elim (fun z => I.pin p (List.mem_append_right _ z)) fun z => by
    obtain ⟨hb, e⟩ := of_pinsAt z
    obtain ⟨f0, f1, f2, _⟩ := hf p.1 hb
    obtain ⟨o, e', d⟩ := ho p.1 hb
    rw [e] at e'; cases e'
    exact ⟨e, f0, f1, f2, d⟩
theorem Inv.unpinned {pins pl : List (Addr × Obj)} {σ : St} {H : Hp} {s : Shared} (I : Inv X (pins ++ pl) σ H s) : Inv X pins σ H s := I.pins_of fun p hp => I.pin p (List.mem_append_right _ (List.mem_append_left _ hp))
theorem ps_for {iter : Expr} {body : List Stmt} {wi : TI} {g : TG} {tb : TS} {pos : Pos} (hp : PassesOwn (model X.prog X.w) X.A X.env X.xe) (hc : X.calm = true) (hi : PI X tg iter wi) (hg : PG X tg g) (hb : PSs X body tb)
    (hs : ∀ x, foldedSetIterable iter X.env x = pure x := by intro _; rfl) : PS X (.For tg iter body [] pos) (tFor wi g tb) := by
  intro pins s σ H D I h
  refine wpAny_For (thn (hi pins s σ H _ I h) fun v s1 h1 => thn h1 fun itv s2 h2 => ?_) hs
  obtain ⟨it, fp, tn, J, H2, e, I2, T, st2, f2, W, ⟨m0, w0⟩, turn⟩ := h2
  subst e
  have stat : ∀ {H' : Hp}, (∀ b ∈ fp, H' b = none) → ∀ b ∈ fp, FpOk X pins H' b := fun hn b hb => ⟨hn b hb, (f2 b hb).2⟩
  refine codeAny_forLoop_any (fun n s' => ∃ i σ' H', Inv X pins σ' H' s' ∧ tn i s'.heap ∧ (∀ b ∈ fp, H' b = none) ∧ W i n σ' H') ?_ m0 ⟨0, σ, H2, I2, st2, fun b hb => (f2 b hb).1, w0⟩
  rintro n s3 ⟨i, σ3, H3, I3, st3, fr3, w3⟩
  rcases turn i n σ3 H3 w3 with ⟨stop, qn⟩ | ⟨go, N, hN, step⟩
  · refine wpAny_passesOwn hp (thn (T.done X rfl rfl rfl hc i pins s3 σ3 H3 X.xe I3 (stat fr3) st3 stop) fun r s4 ⟨hr, I4⟩ => ?_)
    subst hr
    exact wpAny_execs_nil ⟨σ3, H3, I4, qn⟩
  · refine wpAny_passesOwn hp (thn (T.item X rfl rfl rfl hc i pins s3 σ3 H3 X.xe I3 (stat fr3) st3 go) fun r s4 ⟨u, hr, h4⟩ => ?_)
    subst hr
    refine wpAny_passesOwn hp (thn h4 fun _ s5 ⟨x, H5, I5, r5, y5, st5, fr5⟩ => ?_)
    have I5' := I5.pinned (stat fr5) (T.obj _ _ st5)
    refine wpAny_passesOwn hp (thn (hg _ s5 σ3 H5 x u _ I5' r5 (step x H5 y5)) fun _ s6 ⟨σ6, H6, I6, q6⟩ => ?_)
    refine wpAny_passesOwn hp (thn (hb _ s6 σ6 H6 _ I6 q6) fun f s7 q7 => ?_)
    have again : ∀ {σ7 : St} {H7 : Hp}, Inv X (pins ++ pinsAt fp s5.heap) σ7 H7 s7 → N σ7 H7 → ∃ m, m < n ∧ ∃ i σ' H', Inv X pins σ' H' s7 ∧ tn i s7.heap ∧ (∀ b ∈ fp, H' b = none) ∧ W i m σ' H' := fun {σ7 H7} I7 n7 => by
      obtain ⟨m', hm, w7⟩ := hN σ7 H7 n7
      refine ⟨m', hm, i + 1, σ7, H7, I7.unpinned, T.keep _ _ _ st5 fun b hb o e => (I7.pin (b, o) (List.mem_append_right _ (List.mem_append_right _ (mem_pinsAt hb e)))).1, fun b hb => ?_, w7⟩
      obtain ⟨o, e, d⟩ := T.obj _ _ st5 b hb
      exact (I7.pin (b, o) (List.mem_append_right _ (List.mem_append_right _ (mem_pinsAt hb e)))).2.1
    cases f with
    | next => obtain ⟨σ7, H7, I7, n7⟩ := q7; exact again I7 n7
    | cont => obtain ⟨σ7, H7, I7, n7⟩ := q7; exact again I7 n7
    | brk => obtain ⟨σ7, H7, I7, q7⟩ := q7; exact ⟨σ7, H7, I7.unpinned, q7⟩
    | ret v => obtain ⟨x7, σ7, H7, I7, r7, q7⟩ := q7; exact ⟨x7, σ7, H7, I7.unpinned, r7, q7⟩
end
theorem for_list {K : PySem.W.Frag} {a : Addr} {xs : List V} {g : TG} {tb : TS} {D : Ends} {σ : St} {H : Hp} (Pv : Nat → St → Hp → Prop) (h0 : Pv 0 σ H) (hl : ∀ i σ H, i ≤ xs.length → Pv i σ H → SqL K H a xs)
    (hs : ∀ i x σ H, xs[i]? = some x → Pv i σ H → g x σ H fun σ2 H2 => tb { D with nx := Pv (i + 1), ct := Pv (i + 1), bk := D.nx } σ2 H2) (hd : ∀ σ H, Pv xs.length σ H → D.nx σ H) :
    ∃ W : Nat → Nat → St → Hp → Prop, (∃ m, W 0 m σ H) ∧ ∀ i m σ H, W i m σ H →
      ((Itl K a).stop i H ∧ D.nx σ H) ∨ ((Itl K a).go i H ∧ ∃ N : St → Hp → Prop, (∀ σ' H', N σ' H' → ∃ m', m' < m ∧ W (i + 1) m' σ' H') ∧ ∀ x H', (Itl K a).yld i H x H' → g x σ H' fun σ2 H2 => tb { D with nx := N, ct := N, bk := D.nx } σ2 H2) := by
  refine ⟨fun i m σ H => m = xs.length - i ∧ i ≤ xs.length ∧ Pv i σ H, ⟨xs.length, by simp, Nat.zero_le _, h0⟩, ?_⟩
  rintro i m σ H ⟨rfl, hi, p⟩
  have q := hl i σ H hi p
  by_cases hlt : i < xs.length
  · refine .inr ⟨⟨xs, xs[i], q, by simp [hlt]⟩, Pv (i + 1), fun σ' H' p' => ⟨xs.length - (i + 1), by omega, rfl, hlt, p'⟩, fun x H' y => ?_⟩
    obtain ⟨e, y⟩ := y
    subst e
    exact hs i x σ _ (y xs q) p
  · have e : i = xs.length := by omega
    subst e
    exact .inl ⟨⟨xs, q, Nat.le_refl _⟩, hd σ H p⟩
theorem for_tup {K : PySem.W.Frag} {a : Addr} {xs : List V} {g : TG} {tb : TS} {D : Ends} {σ : St} {H : Hp} (Pv : Nat → St → Hp → Prop) (h0 : Pv 0 σ H) (hl : ∀ i σ H, i ≤ xs.length → Pv i σ H → SqT K H a xs)
    (hs : ∀ i x σ H, xs[i]? = some x → Pv i σ H → g x σ H fun σ2 H2 => tb { D with nx := Pv (i + 1), ct := Pv (i + 1), bk := D.nx } σ2 H2) (hd : ∀ σ H, Pv xs.length σ H → D.nx σ H) :
    ∃ W : Nat → Nat → St → Hp → Prop, (∃ m, W 0 m σ H) ∧ ∀ i m σ H, W i m σ H →
      ((Itt K a).stop i H ∧ D.nx σ H) ∨ ((Itt K a).go i H ∧ ∃ N : St → Hp → Prop, (∀ σ' H', N σ' H' → ∃ m', m' < m ∧ W (i + 1) m' σ' H') ∧ ∀ x H', (Itt K a).yld i H x H' → g x σ H' fun σ2 H2 => tb { D with nx := N, ct := N, bk := D.nx } σ2 H2) := by
  refine ⟨fun i m σ H => m = xs.length - i ∧ i ≤ xs.length ∧ Pv i σ H, ⟨xs.length, by simp, Nat.zero_le _, h0⟩, ?_⟩
  rintro i m σ H ⟨rfl, hi, p⟩
  have q := hl i σ H hi p
  by_cases hlt : i < xs.length
  · refine .inr ⟨⟨xs, xs[i], q, by simp [hlt]⟩, Pv (i + 1), fun σ' H' p' => ⟨xs.length - (i + 1), by omega, rfl, hlt, p'⟩, fun x H' y => ?_⟩
    obtain ⟨e, y⟩ := y
    subst e
    exact hs i x σ _ (y xs q) p
  · have e : i = xs.length := by omega
    subst e
    exact .inl ⟨⟨xs, q, Nat.le_refl _⟩, hd σ H p⟩
theorem for_range {lo : Int} {n : Nat} {g : TG} {tb : TS} {D : Ends} {σ : St} {H : Hp} (Pv : Nat → St → Hp → Prop) (h0 : Pv 0 σ H)
    (hs : ∀ i σ H, i < n → Pv i σ H → g (.int (lo + i)) σ H fun σ2 H2 => tb { D with nx := Pv (i + 1), ct := Pv (i + 1), bk := D.nx } σ2 H2) (hd : ∀ σ H, Pv n σ H → D.nx σ H) :
    ∃ W : Nat → Nat → St → Hp → Prop, (∃ m, W 0 m σ H) ∧ ∀ i m σ H, W i m σ H →
      ((Itr lo n).stop i H ∧ D.nx σ H) ∨ ((Itr lo n).go i H ∧ ∃ N : St → Hp → Prop, (∀ σ' H', N σ' H' → ∃ m', m' < m ∧ W (i + 1) m' σ' H') ∧ ∀ x H', (Itr lo n).yld i H x H' → g x σ H' fun σ2 H2 => tb { D with nx := N, ct := N, bk := D.nx } σ2 H2) := by
  refine ⟨fun i m σ H => m = n - i ∧ i ≤ n ∧ Pv i σ H, ⟨n, by simp, Nat.zero_le _, h0⟩, ?_⟩
  rintro i m σ H ⟨rfl, hi, p⟩
  by_cases hlt : i < n
  · refine .inr ⟨hlt, Pv (i + 1), fun σ' H' p' => ⟨n - (i + 1), by omega, rfl, hlt, p'⟩, fun x H' y => ?_⟩
    obtain ⟨e, y⟩ := y
    subst e y
    exact hs i σ _ hlt p
  · have e : i = n := by omega
    subst e
    exact .inl ⟨Nat.le_refl _, hd σ H p⟩
end L2
namespace L2
open PySem PySem.Spec PyProof.Rows
abbrev R2 := V → V → Hp → VK → Prop
def OpR (X : Cx) (f : Value → Value → Sem Value) (r : R2) : Prop :=
  ∀ (pins : List (Addr × Obj)) (s : Shared) (σ : St) (H : Hp) (x y : V) (v u : Value) (Q : VK), Inv X pins σ H s → RelV x v → RelV y u → r x y H Q →
    wpAny (model X.prog X.w) X.A (f v u) (EP X pins σ Q) X.xe s
def UnR (X : Cx) (f : Value → Sem Value) (r : V → Hp → VK → Prop) : Prop :=
  ∀ (pins : List (Addr × Obj)) (s : Shared) (σ : St) (H : Hp) (x : V) (v : Value) (Q : VK), Inv X pins σ H s → RelV x v → r x H Q →
    wpAny (model X.prog X.w) X.A (f v) (EP X pins σ Q) X.xe s
def CallR (X : Cx) (f : Value) (r : List V → Hp → VK → Prop) : Prop :=
  ∀ (pins : List (Addr × Obj)) (s : Shared) (σ : St) (H : Hp) (xs : List V) (us : List Value) (Q : VK), Inv X pins σ H s → Vals xs us → r xs H Q →
    wpAny (model X.prog X.w) X.A (call f us) (EP X pins σ Q) X.xe s
def TruR (X : Cx) (r : V → Hp → (Bool → Hp → Prop) → Prop) : Prop :=
  ∀ (pins : List (Addr × Obj)) (s : Shared) (σ : St) (H : Hp) (x : V) (v : Value) (Q : Bool → Hp → Prop), Inv X pins σ H s → RelV x v → r x H Q →
    wpAny (model X.prog X.w) X.A (truthy v) (TP X pins σ Q) X.xe s
def tOp (r : R2) (ta tb : TE) : TE := fun σ H Q => ta σ H fun x H1 => tb σ H1 fun y H2 => r x y H2 Q
def tUn (r : V → Hp → VK → Prop) (ta : TE) : TE := fun σ H Q => ta σ H fun x H1 => r x H1 Q
def rI (C : Int → Int → Prop) (g : Int → Int → V) : R2 := fun x y H Q => ∃ i j, x = .int i ∧ y = .int j ∧ C i j ∧ Q (g i j) H
def rI0 (g : Int → Int → V) : R2 := fun x y H Q => ∃ i j, x = .int i ∧ y = .int j ∧ Q (g i j) H
def rU (g : Int → V) : V → Hp → VK → Prop := fun x H Q => ∃ i, x = .int i ∧ Q (g i) H
section
variable {X : Cx} {a b c : Expr} {ta tb tc : TE} {pos : Pos}
theorem binT (ha : PE X a ta) (hb : PE X b tb) {pins : List (Addr × Obj)} {s : Shared} {σ : St} {H : Hp} {R : V → V → Hp → Prop} (I : Inv X pins σ H s)
    (h : ta σ H fun x H1 => tb σ H1 fun y H2 => R x y H2) {Q : Value → Shared → Prop} {f : Value → Value → Sem Value}
    (hf : ∀ v u s2 x y H2, Inv X pins σ H2 s2 → RelV x v → RelV y u → R x y H2 → wpAny (model X.prog X.w) X.A (f v u) Q X.xe s2) :
    wpAny (model X.prog X.w) X.A (eval a X.env) (fun v s₁ => wpAny (model X.prog X.w) X.A (eval b X.env) (fun u s₂ => wpAny (model X.prog X.w) X.A (f v u) Q X.xe s₂) X.xe s₁) X.xe s := by
  refine thn (ha pins s σ H _ I h) fun v s1 ⟨x, H1, I1, r1, q1⟩ => ?_
  refine thn (hb pins s1 σ H1 _ I1 q1) fun u s2 ⟨y, H2, I2, r2, q2⟩ => ?_
  exact hf v u s2 x y H2 I2 r1 r2 q2
theorem pe_op {op : Operator} {r : R2} (ho : OpR X (binaryOp op) r) (ha : PE X a ta) (hb : PE X b tb) : PE X (.BinOp a op b pos) (tOp r ta tb) := by
  intro pins s σ H Q I h
  exact wpAny_BinOp (binT ha hb I h fun v u s2 x y H2 I2 rx ry q => ho pins s2 σ H2 x y v u Q I2 rx ry q)
theorem pe_un {op : UnaryOp} {r : V → Hp → VK → Prop} (ho : UnR X (unaryOp op) r) (ha : PE X a ta) : PE X (.UnaryOp op a pos) (tUn r ta) := by
  intro pins s σ H Q I h
  exact UnaryOp_ (thn (ha pins s σ H _ I h) fun v s1 ⟨x, H1, I1, r1, q1⟩ => ho pins s1 σ H1 x v Q I1 r1 q1)
theorem opI {f : Value → Value → Sem Value} {C : Int → Int → Prop} {g : Int → Int → Int}
    (rule : ∀ (i j : Int) (t u : Tok) (s : Shared) (Q : Value → Shared → Prop) (E : Value → Shared → Prop), C i j → Q (.int (g i j) s.toks) { s with toks := s.toks + 1 } → wpAny (model X.prog X.w) X.A (f (.int i t) (.int j u)) Q E s) :
    OpR X f (rI C fun i j => .int (g i j)) := by
  intro pins s σ H x y v u Q I rx ry h
  obtain ⟨i, j, rfl, rfl, hc, q⟩ := h
  obtain ⟨t, rfl⟩ := rx
  obtain ⟨t', rfl⟩ := ry
  exact rule i j t t' s _ _ hc ⟨.int (g i j), H, I.tok _, ⟨_, rfl⟩, q⟩
theorem opI0 {f : Value → Value → Sem Value} {g : Int → Int → Int}
    (rule : ∀ (i j : Int) (t u : Tok) (s : Shared) (Q : Value → Shared → Prop) (E : Value → Shared → Prop), Q (.int (g i j) s.toks) { s with toks := s.toks + 1 } → wpAny (model X.prog X.w) X.A (f (.int i t) (.int j u)) Q E s) :
    OpR X f (rI0 fun i j => .int (g i j)) := by
  intro pins s σ H x y v u Q I rx ry h
  obtain ⟨i, j, rfl, rfl, q⟩ := h
  obtain ⟨t, rfl⟩ := rx
  obtain ⟨t', rfl⟩ := ry
  exact rule i j t t' s _ _ ⟨.int (g i j), H, I.tok _, ⟨_, rfl⟩, q⟩
theorem opB0 {f : Value → Value → Sem Value} {g : Int → Int → Bool}
    (rule : ∀ (i j : Int) (t u : Tok) (s : Shared) (Q : Value → Shared → Prop) (E : Value → Shared → Prop), Q (.bool (g i j)) s → wpAny (model X.prog X.w) X.A (f (.int i t) (.int j u)) Q E s) :
    OpR X f (rI0 fun i j => .bl (g i j)) := by
  intro pins s σ H x y v u Q I rx ry h
  obtain ⟨i, j, rfl, rfl, q⟩ := h
  obtain ⟨t, rfl⟩ := rx
  obtain ⟨t', rfl⟩ := ry
  exact rule i j t t' s _ _ ⟨.bl (g i j), H, I, rfl, q⟩
def CDiv (i j : Int) : Prop := 0 < j ∧ j < 1073741824
def CPow (i j : Int) : Prop := 0 ≤ j ∧ j ≤ 1000000 ∧ i.natAbs < 2 ^ 64
def CMul (i j : Int) : Prop := (-(2 ^ 64) < i ∧ i < 2 ^ 64) ∨ (-(2 ^ 64) < j ∧ j < 2 ^ 64)
theorem CMul.ok {i j : Int} (h : CMul i j) : IntMulOk i j := by
  rcases h with ⟨h1, h2⟩ | ⟨h1, h2⟩
  · exact .of_left (intBits_le_64 h1 h2)
  · exact .of_right (intBits_le_64 h1 h2)
theorem op_add : OpR X (binaryOp .Add) (rI0 fun i j => .int (i + j)) := opI0 fun _ _ _ _ _ _ _ q => add_int q
theorem op_sub : OpR X (binaryOp .Sub) (rI0 fun i j => .int (i - j)) := opI0 fun _ _ _ _ _ _ _ q => sub_int q
theorem op_mul : OpR X (binaryOp .Mult) (rI CMul fun i j => .int (i * j)) := opI fun _ _ _ _ _ _ _ hc q => mul_int q hc.ok
theorem op_fdiv : OpR X (binaryOp .FloorDiv) (rI CDiv fun i j => .int (i / j)) := opI fun i j _ _ _ _ _ hc q => by
  have h1 : (0 : Int) < j := hc.1
  have h2 : j < 1073741824 := hc.2
  exact floordiv_int (by omega) (by rw [Int.fdiv_eq_ediv_of_nonneg i (by omega)]; exact q) (.inl (PyProof.noPylong_small (by omega)))
theorem op_mod : OpR X (binaryOp .Mod) (rI (fun _ j => 0 < j) fun i j => .int (i % j)) := opI fun i j _ _ _ _ _ hc q => by
  have h1 : (0 : Int) < j := hc
  exact mod_int' (by omega) (by rw [Int.fmod_eq_emod_of_nonneg i (by omega)]; exact q)
theorem op_pow : OpR X (binaryOp .Pow) (rI CPow fun i j => .int (i ^ j.toNat)) := opI fun _ _ _ _ _ _ _ hc q => pow_int_small hc.1 hc.2.1 hc.2.2 q
theorem iop_add : OpR X (inplaceOp .Add) (rI0 fun i j => .int (i + j)) := opI0 fun _ _ _ _ _ _ _ q => iadd_int q
theorem unI {f : Value → Sem Value} {g : Int → Int}
    (rule : ∀ (i : Int) (t : Tok) (s : Shared) (Q : Value → Shared → Prop) (E : Value → Shared → Prop), Q (.int (g i) s.toks) { s with toks := s.toks + 1 } → wpAny (model X.prog X.w) X.A (f (.int i t)) Q E s) :
    UnR X f (rU fun i => .int (g i)) := by
  intro pins s σ H x v Q I rx h
  obtain ⟨i, rfl, q⟩ := h
  obtain ⟨t, rfl⟩ := rx
  exact rule i t s _ _ ⟨.int (g i), H, I.tok _, ⟨_, rfl⟩, q⟩
theorem un_neg : UnR X (unaryOp .USub) (rU fun i => .int (-i)) := unI fun _ _ _ _ _ q => neg_int q
end
def scal : V → V → Bool
  | .non, .non => true | .non, .int _ => true | .int _, .non => true | .non, .bl _ => true | .bl _, .non => true | .non, .str _ => true | .str _, .non => true
  | .int _, .int _ => true | .bl _, .bl _ => true | .str _, .str _ => true | .byt _, .byt _ => true
  | .int _, .str _ => true | .str _, .int _ => true | .bl _, .str _ => true | .str _, .bl _ => true
  | _, _ => false
def rEq : R2 := fun x y H Q => scal x y = true ∧ Q (.bl (decide (x = y))) H
def rNe : R2 := fun x y H Q => scal x y = true ∧ Q (.bl (!decide (x = y))) H
theorem dec_int {i j : Int} : decide (V.int i = V.int j) = (i == j) := by
  rw [Bool.eq_iff_iff]
  simp
theorem dec_bl {i j : Bool} : decide (V.bl i = V.bl j) = (i == j) := by
  rw [Bool.eq_iff_iff]
  simp
theorem dec_str {i j : Str} : decide (V.str i = V.str j) = (i == j) := by
  rw [Bool.eq_iff_iff]
  simp
theorem dec_byt {i j : Array UInt8} : decide (V.byt i = V.byt j) = (i.toList == j.toList) := by
  rw [Bool.eq_iff_iff]
  cases i
  cases j
  simp
section
variable {X : Cx} {a b c : Expr} {ta tb tc : TE} {pos : Pos}
theorem fin_bl {pins : List (Addr × Obj)} {σ : St} {H : Hp} {s : Shared} {Q : VK} {k k' : Bool} (I : Inv X pins σ H s) (q : Q (.bl k) H) (e : k = k') : EP X pins σ Q (.bool k') s := by
  subst e
  exact ⟨.bl k, H, I, rfl, q⟩
theorem op_eq : OpR X (compareOp .Eq) rEq := by
  intro pins s σ H x y v u Q I rx ry h
  obtain ⟨hs, q⟩ := h
  cases x with
  | non =>
    cases rx
    cases y with
    | non => cases ry; exact PySem.EqNone.eq_none_none (fin_bl I q (by simp))
    | bl j => cases ry; exact PySem.EqNone.eq_none_bool (fin_bl I q (by simp))
    | int j => obtain ⟨t', rfl⟩ := ry; exact PySem.EqNone.eq_none_int (fin_bl I q (by simp))
    | str j => obtain ⟨t', rfl⟩ := ry; exact PySem.EqNone.eq_none_str (fin_bl I q (by simp))
    | _ => exact absurd (show false = true from hs) Bool.false_ne_true
  | bl i =>
    cases rx
    cases y with
    | non => cases ry; exact PySem.EqNone.eq_bool_none (fin_bl I q (by simp))
    | bl j => cases ry; exact eq_bool (fin_bl I q dec_bl)
    | str j => obtain ⟨t', rfl⟩ := ry; exact PySem.EqMixed.eq_bool_str (fin_bl I q (by simp))
    | _ => exact absurd (show false = true from hs) Bool.false_ne_true
  | int i =>
    obtain ⟨t, rfl⟩ := rx
    cases y with
    | non => cases ry; exact PySem.EqNone.eq_int_none (fin_bl I q (by simp))
    | int j => obtain ⟨t', rfl⟩ := ry; exact eq_int (fin_bl I q dec_int)
    | str j => obtain ⟨t', rfl⟩ := ry; exact PySem.EqMixed.eq_int_str (fin_bl I q (by simp))
    | _ => exact absurd (show false = true from hs) Bool.false_ne_true
  | str i =>
    obtain ⟨t, rfl⟩ := rx
    cases y with
    | non => cases ry; exact PySem.EqNone.eq_str_none (fin_bl I q (by simp))
    | bl j => cases ry; exact PySem.EqMixed.eq_str_bool (fin_bl I q (by simp))
    | int j => obtain ⟨t', rfl⟩ := ry; exact PySem.EqMixed.eq_str_int (fin_bl I q (by simp))
    | str j => obtain ⟨t', rfl⟩ := ry; exact eq_str (fin_bl I q dec_str)
    | _ => exact absurd (show false = true from hs) Bool.false_ne_true
  | byt i =>
    obtain ⟨t, rfl⟩ := rx
    cases y with
    | byt j => obtain ⟨t', rfl⟩ := ry; exact PySem.W.eq_bytes (fin_bl I q dec_byt)
    | _ => exact absurd (show false = true from hs) Bool.false_ne_true
  | _ => cases y <;> exact absurd (show false = true from hs) Bool.false_ne_true
theorem op_ne : OpR X (compareOp .NotEq) rNe := by
  intro pins s σ H x y v u Q I rx ry h
  obtain ⟨hs, q⟩ := h
  cases x with
  | non =>
    cases rx
    cases y with
    | non => cases ry; exact PySem.EqNone.ne_none_none (fin_bl I q (by simp))
    | bl j => cases ry; exact PySem.EqNone.ne_none_bool (fin_bl I q (by simp))
    | int j => obtain ⟨t', rfl⟩ := ry; exact PySem.EqNone.ne_none_int (fin_bl I q (by simp))
    | str j => obtain ⟨t', rfl⟩ := ry; exact PySem.EqNone.ne_none_str (fin_bl I q (by simp))
    | _ => exact absurd (show false = true from hs) Bool.false_ne_true
  | bl i =>
    cases rx
    cases y with
    | non => cases ry; exact PySem.EqNone.ne_bool_none (fin_bl I q (by simp))
    | bl j => cases ry; exact ne_bool (fin_bl I q (congrArg not dec_bl))
    | str j => obtain ⟨t', rfl⟩ := ry; exact PySem.EqMixed.ne_bool_str (fin_bl I q (by simp))
    | _ => exact absurd (show false = true from hs) Bool.false_ne_true
  | int i =>
    obtain ⟨t, rfl⟩ := rx
    cases y with
    | non => cases ry; exact PySem.EqNone.ne_int_none (fin_bl I q (by simp))
    | int j => obtain ⟨t', rfl⟩ := ry; exact ne_int (fin_bl I q (congrArg not dec_int))
    | str j => obtain ⟨t', rfl⟩ := ry; exact PySem.EqMixed.ne_int_str (fin_bl I q (by simp))
    | _ => exact absurd (show false = true from hs) Bool.false_ne_true
  | str i =>
    obtain ⟨t, rfl⟩ := rx
    cases y with
    | non => cases ry; exact PySem.EqNone.ne_str_none (fin_bl I q (by simp))
    | bl j => cases ry; exact PySem.EqMixed.ne_str_bool (fin_bl I q (by simp))
    | int j => obtain ⟨t', rfl⟩ := ry; exact PySem.EqMixed.ne_str_int (fin_bl I q (by simp))
    | str j => obtain ⟨t', rfl⟩ := ry; exact ne_str (fin_bl I q (congrArg not dec_str))
    | _ => exact absurd (show false = true from hs) Bool.false_ne_true
  | byt i =>
    obtain ⟨t, rfl⟩ := rx
    cases y with
    | byt j => obtain ⟨t', rfl⟩ := ry; exact PySem.W.ne_bytes (fin_bl I q (congrArg not dec_byt))
    | _ => exact absurd (show false = true from hs) Bool.false_ne_true
  | _ => cases y <;> exact absurd (show false = true from hs) Bool.false_ne_true
theorem op_lt : OpR X (compareOp .Lt) (rI0 fun i j => .bl (decide (i < j))) := opB0 fun _ _ _ _ _ _ _ q => lt_int q
theorem op_le : OpR X (compareOp .LtE) (rI0 fun i j => .bl (decide (i ≤ j))) := opB0 fun _ _ _ _ _ _ _ q => le_int q
theorem op_gt : OpR X (compareOp .Gt) (rI0 fun i j => .bl (decide (j < i))) := opB0 fun _ _ _ _ _ _ _ q => gt_int q
theorem op_ge : OpR X (compareOp .GtE) (rI0 fun i j => .bl (decide (j ≤ i))) := opB0 fun _ _ _ _ _ _ _ q => ge_int q
theorem nomark (b : Expr) {op : CmpOp} (h : op ≠ .In := by decide) (h2 : op ≠ .NotIn := by decide) : behindInMarks op b = false := by
  have e1 : (op == CmpOp.In) = false := by cases op <;> first | rfl | exact absurd rfl h
  have e2 : (op == CmpOp.NotIn) = false := by cases op <;> first | rfl | exact absurd rfl h2
  cases b <;> simp [behindInMarks, e1, e2]
theorem pe_cmpR {op : CmpOp} {r : R2} (ho : OpR X (compareOp op) r) (ha : PE X a ta) (hb : PE X b tb) (hm : behindInMarks op b = false) : PE X (.Compare a [op] [b] pos) (tOp r ta tb) := by
  intro pins s σ H Q I h
  exact wpAny_Compare1 (binT ha hb I h fun v u s2 x y H2 I2 rx ry q => ho pins s2 σ H2 x y v u Q I2 rx ry q) hm
inductive OneB (x : V) (k : Bool → Prop) : Prop
  | mk (c : Bool) (_ : x = .bl c) (_ : k c) : OneB x k
def tTest (t : TE) : TT := fun σ H Q => t σ H fun x H' => OneB x fun k => Q k H'
theorem pt_cmpR {op : CmpOp} {r : R2} (ho : OpR X (compareOp op) r) (ha : PE X a ta) (hb : PE X b tb) (hm : behindInMarks op b = false) : PT X (.Compare a [op] [b] pos) (tTest (tOp r ta tb)) := by
  intro pins s σ H Q I h
  refine wpAny_isTrue_Compare1 (thn (ha pins s σ H _ I h) fun v s1 ⟨x, H1, I1, r1, q1⟩ => thn (hb pins s1 σ H1 _ I1 q1) fun u s2 ⟨y, H2, I2, r2, q2⟩ =>
    thn (ho pins s2 σ H2 x y v u _ I2 r1 r2 q2) fun c s3 ⟨z, H3, I3, r3, k, e, q3⟩ => ?_) hm
  subst e
  cases r3
  exact wpAny_truthy_bool ⟨H3, I3, q3⟩
def TruV (K : PySem.W.Frag) (x : V) (H : Hp) (k : Bool) : Prop :=
  match x with
  | .non => k = false
  | .bl b => k = b
  | .int i => k = (i != 0)
  | .str y => y.length ≤ sizeLine ∧ k = ((y.length : Int) != 0)
  | .byt y => y.size ≤ sizeLine ∧ k = ((y.size : Int) != 0)
  | .ref p => (∃ xs, SqL K H p xs ∧ k = !xs.isEmpty) ∨ (∃ xs, SqT K H p xs ∧ k = !xs.isEmpty) ∨ ∃ kvs, H p = some (.dK kvs) ∧ k = !kvs.isEmpty
  | _ => False
theorem isEmpty_kv {κ : Type} {kvs : List (κ × V)} {vs : List (κ × Value)} (r : KV kvs vs) : (!vs.isEmpty) = !kvs.isEmpty := by
  cases r <;> rfl
theorem isEmpty_of {xs : List V} {its : List Value} (r : Vals xs its) : (!its.toArray.isEmpty) = !xs.isEmpty := by
  cases r <;> simp
theorem line63 : (sizeLine : Nat) < 2 ^ 63 := by rw [sizeLine_eq]; decide
theorem tru_ok : TruR X (fun x H Q => ∃ k, TruV X.K x H k ∧ Q k H) := by
  intro pins s σ H x v Q I rx h
  obtain ⟨k, e, q⟩ := h
  have hl := line63
  have hs : sizeLine = 16777216 := sizeLine_eq
  cases x with
  | non =>
    cases rx
    have e' : k = false := e
    subst e'
    exact truthy_none ⟨H, I, q⟩
  | bl b =>
    cases rx
    have e' : k = b := e
    subst e'
    exact wpAny_truthy_bool ⟨H, I, q⟩
  | int i =>
    obtain ⟨t, rfl⟩ := rx
    have e' : k = (i != 0) := e
    subst e'
    exact PySem.P.truthy_int ⟨H, I, q⟩
  | str y =>
    obtain ⟨t, rfl⟩ := rx
    obtain ⟨hy, e'⟩ : y.length ≤ sizeLine ∧ k = ((y.length : Int) != 0) := e
    subst e'
    exact PySem.P.truthy_str (by omega) ⟨H, I.tok _, q⟩
  | byt y =>
    obtain ⟨t, rfl⟩ := rx
    obtain ⟨hy, e'⟩ : y.size ≤ sizeLine ∧ k = ((y.size : Int) != 0) := e
    subst e'
    exact PySem.W.truthy_bytes (by omega) ⟨H, I.tok _, q⟩
  | ref p =>
    cases rx
    have e' : (∃ xs, SqL X.K H p xs ∧ k = !xs.isEmpty) ∨ (∃ xs, SqT X.K H p xs ∧ k = !xs.isEmpty) ∨ ∃ kvs, H p = some (.dK kvs) ∧ k = !kvs.isEmpty := e
    rcases e' with ⟨xs, hx, e'⟩ | ⟨xs, hx, e'⟩ | ⟨kvs, hx, e'⟩
    · subst e'
      obtain ⟨its, r, pl, hz⟩ := I.list hx
      have hlen := r.length
      exact wpAny_truthy_list pl.isList (by simp only [List.size_toArray]; omega) ⟨H, I.tok _, by rw [isEmpty_of r]; exact q⟩
    · subst e'
      obtain ⟨its, r, pl, hz⟩ := I.tuple hx
      have hlen := r.length
      exact truthy_tuple pl (by simp only [List.size_toArray]; omega) ⟨H, I.tok _, by rw [isEmpty_of r]; exact q⟩
    · subst e'
      obtain ⟨hz, hS, vs, r, m⟩ : kvs.length ≤ sizeLine ∧ (p == sysModules) = false ∧ ∃ vs, KV kvs vs ∧ s.heap.DictOf (mixKind X.prog X.w) p vs := I.hok p _ hx
      have hlen : kvs.length = vs.length := Paired.length r
      exact wpAny_truthy_dict hS m (by omega) ⟨H, I.tok _, by rw [isEmpty_kv r]; exact q⟩
  | _ => exact (show False from e).elim
theorem pt_truth (ha : PE X a ta) (he : ∀ whole, isTrue a X.env whole = (do let v ← whole; standAt a.pos; holding [v] (truthy v))) :
    PT X a (fun σ H Q => ta σ H fun x H' => ∃ k, TruV X.K x H' k ∧ Q k H') := by
  intro pins s σ H Q I h
  exact isTrue_plain (thn (ha pins s σ H _ I h) fun v s1 ⟨x, H1, I1, r1, q1⟩ => tru_ok pins s1 σ H1 x v Q I1 r1 q1) (he _)
theorem vals1 {x : V} {us : List Value} (r : Vals [x] us) : ∃ u, us = [u] ∧ RelV x u := by
  cases r with
  | cons r1 r2 => cases r2; exact ⟨_, rfl, r1⟩
theorem vals2 {x y : V} {us : List Value} (r : Vals [x, y] us) : ∃ u w', us = [u, w'] ∧ RelV x u ∧ RelV y w' := by
  cases r with
  | cons r1 r2 =>
    cases r2 with
    | cons r3 r4 => cases r4; exact ⟨_, _, rfl, r1, r3⟩
theorem call_int1 : CallR X (.type "int") (fun xs H Q => (∃ i, xs = [.int i] ∧ Q (.int i) H) ∨ ∃ k, xs = [.bl k] ∧ Q (.int (if k then 1 else 0)) H) := by
  intro pins s σ H xs us Q I r h
  rcases h with ⟨i, rfl, q⟩ | ⟨k, rfl, q⟩
  · obtain ⟨u, rfl, t, rfl⟩ := vals1 r
    exact call_int_int ⟨.int i, H, I, ⟨_, rfl⟩, q⟩
  · obtain ⟨u, rfl, r1⟩ := vals1 r
    cases r1
    exact call_int_bool ⟨.int (if k then 1 else 0), H, I.tok _, ⟨_, rfl⟩, q⟩
end
end L2
namespace L2
open PySem PySem.Spec PyProof.Rows
structure ObjM (h : Heap) (x dx C : Addr) (mA : Str → Option Value) : Prop where
  obj : h.get? x = some (PySem.W.instObj C dx)
  ns : h.Ns1 dx mA
  ne : dx ≠ x
theorem lookIn_ns {h : Heap} {dx : Addr} {mA : Str → Option Value} (n : h.Ns1 dx mA) : ∃ od, h.get? dx = some od ∧ ∀ name, PySem.W.lookIn name od = some (mA name) := by
  obtain ⟨o, es, ep, ho, hd, hk, _, hm⟩ := n
  refine ⟨o, ho, fun name => ?_⟩
  have e := hm name
  unfold nsFind findBy at e
  rw [← Array.find?_toList] at e
  unfold PySem.W.lookIn
  rw [hd]
  dsimp only
  split
  · rename_i y q
    rw [q] at e
    exact congrArg some e
  · rename_i q
    rw [q] at e
    have a : es.toList.any (·.refKey) = false := by
      rw [List.any_eq_false]
      intro y hy
      obtain ⟨z, t, hkey⟩ := hk y (Array.mem_toList_iff.mp hy)
      simp [DictEntry.refKey, hkey]
    have a' : ¬ es.toList.any (·.refKey) = true := by rw [a]; exact Bool.false_ne_true
    rw [if_neg a']
    exact congrArg some e
theorem ObjM.look {h : Heap} {x dx C : Addr} {mA : Str → Option Value} (I : ObjM h x dx C mA) : ∃ od, PySem.W.InstAt h x (PySem.W.instObj C dx) C (some od) ∧ ∀ name, PySem.W.lookIn name od = some (mA name) :=
  let ⟨od, ho, hl⟩ := lookIn_ns I.ns
  ⟨od, ⟨I.obj, rfl, rfl, ho⟩, hl⟩
section
variable {P : Program} {w : World} {H H' : Hp} {h h' : Heap} {a C dx : Addr} {fs fs' : List (Str × V)}
theorem ins_get (hok : HOk P w H h) (e : H a = some (.ins C dx fs)) : ∃ mA, ObjM h a dx C mA ∧ (∀ f, RelO (fs.lookup f) (mA f)) ∧ PySem.Within mA (fs.map (·.1)) ∧ fs.length ≤ 1000 ∧ H dx = some (.own a) := by
  obtain ⟨d, z, ne, ob, mA, n, r, q⟩ := (show ObjOk P w H h a (.ins C dx fs) from hok a _ e)
  exact ⟨mA, ⟨ob, n, ne⟩, r, q, z, d⟩
end
structure Cls (K : PySem.W.Frag) (C : Addr) : Prop where
  pg : PySem.W.plainGet K C Str.empty = true
  hd : PySem.W.hasDictIn K C = true
  po : PySem.W.plainOver K C = true
  sa : PySem.W.findIn K (.ref C) "__setattr__" = some (some (.builtin "object.__setattr__"))
theorem Cls.get {K : PySem.W.Frag} {C : Addr} (c : Cls K C) (f : Str) : PySem.W.plainGet K C f = true := c.pg
section
variable {X : Cx} {pins : List (Addr × Obj)} {σ : St} {H : Hp} {s : Shared} {A : Around} {E : Value → Shared → Prop} {Q : Value → Shared → Prop} {c : Value} {b : Bool}
inductive TyOf (K : PySem.W.Frag) (H : Hp) : V → Value → Prop where
  | non : TyOf K H .non (.type "NoneType")
  | bl (x : Bool) : TyOf K H (.bl x) (.type "bool")
  | int (i : Int) : TyOf K H (.int i) (.type "int")
  | str (x : Str) : TyOf K H (.str x) (.type "str")
  | flt (x : UInt64) : TyOf K H (.flt x) (.type "float")
  | lst {a : Addr} {xs : List V} (e : H a = some (.lst xs)) : TyOf K H (.ref a) (.type "list")
  | frz {a : Addr} {o : Obj} {xs : List V} (e : H a = some (.frz o (.lst xs))) : TyOf K H (.ref a) (.type "list")
  | tup {a : Addr} {xs : List V} (e : H a = some (.tup xs)) : TyOf K H (.ref a) (.type "tuple")
  | dK {a : Addr} {kvs : List (Key × V)} (e : H a = some (.dK kvs)) : TyOf K H (.ref a) (.type "dict")
  | dT {a : Addr} {kvs : List (List Key × V)} (e : H a = some (.dT kvs)) : TyOf K H (.ref a) (.type "dict")
  | ins {a C dx : Addr} {fs : List (Str × V)} (e : H a = some (.ins C dx fs)) (cl : Cls K C) (ha : PySem.W.findIn K (.ref C) "__class__" = some (some (.builtin "object.__class__")))
      (hn : PySem.W.specialIn K (.builtin "object.__class__") "__get__" = some (some (.builtin "getset_descriptor.__get__"))) (htk : PySem.W.takesIn K (.builtin "object.__class__") = some true)
      (hm : PySem.W.mroIn K C (.type "object") = some true) : TyOf K H (.ref a) (.ref C)
theorem isinst_ok {x : V} {u t : Value} (I : Inv X pins σ H s) (rx : RelV x u) (ty : TyOf X.K H x t) (e : PySem.W.kitOne X.K t c = some b) (h : ∀ tk, Q (.bool b) { s with toks := tk }) :
    wpAny (model X.prog X.w) A (call (.builtin "isinstance") [u, c]) Q E s := by
  cases ty with
  | non => cases (show u = Value.none from rx); exact PySem.W.kia_one PySem.W.kitx_none I.kIn True.intro e (fun z => nomatch z) h
  | bl y => cases (show u = Value.bool y from rx); exact PySem.W.kia_one PySem.W.kitx_bool I.kIn True.intro e (fun z => nomatch z) h
  | int i => obtain ⟨t, q⟩ := (show ∃ t, u = Value.int i t from rx); cases q; exact PySem.W.kia_one PySem.W.kitx_int I.kIn True.intro e (fun z => nomatch z) h
  | str y => obtain ⟨t, q⟩ := (show ∃ t, u = Value.str y t from rx); cases q; exact PySem.W.kia_one PySem.W.kitx_str I.kIn True.intro e (fun z => nomatch z) h
  | flt y => obtain ⟨t, q⟩ := (show ∃ t, u = Value.float y t from rx); cases q; exact PySem.W.kia_one PySem.W.kitx_float I.kIn True.intro e (fun z => nomatch z) h
  | @lst a xs ea =>
    cases (show u = Value.ref a from rx)
    obtain ⟨_, _, n, _, h1⟩ := (show ObjOk X.prog X.w H s.heap a (.lst xs) from I.hok a _ ea)
    exact PySem.W.kia_one PySem.W.kitx_list I.kIn ⟨_, h1, rfl⟩ e (fun z => nomatch z) h
  | @frz a ob xs ea =>
    cases (show u = Value.ref a from rx)
    obtain ⟨_, _, _, n, _, h1⟩ := (show ObjOk X.prog X.w H s.heap a (.frz ob (.lst xs)) from I.hok a _ ea)
    exact PySem.W.kia_one PySem.W.kitx_list I.kIn ⟨_, h1, rfl⟩ e (fun z => nomatch z) h
  | @tup a xs ea =>
    cases (show u = Value.ref a from rx)
    obtain ⟨_, _, _, p⟩ := (show ObjOk X.prog X.w H s.heap a (.tup xs) from I.hok a _ ea)
    obtain ⟨o, h1, h2, _⟩ := p
    exact PySem.W.kia_one PySem.W.kitx_tuple I.kIn ⟨o, h1, h2⟩ e (fun z => nomatch z) h
  | @dK a kvs ea =>
    cases (show u = Value.ref a from rx)
    obtain ⟨_, _, vs, _, p⟩ := (show ObjOk X.prog X.w H s.heap a (.dK kvs) from I.hok a _ ea)
    obtain ⟨o, es, ep, h1, h2, _⟩ := p
    exact PySem.W.kia_one PySem.W.kitx_dict I.kIn ⟨o, h1, h2.1⟩ e (fun z => nomatch z) h
  | @dT a kvs ea =>
    cases (show u = Value.ref a from rx)
    obtain ⟨_, _, xs, _, o, es, ep, h1, h2, _⟩ := (show ObjOk X.prog X.w H s.heap a (.dT kvs) from I.hok a _ ea)
    exact PySem.W.kia_one PySem.W.kitx_dict I.kIn ⟨o, h1, h2.1⟩ e (fun z => nomatch z) h
  | @ins a C dx fs ea cl ha hn htk hm =>
    cases (show u = Value.ref a from rx)
    obtain ⟨mA, O, _⟩ := ins_get I.hok ea
    obtain ⟨od, J, _⟩ := O.look
    exact PySem.W.kia_one (PySem.W.kitx_own (cl.get _) cl.hd ha hn htk hm) I.kIn J e (fun z => nomatch z) h
end
end L2
namespace L2
open PySem PySem.Spec PyProof.Rows
structure Room (k : Nat) (A : Around) : Prop where
  hd : A.handled = none
  gd : A.guards = some []
  dp : A.depth + 3 * k + 5 < recursionLimit
  un : A.units + 16 * k + 200 < cLine
theorem Room.mono {j k : Nat} {A : Around} (r : Room k A) (h : j ≤ k) : Room j A := ⟨r.hd, r.gd, by have := r.dp; omega, by have := r.un; omega⟩
theorem Room.deeper {k : Nat} {A : Around} (r : Room (k + 1) A) (env : Env) : Room k (A.deeper env) :=
  ⟨r.hd, r.gd, by have := r.dp; show A.depth + 1 + 3 * k + 5 < _; omega, by have := r.un; show A.units + 3 + 16 * k + 200 < _; omega⟩
theorem Room.depth {k : Nat} {A : Around} (r : Room k A) : A.depth < recursionLimit := by have := r.dp; omega
theorem Room.units {k : Nat} {A : Around} (r : Room k A) : A.units + 64 < cLine := by have := r.un; omega
def tNil : TA := fun _ H Q => Q [] H
def tCons (ta : TE) (tr : TA) : TA := fun σ H Q => ta σ H fun x H1 => tr σ H1 fun xs H2 => Q (x :: xs) H2
section
variable {X : Cx} {e : Expr} {es : List Expr} {te : TE} {t : TA} {pos : Pos}
theorem pa_nil : PA X [] tNil := fun _ _ _ _ H Q I h => Calls.spliced_nil ⟨[], H, I, .nil, h⟩
theorem pa_cons (ha : PE X e te) (hr : PA X es t) (hs : starEach (e :: es) X.env = (false, eval e X.env) :: starEach es X.env := by rfl) : PA X (e :: es) (tCons te t) := by
  intro pos pins s σ H Q I h
  rw [hs]
  show wpAny _ _ (spliced ((false, eval e X.env) :: backTo pos (starEach es X.env))) _ _ s
  refine Calls.spliced_cons (thn (ha pins s σ H _ I h) fun u s1 ⟨x, H1, I1, r1, q1⟩ => ?_)
  exact thn (hr pos pins s1 σ H1 _ I1 q1) fun us s2 ⟨xs, H2, I2, r2, q2⟩ => ⟨x :: xs, H2, I2, .cons r1 r2, q2⟩
def tTup (t : TA) : TE := fun σ H Q => t σ H fun xs H1 => xs.length ≤ sizeLine ∧ ∀ p, H1 p = none → Q (.ref p) (upd H1 p (.tup xs))
def tLst (t : TA) : TE := fun σ H Q => t σ H fun xs H1 => xs.length ≤ sizeLine ∧ ∀ p, H1 p = none → Q (.ref p) (upd H1 p (.lst xs))
theorem pe_tup {x1} (h : PA X es t) : PE X (.Tuple es x1 pos) (tTup t) := by
  intro pins s σ H Q I hq
  refine wpAny_Tuple_spliced (thn (h pos pins s σ H _ I hq) fun us s1 ⟨xs, H1, I1, r, z, q⟩ => ⟨by rw [← r.length]; exact z, ?_⟩)
  have hf : H1 s1.heap.objs.size = none := I1.hok.fresh (Nat.le_refl _)
  refine ⟨.ref s1.heap.objs.size, upd H1 s1.heap.objs.size (.tup xs), I1.laid (t' := s1.toks) (fun b u e => Heap.get?_push_of_some _ e) (Nat.le_refl _) ?_, rfl, q _ hf⟩
  exact ⟨z, us, r, ⟨_, Heap.get?_push_size _ rfl, rfl, _, rfl⟩⟩
theorem pe_lst (h : PA X es t) : PE X (.List es pos) (tLst t) := by
  intro pins s σ H Q I hq
  refine wpAny_List_spliced (thn (h pos pins s σ H _ I hq) fun us s1 ⟨xs, H1, I1, r, z, q⟩ => ⟨by rw [← r.length]; exact z, ?_⟩)
  have hf : H1 s1.heap.objs.size = none := I1.hok.fresh (Nat.le_refl _)
  refine ⟨.ref s1.heap.objs.size, upd H1 s1.heap.objs.size (.lst xs), I1.laid (t' := s1.toks) (fun b u e => Heap.get?_push_of_some _ e) (Nat.le_refl _) ?_, rfl, q _ hf⟩
  exact ⟨z, us, 0, r, Heap.get?_push_size _ rfl⟩
end
abbrev Sp := List V → Hp → VK → XK → Prop
abbrev CXT := List Env → Hp → Shared → XK → Value → Shared → Prop
structure Env0 (P : Program) (w : World) (K : PySem.W.Frag) (mg : Str → Option Value) (base : Heap) (A : Around) (outer : List Env) (s : Shared) (H : Hp) : Prop where
  frames : A.frames = some outer
  mod : Mod K mg base
  bs : ∀ b o, base.get? b = some o → s.heap.get? b = some o ∧ H b = none
  bsz : base.objs.size ≤ s.heap.objs.size
  funs : s.heap.FunFrames base outer
  frf : ∀ b ∈ frs outer, H b = none
  hok : HOk P w H s.heap
  bare : AllBare s.gens
def CE (outer : List Env) (P : Program) (w : World) (H : Hp) (s : Shared) (Q : VK) (u : Value) (s' : Shared) : Prop :=
  ∃ v H', s'.os = s.os ∧ AllBare s'.gens ∧ Un (frs outer) [] H H' s.heap s'.heap ∧ HOk P w H' s'.heap ∧ RelV v u ∧ Q v H'
def CR (CX : CXT) (outer : List Env) (P : Program) (w : World) (H : Hp) (s : Shared) (Q : VK) (E : XK) (r : Result) (s' : Shared) : Prop :=
  match r with
  | .ok (.ret u) => CE outer P w H s Q u s'
  | .ok _ => False
  | .error e => CX outer H s E e s'
structure FnOk (P : Program) (w : World) (K : PySem.W.Frag) (mg : Str → Option Value) (base : Heap) (CX : CXT) (k : Nat) (f : Addr) (fd : FuncData) (ps : List Str) (sp : Sp) : Prop where
  len : ∀ vs H Q E, sp vs H Q E → vs.length = ps.length
  run : ∀ (A : Around) (outer : List Env) (s : Shared) (H : Hp) (args : Args) (us : List Value) (vs : List V) (Q : VK) (E : XK), Room k A → Env0 P w K mg base A outer s H → BindsTo s fd args (ps.zip us) → Vals vs us → sp vs H Q E →
    codeAny (model P w) A (.call (.ref f) args) (CR CX outer P w H s Q E) s
theorem FnOk.mono {P : Program} {w : World} {K : PySem.W.Frag} {mg : Str → Option Value} {base : Heap} {CX : CXT} {j k : Nat} {f : Addr} {fd : FuncData} {ps : List Str} {sp : Sp} (F : FnOk P w K mg base CX j f fd ps sp) (h : j ≤ k) :
    FnOk P w K mg base CX k f fd ps sp := ⟨F.len, fun A outer s H args us vs Q E hr => F.run A outer s H args us vs Q E (hr.mono h)⟩
theorem FnOk.imp {P : Program} {w : World} {K : PySem.W.Frag} {mg : Str → Option Value} {base : Heap} {CX : CXT} {k : Nat} {f : Addr} {fd : FuncData} {ps : List Str} {sp sp' : Sp} (F : FnOk P w K mg base CX k f fd ps sp)
    (h : ∀ vs H Q E, sp' vs H Q E → sp vs H Q E) : FnOk P w K mg base CX k f fd ps sp' :=
  ⟨fun vs H Q E q => F.len vs H Q E (h _ _ _ _ q), fun A outer s H args us vs Q E hr he hb hv hs => F.run A outer s H args us vs Q E hr he hb hv (h _ _ _ _ hs)⟩
section
variable {X : Cx} {pins : List (Addr × Obj)} {σ : St} {H : Hp} {s s' : Shared}
theorem Inv.env0 (I : Inv X pins σ H s) : Env0 X.prog X.w X.K X.mg X.base X.A X.stack s H :=
  ⟨I.ok.frames, I.ok.mod, I.bs, Nat.le_trans I.ok.bsz I.sz, I.stack, I.stkFree, I.hok, I.bare⟩
theorem Inv.after {Q : VK} {u : Value} (I : Inv X pins σ H s) (h : CE X.stack X.prog X.w H s Q u s') : EP X pins σ Q u s' := by
  obtain ⟨v, H', os, bare, un, hok, r, q⟩ := h
  obtain ⟨hh, g, d, t, os'⟩ := s'
  obtain rfl : os' = s.os := os
  exact ⟨v, H', I.call (h' := hh) (g' := g) (d' := d) (t' := t) (ch := []) un hok bare (fun b z => absurd z (by simp)), r, q⟩
end
def tCall (sp : Sp) (dvs : List V) (E : XK) (t : TA) : TE := fun σ H Q => t σ H fun vs H1 => sp (vs ++ dvs) H1 Q E
def Binds (K : PySem.W.Frag) (fd : FuncData) (ps : List Str) (ds : List Value) : Prop :=
  ∀ (s : Shared) (us : List Value), K.In s.heap → (us ++ ds).length = ps.length → BindsTo s fd ⟨us, []⟩ (ps.zip (us ++ ds))
theorem Binds.all {K : PySem.W.Frag} {fd : FuncData} {ps : List Str} (h : ∀ us : List Value, us.length = ps.length → bindArgs fd ⟨us, []⟩ = pure (ps.zip us)) : Binds K fd ps [] := fun s us _ hl => by
  rw [List.append_nil] at hl ⊢
  exact .of_eq (h us hl)
def Passes (CX : CXT) (X : Cx) (E : XK) : Prop := ∀ (pins : List (Addr × Obj)) (σ : St) (H : Hp) (s : Shared) (e : Value) (s' : Shared), Inv X pins σ H s → CX X.stack H s E e s' → X.xe e s'
section
variable {X : Cx} {CX : CXT} {k : Nat} {f C : Addr} {fd : FuncData} {ps : List Str} {sp : Sp} {dvs : List V} {ds : List Value} {E : XK} {x m : Str} {p pos apos : Pos} {e o : Expr} {es : List Expr} {ta : TE} {t : TA}
theorem run_fn {pins : List (Addr × Obj)} {σ : St} {H : Hp} {s : Shared} {Q : VK} {us : List Value} {vs : List V} (F : FnOk X.prog X.w X.K X.mg X.base CX k f fd ps sp) (hr : Room k X.A) (hb : Binds X.K fd ps ds) (hd : Vals dvs ds) (hx : Passes CX X E)
    (I : Inv X pins σ H s) (r : Vals vs us) (h : sp (vs ++ dvs) H Q E) : wpAny (model X.prog X.w) X.A (call (.ref f) us) (EP X pins σ Q) X.xe s := by
  have r2 : Vals (vs ++ dvs) (us ++ ds) := r.append hd
  have hl : (us ++ ds).length = ps.length := by rw [← r2.length]; exact F.len _ _ _ _ h
  refine wpAny_call (codeAny_mono (F.run X.A X.stack s H ⟨us, []⟩ (us ++ ds) (vs ++ dvs) Q E hr I.env0 (hb s us I.kIn hl) r2 h) fun r s' hq => ?_)
  cases r with
  | error e => exact hx pins σ H s e s' I hq
  | ok fl =>
    cases fl with
    | ret u => exact I.after hq
    | next => exact False.elim hq
    | brk => exact False.elim hq
    | cont => exact False.elim hq
theorem pe_call (F : FnOk X.prog X.w X.K X.mg X.base CX k f fd ps sp) (hr : Room k X.A) (hg : Gl X x) (hm : X.mg x = some (.ref f)) (hk : PySem.W.keepIn X.K (.ref f) = true) (hb : Binds X.K fd ps ds) (hd : Vals dvs ds) (hx : Passes CX X E)
    (ha : PA X (e :: es) t) (hdb : (x == ("__debug__" : Str)) = false := by decide) (he : starEach (e :: es) X.env = (false, eval e X.env) :: starEach es X.env := by rfl) (hpl : (backTo pos (starEach es X.env)).any (·.1) = false := by rfl) :
    PE X (.Call (.Name x p) (e :: es) [] pos) (tCall sp dvs E t) := by
  intro pins s σ H Q I h
  refine wpAny_Call_Name_kw (ld_glob I hg hm ?_ hdb)
  refine PySem.W.callWith_K (h₀ := X.base) I.ok.mod.kin hk (thn (ha pos pins s σ H _ I h) fun us s1 ⟨vs, H1, I1, r, q⟩ => ⟨I1.kIn, ?_⟩) he hpl
  exact run_fn F hr hb hd hx I1 r q
end
def PK (X : Cx) (kws : List Keyword) (t : TA) : Prop :=
  ∀ (pos : Pos) (pins : List (Addr × Obj)) (s : Shared) (σ : St) (H : Hp) (Q : List V → Hp → Prop), Inv X pins σ H s → t σ H Q → wpAny (model X.prog X.w) X.A (evalAll ((backToKw pos (keywordEach kws X.env)).map (·.2))) (AP X pins σ Q) X.xe s
section
variable {X : Cx} {CX : CXT} {k : Nat} {f C : Addr} {fd : FuncData} {ps ks : List Str} {sp : Sp} {E : XK} {x m : Str} {p pos apos kpos : Pos} {e o : Expr} {es : List Expr} {kws : List Keyword} {te ta : TE} {t tk : TA} {nm : Option Str}
theorem pk_nil : PK X [] tNil := fun _ _ _ _ H Q I h => wpAny_evalAll_nil ⟨[], H, I, .nil, h⟩
theorem pk_cons (ha : PE X e te) (hr : PK X kws t) : PK X (⟨nm, e, kpos⟩ :: kws) (tCons te t) := by
  intro pos pins s σ H Q I h
  show wpAny _ _ (evalAll ((do let v ← eval e X.env; standAt pos; pure v) :: (backToKw pos (keywordEach kws X.env)).map (·.2))) _ _ s
  refine wpAny_evalAll_cons (wpAny_bind (thn (ha pins s σ H _ I h) fun u s1 ⟨x, H1, I1, r1, q1⟩ => wpAny_bind (wpAny_standAt (wpAny_pure ?_))))
  exact thn (hr pos pins s1 σ H1 _ I1 q1) fun us s2 ⟨xs, H2, I2, r2, q2⟩ => ⟨x :: xs, H2, I2, .cons r1 r2, q2⟩
variable {g : List Value → List Value → List Value} {gV : List V → List V → List V}
end
structure FnScope (N P : List Str) (sc : Scope) : Prop where
  kind : sc.kind = .function
  co : sc.isCoroutine = false
  gen : sc.isGenerator = false
  nd : N.Nodup
  pre : N.take P.length = P
  par : ∀ x ∈ P, sc.names.lookup x = some .local ∨ sc.names.lookup x = some .cell
  nofree : ∀ y ∈ sc.names, y.2 ≠ .free
theorem bindL_out {kindOf : Str → Option NameKind} {x : Str} : ∀ {binds : List (Str × Value)} {m : Str → Option Value}, (∀ v, (x, v) ∉ binds) → bindL kindOf binds m x = m x
  | [], _, _ => rfl
  | (n, v) :: r, m, h => by
    unfold bindL
    rw [bindL_out fun w hw => h w (List.mem_cons_of_mem _ hw)]
    split
    · have : x ≠ n := by rintro rfl; exact h v List.mem_cons_self
      simp [this]
    · rfl
theorem bindC_out {kindOf : Str → Option NameKind} {x : Str} : ∀ {binds : List (Str × Value)} {m : Str → Option Value}, (∀ v, (x, v) ∉ binds) → bindC kindOf binds m x = m x
  | [], _, _ => rfl
  | (n, v) :: r, m, h => by
    unfold bindC
    rw [bindC_out fun w hw => h w (List.mem_cons_of_mem _ hw)]
    split
    · rfl
    · have : x ≠ n := by rintro rfl; exact h v List.mem_cons_self
      simp [this]
theorem bindL_get {kindOf : Str → Option NameKind} {x : Str} {v : Value} : ∀ {P : List Str} {vs : List Value} {i : Nat} {m : Str → Option Value}, P.Nodup → P[i]? = some x → vs[i]? = some v → kindOf x = some .local →
    bindL kindOf (P.zip vs) m x = some v
  | [], _, _, _, _, h, _, _ => by simp at h
  | _ :: _, [], _, _, _, _, h, _ => by simp at h
  | p :: P, w :: vs, 0, m, nd, h1, h2, hk => by
    simp at h1 h2; subst h1; subst h2
    show bindL kindOf ((p, w) :: P.zip vs) m p = _
    unfold bindL
    rw [bindL_out fun v hv => (List.nodup_cons.mp nd).1 (List.of_mem_zip hv).1, if_pos hk]
    simp
  | p :: P, w :: vs, i + 1, m, nd, h1, h2, hk => by
    show bindL kindOf ((p, w) :: P.zip vs) m x = _
    unfold bindL
    exact bindL_get (i := i) (List.nodup_cons.mp nd).2 (by simpa using h1) (by simpa using h2) hk
theorem bindC_get {kindOf : Str → Option NameKind} {x : Str} {v : Value} : ∀ {P : List Str} {vs : List Value} {i : Nat} {m : Str → Option Value}, P.Nodup → P[i]? = some x → vs[i]? = some v → kindOf x ≠ some .local →
    bindC kindOf (P.zip vs) m x = some v
  | [], _, _, _, _, h, _, _ => by simp at h
  | _ :: _, [], _, _, _, _, h, _ => by simp at h
  | p :: P, w :: vs, 0, m, nd, h1, h2, hk => by
    simp at h1 h2; subst h1; subst h2
    show bindC kindOf ((p, w) :: P.zip vs) m p = _
    unfold bindC
    rw [bindC_out fun v hv => (List.nodup_cons.mp nd).1 (List.of_mem_zip hv).1, if_neg hk]
    simp
  | p :: P, w :: vs, i + 1, m, nd, h1, h2, hk => by
    show bindC kindOf ((p, w) :: P.zip vs) m x = _
    unfold bindC
    exact bindC_get (i := i) (List.nodup_cons.mp nd).2 (by simpa using h1) (by simpa using h2) hk
def start (N : List Str) (vs : List V) : St := vs.map some ++ List.replicate (N.length - vs.length) none
def cxOf (CX : CXT) (P : Program) (w : World) (K : PySem.W.Frag) (mg : Str → Option Value) (base : Heap) (N : List Str) (qual : Str) (scope : Scope) (f : Addr) (cd : Value) (A : Around) (outer : List Env) (s : Shared) (H : Hp) (E : XK) : Cx where
  prog := P
  w := w
  K := K
  mg := mg
  base := base
  A := A.deeper (envOfC qual scope s.heap.objs.size f cd)
  N := N
  s₀ := s
  H₀ := H
  env := envOfC qual scope s.heap.objs.size f cd
  outer := outer
  stack := envOfC qual scope s.heap.objs.size f cd :: outer
  ex := []
  calm := true
  fn := fun _ => true
  pn := []
  xe := fun e s' => wpAny (model P w) (A.deeper (envOfC qual scope s.heap.objs.size f cd)) (leaving (envOfC qual scope s.heap.objs.size f cd) e) (fun _ s'' => CX outer H s E e s'') (fun e' s'' => CX outer H s E e' s'') s'
theorem cell_has {sc : Scope} {n : Nat} {x : Str} (h : sc.names.lookup x = some .cell) : ∃ c, (cellsFrom n sc.names []).lookup x = some c := by
  have q := PySem.W.cellsFrom_some sc.names n [] (.inl h)
  exact Option.isSome_iff_exists.mp q
theorem inv_start {CX : CXT} {P : Program} {w : World} {K : PySem.W.Frag} {mg : Str → Option Value} {base : Heap} {N ps : List Str} {qual : Str} {scope : Scope} {f : Addr} {cd : Value} {A : Around} {outer : List Env} {s s1 : Shared} {H : Hp} {E : XK} {us : List Value} {vs : List V}
    (S : FnScope N ps scope) (hd : A.handled = none) (e0 : Env0 P w K mg base A outer s H) (hl : vs.length = ps.length) (r : Vals vs us)
    (x : InCallC s s.heap.objs.size (bindL (envOfC qual scope s.heap.objs.size f cd).kindOf (ps.zip us) fun _ => none) (cellsFrom (s.heap.objs.size + 1) scope.names []) (bindC (envOfC qual scope s.heap.objs.size f cd).kindOf (ps.zip us) fun _ => none) s1) :
    Inv (cxOf CX P w K mg base N qual scope f cd A outer s H E) [] (start N vs) H s1 := by
  have hpl : ps.length ≤ N.length := by have := congrArg List.length S.pre; rw [List.length_take] at this; omega
  obtain ⟨h1, tk, rfl, hk⟩ := x.done
  have noA : ∀ b : Addr, b ∉ (cxOf CX P w K mg base N qual scope f cd A outer s H E).ex := fun b z => absurd (show b ∈ ([] : List Addr) from z) (by simp)
  refine ⟨⟨e0.mod, S.kind, rfl, rfl, Nat.le_refl _, fun y z c h1 h2 => ?_, fun y hy => ?_, fun y c _ h => ?_, fun _ => hd, Around.frames_deeper e0.frames, .inr ⟨rfl, rfl⟩, fun b z => absurd z (noA b), e0.bs, e0.bsz, fun b _ _ => noA b, fun b z => absurd z (noA b), e0.funs, e0.frf⟩,
    rfl, e0.bare, Un.kept hk, ⟨_, x.toInCall.ns, fun i y v h1 h2 h3 => ?_⟩, fun y c h => ⟨_, x.cell y c h⟩, e0.hok.fresh (Nat.le_refl _), fun y c h => ?_, fun p hp => absurd (show p ∈ ([] : List (Addr × Obj)) from hp) (by simp), e0.hok.kept hk, ?_⟩
  · exact name_of_addr x.apart (PySem.mem_of_lookup h1) (PySem.mem_of_lookup h2)
  · have hy : scope.names.lookup y = some .cell ∨ scope.names.lookup y = some .free := hy
    rcases hy with hy | hy
    · exact cell_has hy
    · exact absurd rfl (S.nofree _ (PySem.mem_of_lookup hy))
  · exact Nat.le_of_lt (x.above y c (PySem.mem_of_lookup h))
  · have hi : i < vs.length := by
      unfold start at h2
      by_cases hi : i < vs.length
      · exact hi
      · rw [List.getElem?_append_right (by simpa using hi)] at h2
        rw [List.getElem?_replicate] at h2
        split at h2 <;> cases h2
    have ha : vs[i]? = some v := by
      unfold start at h2
      rw [List.getElem?_append_left (by simpa using hi), List.getElem?_map] at h2
      cases e : vs[i]? with
      | none => rw [e] at h2; cases h2
      | some a => rw [e] at h2; cases h2; rfl
    obtain ⟨u, hu, rv⟩ := r.get ha
    have hp : ps[i]? = some y := by
      rw [← S.pre, List.getElem?_take_of_lt (by omega)]; exact h1
    have ndP : ps.Nodup := by rw [← S.pre]; exact S.nd.sublist (List.take_sublist _ _)
    refine ⟨u, rv, ?_⟩
    rcases S.par y (List.mem_of_getElem? hp) with k | k
    · exact .inl ⟨k, bindL_get ndP hp hu k⟩
    · obtain ⟨c, e⟩ := cell_has (n := s.heap.objs.size + 1) k
      refine .inr ⟨.inl k, c, e, ?_⟩
      have q := x.cell y c e
      rw [bindC_get ndP hp hu (by show scope.names.lookup y ≠ _; rw [k]; decide)] at q
      exact q
  · exact e0.hok.fresh (Nat.le_of_lt (x.above y c (PySem.mem_of_lookup h)))
  · unfold start
    show _ = N.length
    rw [List.length_append, List.length_map, List.length_replicate]
    omega
theorem fn_of {CX : CXT} {P : Program} {w : World} {K : PySem.W.Frag} {mg : Str → Option Value} {base : Heap} {k : Nat} {f : Addr} {name qual : Str} {params : Arguments} {body : List Stmt} {scope : Scope} {dV kV doc pm cdv ct oc : Value} {an od : Option Addr}
    {osl : Array (Option Value)} {N ps : List Str} {sp : Sp} (lk : K.lookup f = some ⟨oc, od, .func (PySem.W.fnOf name qual params body scope dV kV doc pm an cdv ct), osl⟩) (hcd : PySem.W.codeIn K cdv qual = true) (S : FnScope N ps scope)
    (len : ∀ vs H Q E, sp vs H Q E → vs.length = ps.length)
    (hbody : ∀ (A : Around) (outer : List Env) (s : Shared) (H : Hp) (vs : List V) (Q : VK) (E : XK), Room k (A.deeper (envOfC qual scope s.heap.objs.size f cdv)) → sp vs H Q E →
      ∃ t, PSs (cxOf CX P w K mg base N qual scope f cdv A outer s H E) body t ∧ t { nx := fun _ H' => Q .non H', rt := Q } (start N vs) H) :
    FnOk P w K mg base CX (k + 1) f (PySem.W.fnOf name qual params body scope dV kV doc pm an cdv ct) ps sp := by
  refine ⟨len, fun A outer s H args us vs Q E hr e0 hb r hsp => ?_⟩
  have hl := len _ _ _ _ hsp
  have KX : K.In s.heap := e0.mod.kin.keeps fun b o e => (e0.bs b o e).1
  have lim : s.heap.NoLimit := e0.mod.nolimit.keeps fun b o e => (e0.bs b o e).1
  have hkind : ∀ y ∈ ps.zip us, scope.names.lookup y.1 = some .local ∨ (scope.names.lookup y.1 = some .cell ∧ ((cellsFrom (s.heap.objs.size + 1) scope.names []).lookup y.1).isSome = true) := fun ⟨n, v⟩ hy => by
    rcases S.par n (List.of_mem_zip hy).1 with q | q
    · exact .inl q
    · exact .inr ⟨q, PySem.W.cellsFrom_some _ _ _ (.inl q)⟩
  refine codeAny_call_function hr.depth (KX _ _ lk) rfl S.co S.gen rfl (PySem.W.codeRec_of KX hcd) (hb _ _ _ _ ?_)
  refine wpAny_newFunctionEnv_cells S.kind hkind fun env he s1 x => ?_
  subst he
  refine ⟨lim.keeps x.toInCall.keep, codeAny_func ?_⟩
  obtain ⟨t, ht, hq⟩ := hbody A outer s H vs Q E (hr.deeper _) hsp
  have I : Inv (cxOf CX P w K mg base N qual scope f cdv A outer s H E) [] (start N vs) H s1 := inv_start S hr.hd e0 hl r x
  refine wpAny_mono (ht [] s1 (start N vs) H _ I hq) (fun fl s' hs => ?_) fun e s' hs => hs
  have fin : ∀ {σ' : St} {H' : Hp} {v : V} {u : Value}, Inv (cxOf CX P w K mg base N qual scope f cdv A outer s H E) [] σ' H' s' → RelV v u → Q v H' → CE outer P w H s Q u s' :=
    fun {σ' H' v u} J rv q => ⟨v, H', J.os, J.bare, J.base, J.hok, rv, q⟩
  cases fl with
  | ret u =>
    obtain ⟨v, σ', H', J, rv, q⟩ := hs
    exact fin J rv q
  | next =>
    obtain ⟨σ', H', J, q⟩ := hs
    exact fin (v := V.non) (u := Value.none) J rfl q
  | brk =>
    obtain ⟨_, _, _, q⟩ := hs
    exact False.elim q
  | cont =>
    obtain ⟨_, _, _, q⟩ := hs
    exact False.elim q
end L2
namespace L2
open PySem PySem.Spec PyProof.Rows
section
variable {X : Cx} {x : Str} {p pos : Pos} {e : Expr} {es : List Expr} {t : TA} {id T : String} {r : List V → Hp → VK → Prop}
def tCB (r : List V → Hp → VK → Prop) (t : TA) : TE := fun σ H Q => t σ H fun vs H1 => r vs H1 Q
theorem pe_callB (hc : CallR X (.builtin id) r) (hg : Gl X x) (hm : X.mg x = none) (hv : bootBuiltins x = some (.builtin id)) (ha : PA X (e :: es) t) (hn : x ≠ "__name__" := by decide) (hdb : (x == ("__debug__" : Str)) = false := by decide)
    (he : starEach (e :: es) X.env = (false, eval e X.env) :: starEach es X.env := by rfl) (hpl : (backTo pos (starEach es X.env)).any (·.1) = false := by rfl) : PE X (.Call (.Name x p) (e :: es) [] pos) (tCB r t) := by
  intro pins s σ H Q I h
  refine wpAny_Call_Name_kw (ld_blt I hg hm hv ?_ hn hdb)
  exact PyProof.Rows.callWith_builtin1 (thn (ha pos pins s σ H _ I h) fun us s1 ⟨vs, H1, I1, r1, q1⟩ => hc pins s1 σ H1 vs us Q I1 r1 q1) he hpl
theorem pe_callTy (hc : CallR X (.type T) r) (hg : Gl X x) (hm : X.mg x = none) (hv : bootBuiltins x = some (.type T)) (ha : PA X (e :: es) t) (hn : x ≠ "__name__" := by decide) (hdb : (x == ("__debug__" : Str)) = false := by decide)
    (he : starEach (e :: es) X.env = (false, eval e X.env) :: starEach es X.env := by rfl) (hpl : (backTo pos (starEach es X.env)).any (·.1) = false := by rfl) : PE X (.Call (.Name x p) (e :: es) [] pos) (tCB r t) := by
  intro pins s σ H Q I h
  refine wpAny_Call_Name_kw (ld_blt I hg hm hv ?_ hn hdb)
  exact PyProof.Rows.callWith_type1 (thn (ha pos pins s σ H _ I h) fun us s1 ⟨vs, H1, I1, r1, q1⟩ => hc pins s1 σ H1 vs us Q I1 r1 q1) he hpl
end
end L2
namespace HT
open PySem PyProof.Rows
section
variable {prog : Program} {w : World} {A : Around} {E : Value → Shared → Prop} {s : Shared}
def sIx (n d : Nat) : Option Int → Nat
  | none => d
  | some v => if v < 0 then (v + (n : Int)).toNat else min v.toNat n
theorem sIx_none (n d : Nat) : sIx n d none = d := rfl
theorem sIx_nat (n d k : Nat) : sIx n d (some (k : Int)) = min k n := by
  show (if (k : Int) < 0 then ((k : Int) + (n : Int)).toNat else min (k : Int).toNat n) = min k n
  rw [if_neg (by omega), Int.toNat_natCast]
theorem sIx_le (n d : Nat) (hd : d ≤ n) (o : Option Int) : sIx n d o ≤ n := by
  cases o with
  | none => exact hd
  | some v =>
    show (if v < 0 then (v + (n : Int)).toNat else min v.toNat n) ≤ n
    by_cases hv : v < 0
    · rw [if_pos hv]; omega
    · rw [if_neg hv]; exact Nat.min_le_right _ _
theorem clip_eq (v : Int) (n d : Nat) : (if v < 0 then max (v + (n : Int)) 0 else min v (n : Int)) = ((sIx n d (some v) : Nat) : Int) := by
  show (if v < 0 then max (v + (n : Int)) 0 else min v (n : Int)) = (((if v < 0 then (v + (n : Int)).toNat else min v.toNat n) : Nat) : Int)
  by_cases hv : v < 0
  · simp only [if_pos hv]; omega
  · simp only [if_neg hv]; omega
theorem adjust_gen (lo hi : Option Int) (n : Nat) : Builtin.Slice.sliceAdjust lo hi 1 (n : Int) = (((sIx n 0 lo : Nat) : Int), ((sIx n n hi : Nat) : Int)) := by
  have h1 : ¬ ((1 : Int) < 0) := by omega
  unfold Builtin.Slice.sliceAdjust
  simp only [h1, if_false]
  refine Prod.ext ?_ ?_
  · cases lo with
    | none => rfl
    | some v => exact clip_eq v n 0
  · cases hi with
    | none => rfl
    | some v => exact clip_eq v n n
theorem places_gen (i j : Nat) : Builtin.Slice.slicePlaces (i : Int) (j : Int) 1 = j - i := by
  unfold Builtin.Slice.slicePlaces
  have h1 : (1 : Int) > 0 := by omega
  simp only [h1, if_true, Int.ediv_one]
  split <;> omega
theorem slicePart_ {v : Value} {o : Option Int} {Q : Option Int → Shared → Prop} (p : IsPart v o) (h : Q o s) : wpAny (model prog w) A (Builtin.Slice.slicePartIndex v) Q E s := by
  cases p with
  | none => exact slicePart_none h
  | int i t => exact slicePart_int h
theorem sliceApplied_gen {sl : Addr} {vl vu : Value} {lo hi : Option Int} {n : Nat} {Q : Int × Int × Nat → Shared → Prop} (hs : s.heap.IsSliceOf sl vl vu .none) (pl : IsPart vl lo) (pu : IsPart vu hi)
    (h : Q (((sIx n 0 lo : Nat) : Int), 1, sIx n n hi - sIx n 0 lo) s) : wpAny (model prog w) A (Builtin.Slice.sliceApplied (.ref sl) (pure (n : Int))) Q E s := by
  obtain ⟨os, hos, hcs, hds⟩ := id hs
  unfold Builtin.Slice.sliceApplied Builtin.Slice.sliceFields
  refine wpAny_bind (wpAny_bind (wpAny_field hos hds (x := vl) rfl (wpAny_bind (wpAny_field hos hds (x := vu) rfl (wpAny_bind (wpAny_field hos hds (x := .none) rfl (wpAny_pure ?_)))))))
  refine wpAny_bind (slicePart_none ?_)
  show wpAny _ _ (if ((1 : Int) == 0) = true then _ else _) _ _ s
  rw [if_neg (by decide)]
  refine wpAny_bind (slicePart_ pl (wpAny_bind (slicePart_ pu (wpAny_bind (wpAny_pure ?_)))))
  show wpAny _ _ (match Builtin.Slice.sliceAdjust lo hi 1 (n : Int) with | (lo, hi) => pure (lo, (1 : Int), Builtin.Slice.slicePlaces lo hi 1)) _ _ s
  rw [adjust_gen lo hi n]
  show wpAny _ _ (pure (((sIx n 0 lo : Nat) : Int), (1 : Int), Builtin.Slice.slicePlaces ((sIx n 0 lo : Nat) : Int) ((sIx n n hi : Nat) : Int) 1)) _ _ s
  rw [places_gen]
  exact wpAny_pure h
theorem pick_gen (xs : Array Value) (i k : Nat) : ((List.range k).filterMap fun (m : Nat) => xs[((i : Int) + (m : Int) * 1).toNat]?).toArray = ((xs.toList.drop i).take k).toArray := by
  have e : (fun (m : Nat) => xs[((i : Int) + (m : Int) * 1).toNat]?) = fun m => xs[i + m]? := by
    funext m
    have : ((i : Int) + (m : Int) * 1).toNat = i + m := by omega
    rw [this]
  rw [e]
  have := pick_run xs i k
  rw [List.filterMap_map] at this
  have e2 : ((fun x => xs[x]?) ∘ fun x => i + x) = fun m => xs[i + m]? := rfl
  rw [e2] at this
  rw [this]
theorem getItem_tuple_cut {t sl : Addr} {items : Array Value} {vl vu : Value} {lo hi : Option Int} {Q : Value → Shared → Prop} (ht : IsTup s.heap t items) (hs : s.heap.IsSliceOf sl vl vu .none) (pl : IsPart vl lo) (pu : IsPart vu hi)
    (hw : ¬ (sIx items.size 0 lo = 0 ∧ sIx items.size items.size hi = items.size))
    (h : Q (.ref s.heap.objs.size) { s with heap := s.heap.push { cls := .type "tuple", data := .seq ((items.toList.drop (sIx items.size 0 lo)).take (sIx items.size items.size hi - sIx items.size 0 lo)).toArray } })
    (hsz : items.size ≤ sizeLine) : wpAny (model prog w) A (getItem (.ref t) (.ref sl)) Q E s := by
  have htake : sizeOk (.seq ((items.toList.drop (sIx items.size 0 lo)).take (sIx items.size items.size hi - sIx items.size 0 lo)).toArray) := by
    show ((items.toList.drop (sIx items.size 0 lo)).take (sIx items.size items.size hi - sIx items.size 0 lo)).toArray.size ≤ sizeLine
    rw [List.size_toArray, List.length_take, List.length_drop, Array.length_toList]
    omega
  have hj : sIx items.size items.size hi ≤ items.size := sIx_le _ _ (Nat.le_refl _) hi
  obtain ⟨os, hos, hcs, hds⟩ := id hs
  have hTs : s.TypeIs (.ref sl) "slice" := ⟨os, hos, hcs⟩
  unfold getItem
  try with_reducible refine wpAny_holding ?_
  first | refine wpAny_bind (wpAny_pure ?_) | skip
  refine wpAny_bind (wpAny_sequenceKey ht.typeIs (by decide) ?_)
  refine wpAny_bind (wpAny_callSpecial?_slot (name := Str.ofString "__getitem__") ht.typeIs PyProof.Rows.slot_tuple_getitem
    (wpAny_call_entry PyProof.Rows.slot_tuple_getitem ht.typeIs entry_tuple_getitem ?_ (args_tuple_getitem _ _)))
  show wpAny _ _ (Builtin.Tuple.tupleItemsOf (.ref t) >>= _) _ _ s
  refine wpAny_bind (tupleItemsOf_ ht ?_)
  refine wpAny_bind (wpAny_typeOf hTs ?_)
  rw [if_pos (by decide)]
  refine wpAny_bind (sliceApplied_gen hs pl pu ?_)
  have hno : ¬ ((((sIx items.size 0 lo : Nat) : Int) == 0 && (1 : Int) == 1 && (sIx items.size items.size hi - sIx items.size 0 lo) == items.size) = true) := by
    intro q
    rw [Bool.and_eq_true, Bool.and_eq_true] at q
    have q1 : ((sIx items.size 0 lo : Nat) : Int) = 0 := eq_of_beq q.1.1
    have q2 : sIx items.size items.size hi - sIx items.size 0 lo = items.size := eq_of_beq q.2
    exact hw ⟨by omega, by omega⟩
  show wpAny _ _ (if (((sIx items.size 0 lo : Nat) : Int) == 0 && (1 : Int) == 1 && (sIx items.size items.size hi - sIx items.size 0 lo) == items.size) = true then _ else _) _ _ s
  rw [if_neg hno, pick_gen]
  first
    | exact wpAny_bind (m := Builtin.Tuple.tupleExact _) (wpAny_newObj_type (wpAny_pure ⟨_, rfl, wpAny_pure h⟩) htake)
    | exact wpAny_bind (m := Builtin.Tuple.tupleExact _) (wpAny_newObj_type (wpAny_bind (wpAny_pure (wpAny_pure ⟨_, rfl, wpAny_pure h⟩))) htake)
    | exact wpAny_bind (wpAny_bind (m := Builtin.Tuple.tupleExact _) (wpAny_newObj_type (wpAny_pure (wpAny_pure ⟨_, rfl, wpAny_pure h⟩)) htake))
    | exact wpAny_bind (wpAny_bind (m := Builtin.Tuple.tupleExact _) (wpAny_newObj_type (wpAny_pure ⟨_, rfl, wpAny_pure h⟩) htake))
end
end HT
namespace L2
open PySem PySem.Spec PyProof.Rows
abbrev TO := St → Hp → (Option Int → Hp → Prop) → Prop
def PO (X : Cx) (e : Option Expr) (t : TO) : Prop :=
  ∀ (pins : List (Addr × Obj)) (s : Shared) (σ : St) (H : Hp) (Q : Option Int → Hp → Prop), Inv X pins σ H s → t σ H Q →
    wpAny (model X.prog X.w) X.A (evalPart e X.env) (fun u s' => ∃ o H', Inv X pins σ H' s' ∧ IsPart u o ∧ Q o H') X.xe s
def tNoPart : TO := fun _ H Q => Q none H
def tPart (t : TE) : TO := fun σ H Q => t σ H fun x H1 => ∃ i, x = .int i ∧ Q (some i) H1
theorem intsAre_of {ns : List Int} : ∀ {us : List Value}, Vals (ns.map V.int) us → IntsAre us ns := by
  induction ns with
  | nil => intro us r; rw [List.map_nil] at r; cases r; exact .nil
  | cons n ns ih =>
    intro us r
    rw [List.map_cons] at r
    cases r with
    | cons r1 r2 =>
      obtain ⟨t, e⟩ := r1
      subst e
      exact .cons n t (ih r2)
section
variable {X : Cx} {e : Expr} {te : TE} {lo hi : Option Expr} {tl th : TO} {pos p2 : Pos}
theorem po_none : PO X none tNoPart := by
  intro pins s σ H Q I h
  rw [evalPart_none]
  exact wpAny_pure ⟨none, H, I, .none, h⟩
theorem po_some (h : PE X e te) : PO X (some e) (tPart te) := by
  intro pins s σ H Q I hw
  rw [evalPart_some]
  refine thn (h pins s σ H _ I hw) fun u s1 ⟨x, H1, I1, r1, q1⟩ => ?_
  obtain ⟨i, rfl, q⟩ := q1
  obtain ⟨t, rfl⟩ := r1
  exact ⟨some i, H1, I1, .int i t, q⟩
def SlR (X : Cx) (r : V → Option Int → Option Int → Hp → VK → Prop) : Prop :=
  ∀ (pins : List (Addr × Obj)) (s : Shared) (σ : St) (H : Hp) (x : V) (v vl vu : Value) (lo hi : Option Int) (sl : Addr) (Q : VK), Inv X pins σ H s → RelV x v → s.heap.IsSliceOf sl vl vu .none → IsPart vl lo → IsPart vu hi → r x lo hi H Q →
    ∃ T id, typeLookup (.type T) "__getitem__" = pure (some (.builtin id)) ∧ s.TypeIs v T ∧ wpAny (model X.prog X.w) X.A (getItem v (.ref sl)) (EP X pins σ Q) X.xe s
def tSl (r : V → Option Int → Option Int → Hp → VK → Prop) (te : TE) (tl th : TO) : TE := fun σ H Q => te σ H fun x H1 => tl σ H1 fun l H2 => th σ H2 fun u H3 => r x l u H3 Q
theorem pe_slice {r : V → Option Int → Option Int → Hp → VK → Prop} (hr : SlR X r) (he : PE X e te) (hl : PO X lo tl) (hu : PO X hi th) : PE X (.Subscript e (.Slice lo hi none p2) pos) (tSl r te tl th) := by
  intro pins s σ H Q I h
  refine Subscript_ (thn (he pins s σ H _ I h) fun v s1 ⟨x, H1, I1, r1, q1⟩ => ?_)
  refine wpAny_Slice (thn (hl pins s1 σ H1 _ I1 q1) fun vl s2 ⟨l, H2, I2, pl, q2⟩ => thn (hu pins s2 σ H2 _ I2 q2) fun vu s3 ⟨u, H3, I3, pu, q3⟩ => ?_)
  rw [evalPart_none]
  refine wpAny_pure ?_
  have I4 : Inv X pins σ H3 { s3 with heap := s3.heap.push { cls := .type "slice", data := .fields #[vl, vu, .none] } } := I3.kept (t' := s3.toks) fun b ob q => Heap.get?_push_of_some _ q
  obtain ⟨T, id, hT, ht, hg⟩ := hr pins { s3 with heap := s3.heap.push { cls := .type "slice", data := .fields #[vl, vu, .none] } } σ H3 x v vl vu l u s3.heap.objs.size Q I4 r1 (Heap.IsSliceOf.new ..) pl pu q3
  show wpAny (model X.prog X.w) X.A (subscriptTail e (.Slice lo hi none p2) v (.ref s3.heap.objs.size)) (EP X pins σ Q) X.xe { s3 with heap := s3.heap.push { cls := .type "slice", data := .fields #[vl, vu, .none] } }
  exact tail_any (ops := [.ref s3.heap.objs.size, v]) ht hT hg (by with_unfolding_all rfl)
def cutV (xs : List V) (lo hi : Option Int) : List V := (xs.drop (HT.sIx xs.length 0 lo)).take (HT.sIx xs.length xs.length hi - HT.sIx xs.length 0 lo)
theorem cutV_length (xs : List V) (lo hi : Option Int) : (cutV xs lo hi).length ≤ xs.length := by
  unfold cutV
  rw [List.length_take, List.length_drop]
  omega
def rSlT (K : PySem.W.Frag) : V → Option Int → Option Int → Hp → VK → Prop := fun x lo hi H Q => ∃ a xs, x = .ref a ∧ SqT K H a xs ∧
  ¬ (HT.sIx xs.length 0 lo = 0 ∧ HT.sIx xs.length xs.length hi = xs.length) ∧ ∀ p, H p = none → Q (.ref p) (upd H p (.tup (cutV xs lo hi)))
theorem sl_tup : SlR X (rSlT X.K) := by
  intro pins s σ H x v vl vu lo hi sl Q I rx hs pl pu h
  obtain ⟨a, xs, rfl, hx, hw, q⟩ := h
  cases rx
  obtain ⟨its, r, ht, hz⟩ := I.tuple hx
  have hlen : its.toArray.size = xs.length := by rw [List.size_toArray]; exact r.length.symm
  refine ⟨"tuple", _, PyProof.Rows.slot_tuple_getitem.lookup, ht.typeIs, ?_⟩
  refine HT.getItem_tuple_cut ht hs pl pu (by rw [hlen]; exact hw) ?_ (by rw [hlen]; exact hz)
  rw [hlen]
  refine ⟨.ref s.heap.objs.size, _, I.laid (t' := s.toks) (o := .tup (cutV xs lo hi)) (fun b ob q => Heap.get?_push_of_some _ q) (Nat.le_refl _) ?_, rfl, q _ (I.hok.fresh (Nat.le_refl _))⟩
  exact ⟨Nat.le_trans (cutV_length xs lo hi) hz, _, (r.drop (HT.sIx xs.length 0 lo)).take (HT.sIx xs.length xs.length hi - HT.sIx xs.length 0 lo), IsTup.new _ _⟩
end
end L2
namespace L2
open PySem PySem.Spec PyProof.Rows
def ixN (n : Nat) (i : Int) : Option Nat := if 0 ≤ i then (if i < n then some i.toNat else none) else if -(n : Int) ≤ i then some (i + n).toNat else none
def atI {α : Type} (xs : List α) (i : Int) : Option α := (ixN xs.length i).bind fun j => xs[j]?
theorem ixN_seq {n : Nat} {i : Int} {j : Nat} (h : ixN n i = some j) : seqIndex? i n = some j ∧ j < n ∧ -(n : Int) ≤ i ∧ i < n := by
  unfold ixN at h
  by_cases h0 : 0 ≤ i
  · rw [if_pos h0] at h
    by_cases h1 : i < n
    · rw [if_pos h1] at h
      have e : i.toNat = j := Option.some.inj h
      exact ⟨by rw [seqIndex_of h0 h1, e], by omega, by omega, h1⟩
    · rw [if_neg h1] at h; cases h
  · rw [if_neg h0] at h
    by_cases h1 : -(n : Int) ≤ i
    · rw [if_pos h1] at h
      have e : (i + n).toNat = j := Option.some.inj h
      exact ⟨by rw [seqIndex_neg (by omega) h1, e], by omega, h1, by omega⟩
    · rw [if_neg h1] at h; cases h
theorem atI_get {α : Type} {xs : List α} {i : Int} {v : α} (h : atI xs i = some v) : ∃ j, seqIndex? i xs.length = some j ∧ xs[j]? = some v ∧ j < xs.length ∧ -(xs.length : Int) ≤ i ∧ i < xs.length := by
  unfold atI at h
  cases e : ixN xs.length i with
  | none => rw [e] at h; cases h
  | some j =>
    rw [e] at h
    obtain ⟨h1, h2, h3, h4⟩ := ixN_seq e
    exact ⟨j, h1, h, h2, h3, h4⟩
theorem atI_nat {α : Type} {xs : List α} {j : Nat} {v : α} (h : xs[j]? = some v) : atI xs (j : Int) = some v := by
  have hj : j < xs.length := (List.getElem?_eq_some_iff.mp h).1
  have e : ixN xs.length (j : Int) = some j := by
    unfold ixN
    rw [if_pos (by omega), if_pos (by omega)]; simp
  unfold atI; rw [e]; exact h
def PlainIx (b : Expr) : Prop := ∀ o i, subscripted b false o i = operate [o, i] (getItem o i)
def IxR (X : Cx) (r : R2) : Prop :=
  ∀ (value slice : Expr) (pins : List (Addr × Obj)) (s : Shared) (σ : St) (H : Hp) (x y : V) (v u : Value) (Q : VK), Inv X pins σ H s → RelV x v → RelV y u → r x y H Q →
    subscripted slice false v u = operate [v, u] (getItem v u) → wpAny (model X.prog X.w) X.A (subscriptTail value slice v u) (EP X pins σ Q) X.xe s
def MtR (X : Cx) (id : String) (r : V → List V → Hp → VK → Prop) : Prop :=
  ∀ (pins : List (Addr × Obj)) (s : Shared) (σ : St) (H : Hp) (x : V) (xs : List V) (v : Value) (us : List Value) (Q : VK), Inv X pins σ H s → RelV x v → Vals xs us → r x xs H Q →
    wpAny (model X.prog X.w) X.A (call (.builtin id) (v :: us)) (EP X pins σ Q) X.xe s
section
variable {X : Cx} {a b : Expr} {ta tb : TE} {pos : Pos}
theorem pe_ix {r : R2} (hr : IxR X r) (ha : PE X a ta) (hb : PE X b tb) (hs : PlainIx b) : PE X (.Subscript a b pos) (tOp r ta tb) := by
  intro pins s σ H Q I h
  exact Subscript_ (binT ha hb I h fun v u s2 x y H2 I2 rx ry q => hr a b pins s2 σ H2 x y v u Q I2 rx ry q (hs _ _))
def rIxL (K : PySem.W.Frag) : R2 := fun x y H Q => ∃ p xs i v, x = .ref p ∧ y = .int i ∧ SqL K H p xs ∧ atI xs i = some v ∧ Q v H
def rIxT (K : PySem.W.Frag) : R2 := fun x y H Q => ∃ p xs i v, x = .ref p ∧ y = .int i ∧ SqT K H p xs ∧ atI xs i = some v ∧ Q v H
def rIxS : R2 := fun x y H Q => ∃ z i c, x = .str z ∧ y = .int i ∧ z.length ≤ sizeLine ∧ atI z.cps.toList i = some c ∧ Q (.str ⟨#[c]⟩) H
theorem ix_list : IxR X (rIxL X.K) := by
  intro value slice pins s σ H x y v u Q I rx ry h hs
  obtain ⟨p, xs, i, z, rfl, rfl, hq, he, q⟩ := h
  cases rx
  obtain ⟨t, rfl⟩ := ry
  obtain ⟨its, r, pl, hz⟩ := I.list hq
  obtain ⟨j, h1, h2, h3, h4, h5⟩ := atI_get he
  obtain ⟨w, ew, rw'⟩ := r.get h2
  have hl := r.length
  have hn := line63
  have fin : EP X pins σ Q w s := ⟨z, H, I, rw', q⟩
  by_cases h0 : 0 ≤ i
  · have hj : i.toNat = j := by
      rw [seqIndex_of h0 h5] at h1
      exact Option.some.inj h1
    exact item_listR pl.isList h0 (by omega) (by rw [hj]; simpa using ew) fin hs
  · have hj : (i + (its.toArray.size : Int)).toNat = j := by
      rw [seqIndex_neg (by omega) h4] at h1
      rw [List.size_toArray, ← hl]
      exact Option.some.inj h1
    exact subscriptTail_builtinR (x := w) pl.isList.typeIs slot_list_getitem.lookup
      (wpAny_getItem_list_neg (Q := fun r s' => r = w ∧ EP X pins σ Q r s') pl.isList (by omega) (by rw [List.size_toArray] <;> omega) (by omega) (by rw [hj]; simpa using ew) ⟨rfl, fin⟩) hs
theorem ix_tup : IxR X (rIxT X.K) := by
  intro value slice pins s σ H x y v u Q I rx ry h hs
  obtain ⟨p, xs, i, z, rfl, rfl, hq, he, q⟩ := h
  cases rx
  obtain ⟨t, rfl⟩ := ry
  obtain ⟨its, r, pl, hz⟩ := I.tuple hq
  obtain ⟨j, h1, h2, h3, h4, h5⟩ := atI_get he
  obtain ⟨w, ew, rw'⟩ := r.get h2
  have hl := r.length
  have hn := line63
  have fin : EP X pins σ Q w s := ⟨z, H, I, rw', q⟩
  exact subscriptTail_builtinR (x := w) pl.typeIs slot_tuple_getitem.lookup
    (getItem_tuple (j := j) (Q := fun r s' => r = w ∧ EP X pins σ Q r s') pl (by omega) (by omega) (by rw [List.size_toArray, ← hl]; exact h1) (by simpa using ew) ⟨rfl, fin⟩) hs
theorem ix_str : IxR X rIxS := by
  intro value slice pins s σ H x y v u Q I rx ry h hs
  obtain ⟨z, i, c, rfl, rfl, hz, he, q⟩ := h
  obtain ⟨t, rfl⟩ := rx
  obtain ⟨t', rfl⟩ := ry
  obtain ⟨j, h1, h2, h3, h4, h5⟩ := atI_get he
  have hl : z.cps.toList.length = z.length := by simp [Str.length]
  rw [hl] at h1 h4 h5
  have hn := line63
  exact tail_any (typeIs_str s z t) slot_str_getitem.lookup (getItem_str (c := c) (by
    have e1 : decide (i < -(2 ^ 63 : Int)) = false := decide_eq_false (by omega)
    have e2 : decide (i ≥ 2 ^ 63) = false := decide_eq_false (by omega)
    rw [e1, e2, Bool.or_false]) (by rw [h1]; simpa using h2) ⟨.str ⟨#[c]⟩, H, I.tok _, ⟨_, rfl⟩, q⟩) hs
theorem slice_bounds (lo hi : Option Int) (n : Nat) : (sliceBounds lo hi none n).1 = ((HT.sIx n 0 lo : Nat) : Int) ∧ (sliceBounds lo hi none n).2.1 = ((HT.sIx n n hi : Nat) : Int) ∧ (sliceBounds lo hi none n).2.2 = 1 := by
  refine ⟨?_, ?_, rfl⟩
  · cases lo with
    | none => simp [sliceBounds, HT.sIx]
    | some i =>
      simp only [sliceBounds, HT.sIx, Option.getD_none, show (1 : Int) > 0 by decide, if_true]
      by_cases h : i < 0
      · simp only [h, if_true] <;> omega
      · simp only [h, if_false] <;> omega
  · cases hi with
    | none => simp [sliceBounds, HT.sIx]
    | some i =>
      simp only [sliceBounds, HT.sIx, Option.getD_none, show (1 : Int) > 0 by decide, if_true]
      by_cases h : i < 0
      · simp only [h, if_true] <;> omega
      · simp only [h, if_false] <;> omega
theorem slicePick_cut (its : List Value) (lo hi : Option Int) : slicePick its.toArray lo hi none = ((its.drop (HT.sIx its.length 0 lo)).take (HT.sIx its.length its.length hi - HT.sIx its.length 0 lo)).toArray := by
  obtain ⟨h1, h2, h3⟩ := slice_bounds lo hi its.toArray.size
  unfold slicePick
  rw [h1, h2, h3]
  simp only [sliceRange_one, pick_run, List.size_toArray] <;> rfl
def rSlL (K : PySem.W.Frag) : V → Option Int → Option Int → Hp → VK → Prop := fun x lo hi H Q => ∃ a xs, x = .ref a ∧ SqL K H a xs ∧ ∀ p, H p = none → Q (.ref p) (upd H p (.lst (cutV xs lo hi)))
theorem sl_list : SlR X (rSlL X.K) := by
  intro pins s σ H x v vl vu lo hi sl Q I rx hs pl pu h
  obtain ⟨a, xs, rfl, hx, q⟩ := h
  cases rx
  obtain ⟨its, r, ht, hz⟩ := I.list hx
  have hlen := r.length
  refine ⟨"list", _, slot_list_getitem.lookup, ht.isList.typeIs, ?_⟩
  refine wpAny_getItem_list_slice ht.isList hs pl pu .none (by simp) ?_ (by rw [List.size_toArray] <;> omega)
  rw [slicePick_cut, ← hlen]
  refine ⟨.ref s.heap.objs.size, _, I.laid (t' := s.toks) (o := .lst (cutV xs lo hi)) (fun b ob q => Heap.get?_push_of_some _ q) (Nat.le_refl _) ?_, rfl, q _ (I.hok.fresh (Nat.le_refl _))⟩
  exact ⟨Nat.le_trans (cutV_length xs lo hi) hz, _, 0, (r.drop (HT.sIx xs.length 0 lo)).take (HT.sIx xs.length xs.length hi - HT.sIx xs.length 0 lo), Heap.get?_push_size _ rfl⟩
def flatV : V → Bool
  | .non => true
  | .bl _ => true
  | .int _ => true
  | .str _ => true
  | _ => false
def eqV : V → V → Bool
  | .non, .non => true
  | .bl a, .bl b => a == b
  | .bl a, .int b => (if a then 1 else 0) == b
  | .int a, .bl b => a == (if b then 1 else 0)
  | .int a, .int b => a == b
  | .str a, .str b => a == b
  | _, _ => false
theorem eqAt_V {A : Around} {s : Shared} {y x : V} {u v : Value} (ry : RelV y u) (rx : RelV x v) (fy : flatV y = true) (fx : flatV x = true) : SeqAt.EqAt A s u v (eqV y x) := by
  cases y with
  | non =>
    cases ry
    cases x with
    | non => cases rx; exact SeqAt.EqAt.same _
    | bl b => cases rx; exact SeqAt.EqAt.none_bool b
    | int b => obtain ⟨t, rfl⟩ := rx; exact SeqAt.EqAt.none_int b t
    | str b => obtain ⟨t, rfl⟩ := rx; exact SeqAt.EqAt.none_str b t
    | _ => exact absurd (show false = true from fx) Bool.false_ne_true
  | bl a =>
    cases ry
    cases x with
    | non => cases rx; exact SeqAt.EqAt.bool_none a
    | bl b => cases rx; exact SeqAt.EqAt.bool_bool a b
    | int b => obtain ⟨t, rfl⟩ := rx; exact SeqAt.EqAt.bool_int a b t
    | str b => obtain ⟨t, rfl⟩ := rx; exact SeqAt.EqAt.bool_str a b t
    | _ => exact absurd (show false = true from fx) Bool.false_ne_true
  | int a =>
    obtain ⟨t', rfl⟩ := ry
    cases x with
    | non => cases rx; exact SeqAt.EqAt.int_none a t'
    | bl b => cases rx; exact SeqAt.EqAt.int_bool a t' b
    | int b => obtain ⟨t, rfl⟩ := rx; exact SeqAt.EqAt.int_int a t' b t
    | str b => obtain ⟨t, rfl⟩ := rx; exact SeqAt.EqAt.int_str a t' b t
    | _ => exact absurd (show false = true from fx) Bool.false_ne_true
  | str a =>
    obtain ⟨t', rfl⟩ := ry
    cases x with
    | non => cases rx; exact SeqAt.EqAt.str_none a t'
    | bl b => cases rx; exact SeqAt.EqAt.str_bool a t' b
    | int b => obtain ⟨t, rfl⟩ := rx; exact SeqAt.EqAt.str_int a t' b t
    | str b => obtain ⟨t, rfl⟩ := rx; exact SeqAt.EqAt.str_str a t' b t
    | _ => exact absurd (show false = true from fx) Bool.false_ne_true
  | _ => exact absurd (show false = true from fy) Bool.false_ne_true
def eqU (x : V) (u : Value) : Bool := match u with
  | .none => eqV .non x
  | .bool b => eqV (.bl b) x
  | .int i _ => eqV (.int i) x
  | .str z _ => eqV (.str z) x
  | _ => false
theorem eqU_of {x y : V} {u : Value} (r : RelV y u) (f : flatV y = true) : eqU x u = eqV y x := by
  cases y with
  | non => cases r; rfl
  | bl b => cases r; rfl
  | int i => obtain ⟨t, rfl⟩ := r; rfl
  | str z => obtain ⟨t, rfl⟩ := r; rfl
  | _ => exact absurd (show false = true from f) Bool.false_ne_true
theorem any_eqU {x : V} : ∀ {xs : List V} {us : List Value}, Vals xs us → xs.all flatV = true → us.any (eqU x) = xs.any fun y => eqV y x
  | _, _, .nil, _ => rfl
  | y :: xs, u :: us, .cons r t, f => by
    rw [List.all_cons, Bool.and_eq_true] at f
    rw [List.any_cons, List.any_cons, eqU_of r f.1, any_eqU t f.2]
theorem mem_eqAt {A : Around} {s : Shared} {x : V} {v : Value} (rx : RelV x v) (fx : flatV x = true) : ∀ {xs : List V} {us : List Value}, Vals xs us → xs.all flatV = true → ∀ u ∈ us, SeqAt.EqAt A s u v (eqU x u)
  | _, _, .nil, _ => fun u hu => by cases hu
  | y :: xs, u :: us, .cons r t, f => fun u' hu => by
    rw [List.all_cons, Bool.and_eq_true] at f
    rcases List.mem_cons.mp hu with rfl | hu
    · rw [eqU_of r f.1]; exact eqAt_V r rx f.1 fx
    · exact mem_eqAt rx fx t f.2 u' hu
def inV (x : V) (xs : List V) : Bool := xs.any fun y => eqV y x
def rIn (K : PySem.W.Frag) (neg : Bool) : R2 := fun x y H Q => ∃ p xs, y = .ref p ∧ (SqL K H p xs ∨ SqT K H p xs) ∧ flatV x = true ∧ xs.all flatV = true ∧ Q (.bl (if neg then !inV x xs else inV x xs)) H
theorem op_in_seq : OpR X (compareOp .In) (rIn X.K false) := by
  intro pins s σ H x y v u Q I rx ry h
  obtain ⟨p, xs, rfl, hq, fx, fs, q⟩ := h
  cases ry
  rcases hq with hq | hq
  · obtain ⟨its, r, pl, hz⟩ := I.list hq
    refine SeqAt.in_listAt (eqU x) pl.isList (fun w hw => mem_eqAt rx fx r fs w (by simpa using hw)) ⟨.bl _, H, I, rfl, ?_⟩
    rw [show its.toArray.any (eqU x) = its.any (eqU x) by simp, any_eqU r fs]
    exact q
  · obtain ⟨its, r, pl, hz⟩ := I.tuple hq
    refine SeqAt.in_tupleAt (eqU x) pl (fun w hw => mem_eqAt rx fx r fs w (by simpa using hw)) ⟨.bl _, H, I, rfl, ?_⟩
    rw [show its.toArray.any (eqU x) = its.any (eqU x) by simp, any_eqU r fs]
    exact q
theorem op_notIn_seq : OpR X (compareOp .NotIn) (rIn X.K true) := by
  intro pins s σ H x y v u Q I rx ry h
  obtain ⟨p, xs, rfl, hq, fx, fs, q⟩ := h
  cases ry
  rcases hq with hq | hq
  · obtain ⟨its, r, pl, hz⟩ := I.list hq
    refine SeqAt.notIn_listAt (eqU x) pl.isList (fun w hw => mem_eqAt rx fx r fs w (by simpa using hw)) ⟨.bl _, H, I, rfl, ?_⟩
    rw [show its.toArray.any (eqU x) = its.any (eqU x) by simp, any_eqU r fs]
    exact q
  · obtain ⟨its, r, pl, hz⟩ := I.tuple hq
    refine SeqAt.notIn_tupleAt (eqU x) pl (fun w hw => mem_eqAt rx fx r fs w (by simpa using hw)) ⟨.bl _, H, I, rfl, ?_⟩
    rw [show its.toArray.any (eqU x) = its.any (eqU x) by simp, any_eqU r fs]
    exact q
theorem call_len_seq : CallR X (.builtin "len") (fun xs H Q => ∃ p ys, xs = [.ref p] ∧ (SqL X.K H p ys ∨ SqT X.K H p ys) ∧ Q (.int ys.length) H) := by
  intro pins s σ H xs us Q I r h
  obtain ⟨p, ys, rfl, hq, q⟩ := h
  obtain ⟨u, rfl, rx⟩ := vals1 r
  cases rx
  have hn := line63
  rcases hq with hq | hq
  · obtain ⟨its, r', pl, hz⟩ := I.list hq
    have hlen := r'.length
    exact Calls.call_len_list pl.isList (by simp only [List.size_toArray] <;> omega) ⟨.int ys.length, H, I.tok _, ⟨s.toks + 1, by rw [List.size_toArray, hlen]⟩, q⟩
  · obtain ⟨its, r', pl, hz⟩ := I.tuple hq
    have hlen := r'.length
    exact len_tuple pl (by simp only [List.size_toArray] <;> omega) ⟨.int ys.length, H, I.tok _, ⟨s.toks + 1, by rw [List.size_toArray, hlen]⟩, q⟩
theorem call_list_of : CallR X (.type "list") (fun xs H Q => ∃ p ys, xs = [.ref p] ∧ (SqL X.K H p ys ∨ SqT X.K H p ys) ∧ ∀ l, H l = none → Q (.ref l) (upd H l (.lst ys))) := by
  intro pins s σ H xs us Q I r h
  obtain ⟨p, ys, rfl, hq, q⟩ := h
  obtain ⟨u, rfl, rx⟩ := vals1 r
  cases rx
  have fin : ∀ (its : List Value), Vals ys its → ys.length ≤ sizeLine → ∀ (h' : Heap) (c' : Nat), (∀ b o', s.heap.get? b = some o' → h'.get? b = some o') →
      h'.get? s.heap.objs.size = some { cls := .type "list", dict := none, data := .seq its.toArray c', slots := #[] } → EP X pins σ Q (.ref s.heap.objs.size) { s with heap := h' } := fun its r' hz h' c' kp e =>
    ⟨.ref s.heap.objs.size, _, I.laid (t' := s.toks) kp (Nat.le_refl _) (show ObjOk X.prog X.w _ h' _ (.lst ys) from ⟨hz, its, c', r', e⟩), rfl, q _ (I.hok.fresh (Nat.le_refl _))⟩
  rcases hq with hq | hq
  · obtain ⟨its, r', pl, hz⟩ := I.list hq
    have hlen := r'.length
    obtain ⟨o, ho, hc, n, hd⟩ := pl.isList
    exact call_list_seq p (.inl rfl) ho hc hd (fun h' c' kp e => fin its r' hz h' c' kp e) (by simp only [List.size_toArray] <;> omega)
  · obtain ⟨its, r', pl, hz⟩ := I.tuple hq
    have hlen := r'.length
    obtain ⟨o, ho, hc, n, hd⟩ := pl
    exact call_list_seq p (.inr rfl) ho hc hd (fun h' c' kp e => fin its r' hz h' c' kp e) (by simp only [List.size_toArray] <;> omega)
def tyV (K : PySem.W.Frag) (T : String) (x : V) (H : Hp) : Prop := match x with
  | .str _ => T = "str"
  | .int _ => T = "int"
  | .ref p => (T = "list" ∧ ∃ xs, SqL K H p xs) ∨ (T = "tuple" ∧ ∃ o, K.lookup p = some o ∧ o.cls = .type "tuple" ∧ o.dict = none) ∨
      (T = "dict" ∧ ((∃ kvs, H p = some (.dK kvs)) ∨ ∃ kvs, H p = some (.dT kvs))) ∨ (T = "set" ∧ ∃ S n, H p = some (.set S n))
  | _ => False
theorem tyV_is {pins : List (Addr × Obj)} {σ : St} {H : Hp} {s : Shared} {T : String} {x : V} {v : Value} (I : Inv X pins σ H s) (r : RelV x v) (ty : tyV X.K T x H) :
    s.TypeIs v T ∧ ∀ a, v = .ref a → ∃ ob, s.heap.get? a = some ob ∧ ob.dict = none := by
  cases x with
  | str z =>
    obtain ⟨t, rfl⟩ := r
    cases (show T = "str" from ty)
    exact ⟨typeIs_str s z t, fun _ e => nomatch e⟩
  | int i =>
    obtain ⟨t, rfl⟩ := r
    cases (show T = "int" from ty)
    exact ⟨typeIs_int s i t, fun _ e => nomatch e⟩
  | ref p =>
    cases r
    rcases ty with ⟨rfl, xs, hq⟩ | ⟨rfl, o, hk, hc, hd⟩ | ⟨rfl, hk⟩ | ⟨rfl, S, n, hk⟩
    · obtain ⟨its, _, pl, _⟩ := I.list hq
      refine ⟨pl.isList.typeIs, fun a e => ?_⟩
      cases e
      obtain ⟨o, n, e, c, hd, _⟩ := pl
      exact ⟨o, e, hd⟩
    · refine ⟨⟨o, I.kIn p o hk, hc⟩, fun a e => ?_⟩
      cases e
      exact ⟨o, I.kIn _ o hk, hd⟩
    · have z : ∃ o, s.heap.get? p = some o ∧ o.ExactDict := by
        rcases hk with ⟨kvs, hk⟩ | ⟨kvs, hk⟩
        · obtain ⟨_, _, _, _, o, _, _, e, ex, _⟩ := I.hok p _ hk
          exact ⟨o, e, ex⟩
        · obtain ⟨_, _, _, _, o, _, _, e, ex, _⟩ := I.hok p _ hk
          exact ⟨o, e, ex⟩
      obtain ⟨o, e, ex⟩ := z
      refine ⟨⟨o, e, ex.1⟩, fun a e2 => ?_⟩
      cases e2
      exact ⟨o, e, ex.2.1⟩
    · obtain ⟨o, _, _, _, e, ex, _⟩ := I.hok p _ hk
      refine ⟨⟨o, e, ex.1⟩, fun a e2 => ?_⟩
      cases e2
      exact ⟨o, e, ex.2.1⟩
  | _ => exact False.elim ty
def tBM (K : PySem.W.Frag) (T : String) (r : V → List V → Hp → VK → Prop) (to : TE) (t : TA) : TE := fun σ H Q => to σ H fun x H1 => tyV K T x H1 ∧ t σ H1 fun xs H2 => r x xs H2 Q
variable {o e : Expr} {es : List Expr} {to : TE} {t : TA} {name : Str} {apos cpos : Pos} {T id : String} {r : V → List V → Hp → VK → Prop}
theorem pe_bm (pa : PlainAttrs T) (slot : Slot T name id) (hty : typeOf (.builtin id) = pure (.type "method_descriptor")) (hm : MtR X id r) (ho : PE X o to) (ha : PA X (e :: es) t)
    (hbase : attributeBase o name X.env (eval o X.env) = eval o X.env := by rfl)
    (hfew : ((backTo cpos (starEach (e :: es) X.env)).all (fun x => !x.1) && (backToKw cpos (keywordEach [] X.env)).all (fun x => x.1.isSome)
      && decide ((e :: es).length + ([] : List Keyword).length + (if ([] : List Keyword).isEmpty then 0 else 1) < 30)) = true := by rfl)
    (hline : (apos.endLine == cpos.line) = true := by rfl) (hs : starEach (e :: es) X.env = (false, eval e X.env) :: starEach es X.env := by rfl) (hplain : (backTo cpos (starEach es X.env)).any (·.1) = false := by rfl) :
    PE X (.Call (.Attribute o name apos) (e :: es) [] cpos) (tBM X.K T r to t) := by
  intro pins s σ H Q I h
  refine wpAny_Call_method_late hbase hfew hline rfl (thn (ho pins s σ H _ I h) fun v s1 ⟨x, H1, I1, r1, ty, q1⟩ => ?_)
  obtain ⟨h1, h2⟩ := tyV_is I1 r1 ty
  refine ⟨T, id, pa, slot, hty, h1, h2, ?_⟩
  have hA := ha cpos pins s1 σ H1 _ I1 q1
  rw [hs] at hA ⊢
  refine Calls.callWith_builtin (by show (false || (backTo cpos (starEach es X.env)).any (·.1)) = false; rw [hplain] <;> rfl) (Calls.evalArgs_plain ?_)
  exact thn hA fun us s2 ⟨vs, H2, I2, r2, q2⟩ => hm pins s2 σ H2 x vs v us Q I2 r1 r2 q2
/- xs.append(e), list.index on a module's tuple .. are MtR facts of 06m -/
end
end L2
namespace L2
open PySem PySem.Spec PyProof.Rows
def MtM (X : Cx) (id : String) (r : V → List V → Hp → VK → Prop) : Prop :=
  ∀ (pins : List (Addr × Obj)) (s : Shared) (σ : St) (H : Hp) (x : V) (xs : List V) (v : Value) (us : List Value) (Q : VK), Inv X pins σ H s → RelV x v → Vals xs us → r x xs H Q →
    wpAny (model X.prog X.w) X.A (call (.builtin id) (v :: us)) (EP X pins σ Q) X.xe s
theorem Vals.one : ∀ {x : V} {us : List Value}, Vals [x] us → ∃ u, us = [u] ∧ RelV x u
  | _, _, .cons r .nil => ⟨_, rfl, r⟩
theorem Vals.two : ∀ {x y : V} {us : List Value}, Vals [x, y] us → ∃ u v, us = [u, v] ∧ RelV x u ∧ RelV y v
  | _, _, _, .cons r (.cons q .nil) => ⟨_, _, rfl, r, q⟩
section
variable {X : Cx} {pins : List (Addr × Obj)} {σ : St} {H : Hp} {s : Shared} {l b : Addr} {xs ys zs : List V}
theorem Inv.lset {its its' : List Value} {n : Nat} {f : Array Value → Array Value} {t' : Nat} (I : Inv X pins σ H s) (hH : H l = some (.lst xs))
    (e : s.heap.get? l = some { cls := .type "list", data := .seq its.toArray n }) (hf : f its.toArray = its'.toArray) (hv : Vals ys its') (hz : ys.length ≤ sizeLine) :
    Inv X pins σ (upd H l (.lst ys)) { s with heap := s.heap.update l (Obj.mapSeq f), toks := t' } := by
  have q := PySem.IsL.update e f
  rw [hf] at q
  refine I.write (x := l) (e := l) (by rw [hH]; exact trivial) (.inl rfl) (fun b' u hb hu => (Heap.get?_update_other s.heap (Obj.mapSeq f) (Ne.symm hb)).trans hu) ⟨_, q⟩ ?_
  exact ⟨hz, its', _, hv, q⟩
theorem Inv.lstM (I : Inv X pins σ H s) (hH : H l = some (.lst xs)) : xs.length ≤ sizeLine ∧ ∃ (its : List Value) (n : Nat), Vals xs its ∧ xs.length = its.length ∧ s.heap.get? l = some { cls := .type "list", data := .seq its.toArray n } := by
  obtain ⟨z, its, n, r, e⟩ := I.hok l _ hH
  exact ⟨z, its, n, r, r.length, e⟩
theorem notLongL {n : Nat} (h : n ≤ sizeLine) : Builtin.List.listTooLong n = false := by
  unfold Builtin.List.listTooLong
  exact decide_eq_false (by omega)
end
section
variable {X : Cx}
def rAppend : V → List V → Hp → VK → Prop := fun x vs H Q => ∃ l xs y, x = .ref l ∧ vs = [y] ∧ H l = some (.lst xs) ∧ xs.length < sizeLine ∧ Q .non (upd H l (.lst (xs ++ [y])))
theorem mt_append : MtM X "list.append" rAppend := by
  intro pins s σ H x vs v us Q I rx rv h
  obtain ⟨l, xs, y, rfl, rfl, hH, hz, q⟩ := h
  cases rx
  obtain ⟨u, rfl, ru⟩ := rv.one
  obtain ⟨z, its, n, r, hl, e⟩ := I.lstM hH
  refine call_meets F.slot_list_append ⟨_, e, rfl⟩ F.entry_list_append (F.args_list_append_2 _ _) (PySem.list_append l its.toArray n u (by rw [List.size_toArray]; omega)) ⟨e, ?_⟩
  refine ⟨.non, _, I.lset (its' := its ++ [u]) hH e (by simp) (r.append (.cons ru .nil)) ?_, rfl, q⟩
  rw [List.length_append, List.length_singleton]
  omega
def rExtend : V → List V → Hp → VK → Prop := fun x vs H Q => ∃ l b xs zs, x = .ref l ∧ vs = [.ref b] ∧ H l = some (.lst xs) ∧ H b = some (.lst zs) ∧ xs.length + zs.length ≤ sizeLine ∧ Q .non (upd H l (.lst (xs ++ zs)))
theorem mt_extend : MtM X "list.extend" rExtend := by
  intro pins s σ H x vs v us Q I rx rv h
  obtain ⟨l, b, xs, zs, rfl, rfl, hH, hB, hz, q⟩ := h
  cases rx
  obtain ⟨u, rfl, ru⟩ := rv.one
  cases ru
  obtain ⟨z, its, n, r, hl, e⟩ := I.lstM hH
  obtain ⟨z2, its2, n2, r2, hl2, e2⟩ := I.lstM hB
  have hsz : its.toArray.size + its2.toArray.size ≤ sizeLine := by rw [List.size_toArray, List.size_toArray]; omega
  have hlong : ¬ (!its.toArray.isEmpty && Builtin.List.listTooLong (its.toArray.size + its2.toArray.size)) = true := by
    rw [notLongL hsz, Bool.and_false]
    exact Bool.false_ne_true
  refine call_meets F.slot_list_extend ⟨_, e, rfl⟩ F.entry_list_extend (F.args_list_extend_2 _ _)
    (AutoSeq1.list_extend_list_list_0 l its.toArray n b its2.toArray n2 hlong (by rw [List.size_toArray]; omega) (by omega)) ⟨e, e2, ?_⟩
  refine ⟨.non, _, I.lset (its' := its ++ its2) hH e (by simp) (r.append r2) ?_, rfl, q⟩
  rw [List.length_append]
  omega
end
end L2
namespace Att
open PySem PySem.W PySem.Calls PyProof.Rows
theorem ints_of_wellAll {P : Params} {h : Heap} : ∀ (ns : List Int) (vs : List Value), WellAll P h vs (ns.map WData.int) → IntsAre vs ns := by
  intro ns
  induction ns with
  | nil =>
    intro vs w
    rw [List.map_nil] at w
    cases w
    exact .nil
  | cons n ns ih =>
    intro vs w
    rw [List.map_cons] at w
    cases w with
    | cons a b =>
      cases a
      exact .cons _ _ (ih _ b)
theorem script_of {l : OpenLaw} {n : Nat} (hn : l.most = some n) {P : Params} {h : Heap} {args : List WData} {vals : List Value}
    (hpre : l.row.toRowW.claim.pre args = true) (hwl : WellAll P h vals args) :
    ∃ a vs ns, vals = [Value.ref a] ∧ args = [WData.list (ns.map WData.int)] ∧ h.get? a = some { cls := .type "list", data := .seq vs.toArray } ∧ IntsAre vs ns ∧ ns.length ≤ n := by
  have hsh : WShape.hasAll [] args [.list .int] = true := (pre_splitW hpre).1
  have hc : l.pre.holds [] { args := args } = true := (pre_splitW hpre).2
  obtain ⟨d, r, rfl, h1, h2⟩ := hasAllW_cons hsh
  obtain rfl := hasAllW_nil h2
  obtain ⟨xs, rfl, h3⟩ := hasW_list h1
  obtain ⟨ns, rfl⟩ := items_int h3
  have hlen : ns.length ≤ n := by
    unfold OpenLaw.pre at hc
    have h4 : (WTm.not (.lt (.lit (.int (n : Int))) (.len (.arg 0)))).holds [] { args := [.list (ns.map .int)] } = true := by
      have h4 := (holds_andW hc).1
      rw [hn] at h4
      exact h4
    have h5 := condW_of h4 (w_not (w_lt w_lit (w_len_list (w_arg rfl))))
    rw [List.length_map] at h5
    refine Nat.le_of_not_lt fun q => ?_
    have q' : (n : Int) < ((ns.length : Nat) : Int) := by omega
    first
      | (rw [decide_eq_true q'] at h5; exact absurd h5 (by decide))
      | (simp at h5; omega)
  cases hwl with
  | cons w1 w2 =>
    cases w2
    cases w1 with
    | list ho hall => exact ⟨_, _, ns, rfl, rfl, ho, ints_of_wellAll ns _ hall, hlen⟩
theorem post_true (l : OpenLaw) (args : List WData) : l.row.toRowW.claim.post args (.bool true) args = true :=
  postW_of (r := l.row.toRowW) (X := (true == true))
    (show WShape.has [] (.bool true) .bool = true by first | rfl | decide | simp [WShape.has, WShape.arms, WShape.armsAll])
    (show (WTm.eq .res (.lit (.bool true))).value [] { args := args, res := some (.bool true), after := args } = some (.bool (true == true)) from w_eq_bool (w_res rfl) w_lit) rfl
theorem attach_call {l : OpenLaw} {n : Nat} {q : Program} {loose : List Str} {XP : (Str → Option Value) → Heap → Prop} {YP : World → Heap → Prop} {d : DefRec}
    (hn : l.most = some n) (hdf : d.params.defaults = [])
    (call : ∀ (w : World) (s₀ s₁ : Shared) (mg mb : Str → Option Value) (fa : Addr) (o : Obj) (pm cd doc : Value) (a : Addr) (vs : List Value) (ns : List Int),
      Ground q loose [] XP w s₀ mg mb s₁.heap → YP w s₁.heap →
      s₁.heap.get? fa = some o → o.data = .func (docDef d.name d.params d.body d.scope pm cd doc) → s₁.heap.CodeRec cd d.name → mg d.name = some (.ref fa) →
      s₁.heap.get? a = some { cls := .type "list", data := .seq vs.toArray } → IntsAre vs ns → ns.length ≤ n → s₁.gens = #[] →
      codeAny (model l.prog w) callerA (.call (.ref fa) ⟨[.ref a], []⟩) (fun r s' => r = .ok (.ret (.bool true)) ∧ OldK s₁.heap s'.heap ∧ s'.os = s₁.os ∧ AllBare s'.gens) s₁) :
    WalkO q loose XP YP l.row.toRowW d [] (fun f vs => PySem.call f vs) := by
  intro w s₀ s₁ mg mb G Y fa o pm cd doc dV kV ho hd hcd hD hmg hg args vals as hpre hlay hrd hwl hlo
  obtain rfl : dV = .none := Dflts.none hD hdf
  obtain rfl : kV = .none := Dflts.noKw hD
  obtain ⟨a, vs, ns, rfl, rfl, hobj, hints, hlen⟩ := script_of hn hpre hwl
  refine enter_call (codeAny_mono (call w s₀ s₁ mg mb fa o pm cd doc a vs ns G Y ho (fd_plain hd) hcd hmg hobj hints hlen hg) fun r s' hq => ?_)
  obtain ⟨rfl, h2, h3, h4⟩ := hq
  exact ⟨.inl ⟨.bool true, .bool true, [], rfl, fun _ => rfl, .bool true, post_true l _, fun _ => ⟨List.Pairwise.nil, fun _ hm => (nomatch hm)⟩⟩, h2, h3, h4⟩
end Att
namespace L2
open PySem PySem.Spec PyProof.Rows
theorem vals_ints : ∀ {vs : List Value} {ns : List Int}, IntsAre vs ns → Vals (ns.map V.int) vs
  | _, _, .nil => .nil
  | _, _, .cons n t h => .cons ⟨t, rfl⟩ (vals_ints h)
def Only (H : Hp) : Prop := ∀ b, H b = none ∨ ∃ o xs, H b = some (.frz o (.lst xs))
theorem law_call {P : Program} {w : World} {K : PySem.W.Frag} {mg mb : Str → Option Value} {CX : CXT} {k : Nat} {fa a : Addr} {fd : FuncData} {x : Str} {sp : Sp} {s₁ : Shared} {vs : List Value} {ns : List Int}
    (KX : K.In s₁.heap) (hns : s₁.heap.Ns mainGlobals mg) (hb : s₁.heap.Ns builtinsNs mb) (hbb : ∀ x : Str, x ≠ "__name__" → mb x = bootBuiltins x) (hlim : s₁.heap.NoLimit) (hg : s₁.gens = #[])
    (ha : s₁.heap.get? a = some { cls := .type "list", data := .seq vs.toArray }) (hi : IntsAre vs ns) (hl : ns.length ≤ sizeLine) (hr : Room k callerA)
    (F : ∀ base : Heap, K.In base → base.Ns mainGlobals mg → FnOk P w K mg base CX k fa fd [x] sp) (hbind : ∀ (s : Shared) (u : Value), BindsTo s fd ⟨[u], []⟩ [(x, u)])
    (hsp : ∀ H : Hp, Only H → SqL K H a (ns.map V.int) → sp [.ref a] H (fun v _ => v = .bl true) fun _ _ _ => False)
    (hCX : ∀ H e s', CX [] H s₁ (fun _ _ _ => False) e s' → False) :
    codeAny (model P w) callerA (.call (.ref fa) ⟨[.ref a], []⟩) (fun r s' => r = .ok (.ret (.bool true)) ∧ OldK s₁.heap s'.heap ∧ s'.os = s₁.os ∧ AllBare s'.gens) s₁ := by
  have rv := vals_ints hi
  have lenV := hi.length
  have core : ∀ H : Hp, Only H → SqL K H a (ns.map V.int) → HOk P w H s₁.heap → (∀ b, H b ≠ none → b = a) → (H a ≠ none → K.lookup a = none) →
      codeAny (model P w) callerA (.call (.ref fa) ⟨[.ref a], []⟩) (fun r s' => r = .ok (.ret (.bool true)) ∧ OldK s₁.heap s'.heap ∧ s'.os = s₁.os ∧ AllBare s'.gens) s₁ := by
    intro H hO hS hok hA hK
    have base_of : ∀ {b : Addr} {o : Obj}, s₁.heap.get? b = some o → H b = none → (hidT s₁.heap H).get? b = some o := fun e n => hidT_get e n
    have noA : ∀ {b : Addr} {o : Obj} {es : Array DictEntry} {ep : Nat}, s₁.heap.get? b = some o → o.data = .dict es ep → H b = none := fun {b o es ep} e d => by
      cases q : H b with
      | none => rfl
      | some u =>
        have e' : b = a := hA b (by rw [q]; simp)
        subst e'
        rw [ha] at e; cases e
        have d' : Data.seq vs.toArray _ = Data.dict es ep := d
        cases d'
    have nsK : ∀ {b : Addr} {m : Str → Option Value}, s₁.heap.Ns b m → (hidT s₁.heap H).Ns b m := fun {b m} ⟨o, es, ep, e, d, r⟩ => ⟨o, es, ep, base_of e (noA e d), d, r⟩
    have hKb : K.In (hidT s₁.heap H) := fun b o e => base_of (KX b o e) (by
      cases q : H b with
      | none => rfl
      | some u =>
        have e' : b = a := hA b (by rw [q]; simp)
        subst e'
        rw [hK (by rw [q]; simp)] at e; cases e)
    have hM : Mod K mg (hidT s₁.heap H) := ⟨hKb, nsK hns, ⟨mb, nsK hb, hbb⟩, let ⟨mc, h1, h2⟩ := hlim; ⟨mc, nsK h1, h2⟩⟩
    have e0 : Env0 P w K mg (hidT s₁.heap H) callerA [] s₁ H := ⟨rfl, hM, fun b o e => of_hidT e, Nat.le_of_eq (hidT_size _ _), trivial, fun b hb => absurd (show b ∈ ([] : List Addr) from hb) (by simp), hok, .of_eq hg⟩
    refine codeAny_mono ((F _ hKb (nsK hns)).run callerA [] s₁ H ⟨[.ref a], []⟩ [.ref a] [.ref a] _ _ hr e0 (hbind s₁ (.ref a)) (.cons rfl .nil) (hsp H hO hS)) fun r s' h => ?_
    cases r with
    | error e => exact (hCX H e s' h).elim
    | ok fl =>
      cases fl with
      | next => exact False.elim h
      | brk => exact False.elim h
      | cont => exact False.elim h
      | ret u =>
        obtain ⟨v, H', os, bare, un, hok', r', q⟩ := h
        have q' : v = .bl true := q
        subst q'
        obtain rfl : u = Value.bool true := r'
        refine ⟨rfl, OldK.of_keep fun b o e => ?_, os, bare⟩
        cases q : H b with
        | none => exact un.keep b o e q (by intro z; exact absurd (show b ∈ ([] : List Addr) from z) (by simp)) (by simp)
        | some u =>
          rcases hO b with z | ⟨ob, xs, z⟩
          · rw [q] at z; cases z
          · have z2 := un.frzs b ob _ z
            obtain ⟨e1, _⟩ := hok b _ z
            obtain ⟨e2, _⟩ := hok' b _ z2
            rw [e] at e1; cases e1
            exact e2
  cases hk : K.lookup a with
  | some o =>
    have e := KX a o hk
    rw [ha] at e
    cases e
    refine core (fun _ => none) (fun _ => .inl rfl) (.inr ⟨_, vs.toArray, _, hk, rfl, rfl, rfl, by rw [List.size_toArray, lenV]; exact hl, by simpa using rv⟩) (fun b u z => by have z' : (none : Option HO) = some u := z; cases z') (fun b z => absurd rfl z) fun z => absurd rfl z
  | none =>
    refine core (fun b => if b = a then some (.frz { cls := .type "list", data := .seq vs.toArray } (.lst (ns.map V.int))) else none) (fun b => ?_) (.inl (.inr ⟨{ cls := .type "list", data := .seq vs.toArray }, if_pos rfl⟩)) (fun b u z => ?_) (fun b z => ?_) fun _ => hk
    · by_cases hb : b = a
      · exact .inr ⟨_, _, if_pos hb⟩
      · exact .inl (if_neg hb)
    · by_cases hb : b = a
      · have z' := (if_pos hb).symm.trans z
        cases z'
        subst hb
        exact ⟨ha, by rw [List.length_map]; exact hl, vs, _, rv, ha⟩
      · have z' := (if_neg hb).symm.trans z
        cases z'
    · by_cases hb : b = a
      · exact hb
      · exact absurd (if_neg hb) z
end L2
namespace L2
open PySem PySem.Spec PyProof.Rows
abbrev KOf {K : PySem.W.Frag} {h : Heap} (_ : K.In h) : PySem.W.Frag := K
theorem walk_of {l : PySem.W.OpenLaw} {n k : Nat} {q : Program} {loose : List Str} {XP : (Str → Option Value) → Heap → Prop} {YP : World → Heap → Prop} {d : DefRec} {K : Params → PySem.W.Frag} {CX : World → CXT} {sp : World → Sp} {x : Str}
    (hn : l.most = some n) (hn2 : n ≤ sizeLine) (hdf : d.params.defaults = []) (hr : Room k callerA)
    (hY : ∀ (w : World) (h : Heap), YP w h → (K w.params).In h)
    (F : ∀ (w : World) (mg : Str → Option Value) (fa : Addr) (h : Heap), (K w.params).In h → h.Ns mainGlobals mg → mg d.name = some (.ref fa) →
      ∃ fd : FuncData, (∀ (s : Shared) (u : Value), BindsTo s fd ⟨[u], []⟩ [(x, u)]) ∧
        ∀ base : Heap, (K w.params).In base → base.Ns mainGlobals mg → FnOk l.prog w (K w.params) mg base (CX w) k fa fd [x] (sp w))
    (hsp : ∀ (w : World) (H : Hp) (a : Addr) (ns : List Int), ns.length ≤ n → Only H → SqL (K w.params) H a (ns.map V.int) → sp w [.ref a] H (fun v _ => v = .bl true) fun _ _ _ => False)
    (hCX : ∀ (w : World) (H : Hp) (s : Shared) (e : Value) (s' : Shared), CX w [] H s (fun _ _ _ => False) e s' → False) :
    PySem.W.WalkO q loose XP YP l.row.toRowW d [] (fun f vs => PySem.call f vs) := by
  refine Att.attach_call hn hdf fun w s₀ s₁ mg mb fa o pm cd doc a vs ns G Y ho hd hcd hmg hobj hints hlen hg => ?_
  have KX := hY w _ Y
  obtain ⟨fd, hb, hF⟩ := F w mg fa _ KX G.T.g hmg
  exact law_call KX G.T.g G.T.b G.T.builtins G.T.nolimit hg hobj hints (Nat.le_trans hlen hn2) hr hF hb (fun H hO hS => hsp w H a ns hlen hO hS) fun H e s' => hCX w H s₁ e s'
theorem walk_ofK {l : PySem.W.OpenLaw} {n k : Nat} {q : Program} {loose : List Str} {XP : (Str → Option Value) → Heap → Prop} {YP : World → Heap → Prop} {d : DefRec} {K : Params → PySem.W.Frag} {CX : CXT} {sp : PySem.W.Frag → Sp} {x : Str}
    (hn : l.most = some n) (hn2 : n ≤ sizeLine) (hdf : d.params.defaults = []) (hr : Room k callerA)
    (hY : ∀ (w : World) (h : Heap), YP w h → (K w.params).In h)
    (F : ∀ (w : World) (mg : Str → Option Value) (fa : Addr) (h : Heap), (K w.params).In h → h.Ns mainGlobals mg → mg d.name = some (.ref fa) →
      ∃ fd : FuncData, (∀ (s : Shared) (u : Value), BindsTo s fd ⟨[u], []⟩ [(x, u)]) ∧
        ∀ base : Heap, (K w.params).In base → base.Ns mainGlobals mg → FnOk l.prog w (K w.params) mg base CX k fa fd [x] (sp (K w.params)))
    (hsp : ∀ (K : PySem.W.Frag) (H : Hp) (a : Addr) (ns : List Int), ns.length ≤ n → Only H → SqL K H a (ns.map V.int) → sp K [.ref a] H (fun v _ => v = .bl true) fun _ _ _ => False)
    (hCX : ∀ (H : Hp) (s : Shared) (e : Value) (s' : Shared), CX [] H s (fun _ _ _ => False) e s' → False) :
    PySem.W.WalkO q loose XP YP l.row.toRowW d [] (fun f vs => PySem.call f vs) :=
  walk_of (K := K) (CX := fun _ => CX) (sp := fun w => sp (K w.params)) hn hn2 hdf hr hY F (fun w H a ns h1 h2 h3 => hsp (K w.params) H a ns h1 h2 h3) fun _ H s e s' => hCX H s e s'
end L2
/- THE LAST THEOREM (shape; LID, My.* are yours):
   My.Adr: a structure of the addresses that your layer names (classes, functions); My.Txt K t: a structure (Prop) of the equations over K;
   My.txt_mk : {K} {implicit addresses ..} (e1 : nsIn K mainGlobals "law" = some (some (.ref f))) (e2 : K.lookup f = some ⟨oc, od, .func (fnOf "law" "law" params body scope dV kV doc pm an cdv ct), sl⟩) (e3 : codeIn K cdv "law" = true) .. : ∃ t, My.Txt K t
set_option maxRecDepth 100000 in
set_option maxHeartbeats 0 in
theorem PySem.Challenge.cw_LID_holds : PySem.Challenge.rw_LID.Holds := by
  w_on; o_law; k_head; (case hw => w_witness2)
  k_fill
  refine L2.walk_of (l := PySem.Challenge.rw_LID) (n := 63) (k := 40) (x := "script") (CX := fun w => ..) (sp := fun _ => My.sp_law) rfl (by decide) rfl ⟨rfl, by decide, by decide⟩ (fun w h Y => PySem.W.kIn_of Y) ?F ?S ?C
  case F =>
    intro w mg fa h KX G hmg
    have T : ∃ t, My.Txt (L2.KOf KX) t := by
      dsimp only [L2.KOf]                          -- K must stand as «<heap const> w.params» for k_is
      refine' My.txt_mk ?e1 ?e2 ?e3 ..
      (case e1 => PySem.W.k_is)                    -- in the order: a name -> its address -> its object -> its parts
      (case e2 => PySem.W.k_is)
      ..
    obtain ⟨t, T⟩ := T
    have e0 := hmg.symm.trans (PySem.W.mg_of KX G T.law)
    cases e0                                       -- fa is the law's own address
    exact ⟨_, fun s u => .of_eq rfl, fun base kb nb => My.law_fn T kb nb⟩     -- if «.of_eq rfl» comes too early: refine' ⟨_, ?b, fun base kb nb => My.law_fn T kb nb⟩; exact fun s u => .of_eq rfl
  case S => exact fun w H a ns hl hO hS => ..
  case C => exact ..
(the tactic k_is has no namespace: write k_is) -/
namespace L2
open PySem PySem.Spec PyProof.Rows
def defArgs (s : Stmt) : Arguments := match s with
  | .FunctionDef _ a _ _ _ _ _ _ _ _ => a
  | _ => { posonlyargs := [], args := [], vararg := none, kwonlyargs := [], kw_defaults := [], kwarg := none, defaults := [] }
def defBody (s : Stmt) : List Stmt := match s with
  | .FunctionDef _ _ b _ _ _ _ _ _ _ => b
  | _ => []
def defScope (s : Stmt) : Scope := match s with
  | .FunctionDef _ _ _ _ _ _ sc _ _ _ => sc
  | _ => { kind := .function, names := [], isGenerator := false, isCoroutine := false }
abbrev CX0 : CXT := fun _ _ _ _ _ _ => False
abbrev E0 : XK := fun _ _ _ => False
theorem pass0 {X : Cx} : Passes CX0 X E0 := fun _ _ _ _ _ _ _ h => h.elim
structure Fun (K : PySem.W.Frag) (x qual : Str) (st : Stmt) (f : Addr) (fd : FuncData) : Prop where
  ex : ∃ (oc : Value) (od : Option Addr) (kV doc pm : Value) (an : Option Addr) (cdv ct : Value) (osl : Array (Option Value)),
    fd = PySem.W.fnOf x qual (defArgs st) (defBody st) (defScope st) .none kV doc pm an cdv ct ∧ K.lookup f = some ⟨oc, od, .func fd, osl⟩ ∧ PySem.W.codeIn K cdv qual = true
  kp : PySem.W.keepIn K (.ref f) = true
section
variable {P : Program} {w : World} {K : PySem.W.Frag} {mg : Str → Option Value} {base : Heap}
theorem Fun.ok {x qual : Str} {st : Stmt} {f : Addr} {fd : FuncData} {N ps : List Str} {k : Nat} {sp : Sp} (F : Fun K x qual st f fd) (S : FnScope N ps (defScope st)) (len : ∀ vs H Q E, sp vs H Q E → vs.length = ps.length)
    (hbody : ∀ (cdv : Value) (A : Around) (outer : List Env) (s : Shared) (H : Hp) (vs : List V) (Q : VK) (E : XK), Room k (A.deeper (envOfC qual (defScope st) s.heap.objs.size f cdv)) → sp vs H Q E →
      ∃ t, PSs (cxOf CX0 P w K mg base N qual (defScope st) f cdv A outer s H E).nox (defBody st) t ∧ t { nx := fun _ H' => Q .non H', rt := Q } (start N vs) H) : FnOk P w K mg base CX0 (k + 1) f fd ps sp := by
  obtain ⟨oc, od, kV, doc, pm, an, cdv, ct, osl, rfl, lk, hcd⟩ := F.ex
  refine fn_of lk hcd S len fun A outer s H vs Q E hr hsp => ?_
  obtain ⟨t, h, q⟩ := hbody cdv A outer s H vs Q E hr hsp
  exact ⟨t, h.nox, q⟩
theorem Fun.binds {x qual : Str} {st : Stmt} {f : Addr} {fd : FuncData} {ps : List Str} (F : Fun K x qual st f fd)
    (h : ∀ (kV doc pm : Value) (an : Option Addr) (cdv ct : Value) (us : List Value), us.length = ps.length → bindArgs (PySem.W.fnOf x qual (defArgs st) (defBody st) (defScope st) .none kV doc pm an cdv ct) ⟨us, []⟩ = pure (ps.zip us)) : Binds K fd ps [] := by
  obtain ⟨oc, od, kV, doc, pm, an, cdv, ct, osl, rfl, lk, hcd⟩ := F.ex
  exact .all (h kV doc pm an cdv ct)
theorem fun_mk {x qual : Str} {st : Stmt} {f : Addr} {oc : Value} {od an : Option Addr} {osl : Array (Option Value)} {kV doc pm cdv ct : Value} (l : K.lookup f = some ⟨oc, od, .func (PySem.W.fnOf x qual (defArgs st) (defBody st) (defScope st) .none kV doc pm an cdv ct), osl⟩)
    (c : PySem.W.codeIn K cdv qual = true) (k : PySem.W.keepIn K (.ref f) = true) : Fun K x qual st f (PySem.W.fnOf x qual (defArgs st) (defBody st) (defScope st) .none kV doc pm an cdv ct) := ⟨⟨oc, od, kV, doc, pm, an, cdv, ct, osl, rfl, l, c⟩, k⟩
end
theorem small1000 {n : Nat} (h : n ≤ 1000) : n < sizeLine := Nat.lt_of_le_of_lt h (by decide)
section
variable {X : Cx}
theorem pv (i : Nat) {x : Str} {pos : Pos} (hN : X.N[i]? = some x := by rfl) (hv : Vis X.env.scope x := by first | exact Or.inl rfl | exact Or.inr (Or.inl rfl) | exact Or.inr (Or.inr rfl)) (hd : (x == ("__debug__" : Str)) = false := by decide)
    (hcd : (x == ("__classdict__" : Str)) = false := by decide) : PE X (.Name x pos) (tVar i) := pe_var hN hv hd hcd
end
theorem iteF {A B : Prop} (h : B) : if false = true then A else B := by
  rw [if_neg Bool.false_ne_true]
  exact h
theorem iteT {A B : Prop} (h : A) : if true = true then A else B := by
  rw [if_pos rfl]
  exact h
theorem ite2 {c A B : Prop} [Decidable c] (h1 : c → A) (h2 : ¬ c → B) : if c then A else B := by
  by_cases h : c
  · rw [if_pos h]
    exact h1 h
  · rw [if_neg h]
    exact h2 h
def Same (H H' : Hp) : Prop := ∀ b o, H b = some o → H' b = some o
theorem Same.refl (H : Hp) : Same H H := fun _ _ h => h
theorem Same.trans {H H1 H2 : Hp} (a : Same H H1) (b : Same H1 H2) : Same H H2 := fun c o h => b c o (a c o h)
theorem Same.free {H H' : Hp} (e : Same H H') {l : Addr} (h : H' l = Option.none) : H l = Option.none := by
  cases q : H l with
  | none => rfl
  | some o =>
    rw [e l o q] at h
    cases h
theorem Same.seq {K : PySem.W.Frag} {H H' : Hp} {a : Addr} {xs : List V} (e : Same H H') (h : SqL K H a xs) : SqL K H' a xs := by
  rcases h with (h | ⟨o, h⟩) | h
  · exact .inl (.inl (e _ _ h))
  · exact .inl (.inr ⟨o, e _ _ h⟩)
  · exact .inr h
end L2
set_option maxHeartbeats 8000000
namespace L2
open PySem PySem.Spec PyProof.Rows
section
variable {X : Cx} {pins : List (Addr × Obj)} {σ : St} {H : Hp} {s : Shared}
theorem HOk.track {P : Program} {w : World} {H : Hp} {h : Heap} {a : Addr} {o : HO} (x : HOk P w H h) (hn : H a = none) (new : ObjOk P w (upd H a o) h a o) : HOk P w (upd H a o) h := fun b u e => by
  by_cases hb : b = a
  · subst hb
    rw [upd_same] at e
    cases e
    exact new
  · rw [upd_ne hb] at e
    refine (x b u e).stay (fun _ _ _ q => q) (fun c q => ?_) (fun c xs q => ?_) fun c ob v q => ?_
    · rw [upd_ne (ne_of_none q hn)]; exact q
    · rw [upd_ne (ne_of_none q hn)]; exact q
    · rw [upd_ne (ne_of_none q hn)]; exact q
theorem Inv.track {a : Addr} {o : HO} (I : Inv X pins σ H s) (hn : H a = none) (hL : a ≠ X.env.locals) (h0 : X.s₀.heap.objs.size ≤ a) (hc : ∀ x c, X.env.cells.lookup x = some c → c ≠ a) (hp : ∀ p ∈ X.pn ++ pins, p.1 ≠ a)
    (new : ObjOk X.prog X.w (upd H a o) s.heap a o) : Inv X pins σ (upd H a o) s := by
  have old : ∀ b ob, X.s₀.heap.get? b = some ob → b ≠ a := fun b ob e => Nat.ne_of_lt (Nat.lt_of_lt_of_le (Heap.lt_size e) h0)
  refine ⟨I.ok, I.os, I.bare, ⟨fun b ob e n => I.base.keep b ob e n, fun b ob e n => I.base.slot b ob e n, fun b ob e n hx => ?_, fun b ob e hx => I.base.there b ob e hx, fun b xs e => ?_, fun b ob u e => ?_, fun b ps e => ?_⟩, I.loc, I.cell, ?_, fun x c e => ?_, fun p hm => ?_, I.hok.track hn new, I.len⟩
  · rw [upd_ne (old b ob e)]; exact I.base.free b ob e n hx
  · have q := I.base.tups b xs e
    rw [upd_ne (ne_of_none q hn)]; exact q
  · have q := I.base.frzs b ob u e
    rw [upd_ne (ne_of_none q hn)]; exact q
  · obtain ⟨mo, q⟩ := I.base.tbls b ps e
    exact ⟨mo, by rw [upd_ne (ne_of_none q hn)]; exact q⟩
  · rw [upd_ne (Ne.symm hL)]; exact I.free
  · rw [upd_ne (hc x c e)]; exact I.freeC x c e
  · obtain ⟨z1, z2, z3⟩ := I.pin p hm
    exact ⟨z1, by rw [upd_ne (hp p hm)]; exact z2, z3⟩
end
def clo : List (Str × NameKind) → List (Str × Addr) → List (Str × Addr) → List (Str × Addr)
  | [], _, acc => acc
  | (n, k) :: r, cells, acc => clo r cells (if k == .free then (match cells.lookup n with | some c => (n, c) :: acc | none => acc) else acc)
theorem clo_sound (cells : List (Str × Addr)) : ∀ (names : List (Str × NameKind)) (acc : List (Str × Addr)), (∀ y c, acc.lookup y = some c → cells.lookup y = some c) → ∀ y c, (clo names cells acc).lookup y = some c → cells.lookup y = some c
  | [], acc, h => h
  | (n, k) :: r, acc, h => by
    refine clo_sound cells r _ fun y c e => ?_
    cases hk : k == NameKind.free with
    | false => rw [hk] at e; exact h y c e
    | true =>
      rw [hk, if_pos rfl] at e
      cases hc : cells.lookup n with
      | none => rw [hc] at e; exact h y c e
      | some a =>
        rw [hc] at e
        have e' : (((n, a) :: acc).lookup y) = some c := e
        rw [List.lookup_cons] at e'
        cases hy : y == n with
        | true =>
          rw [hy] at e'
          have z : y = n := by simpa using hy
          subst z
          rw [hc]; exact e'
        | false => rw [hy] at e'; exact h y c e'
theorem clo_keeps (cells : List (Str × Addr)) : ∀ (names : List (Str × NameKind)) (acc : List (Str × Addr)) (y : Str), (acc.lookup y).isSome = true → ((clo names cells acc).lookup y).isSome = true
  | [], _, _, h => h
  | (n, k) :: r, acc, y, h => by
    refine clo_keeps cells r _ y ?_
    cases hk : k == NameKind.free with
    | false => exact h
    | true =>
      rw [if_pos rfl]
      cases hc : cells.lookup n with
      | none => exact h
      | some a =>
        show (((n, a) :: acc).lookup y).isSome = true
        rw [List.lookup_cons]
        cases hy : y == n with
        | true => rfl
        | false => exact h
theorem clo_has (cells : List (Str × Addr)) : ∀ (names : List (Str × NameKind)) (acc : List (Str × Addr)) (y : Str), (y, NameKind.free) ∈ names → (cells.lookup y).isSome = true → ((clo names cells acc).lookup y).isSome = true
  | [], _, _, h, _ => by cases h
  | (n, k) :: r, acc, y, h, hs => by
    rcases List.mem_cons.mp h with e | h
    · cases e
      refine clo_keeps cells r _ n ?_
      show (((match cells.lookup n with | some c => (n, c) :: acc | none => acc)).lookup n).isSome = true
      cases hc : cells.lookup n with
      | none => rw [hc] at hs; cases hs
      | some a =>
        show (((n, a) :: acc).lookup n).isSome = true
        rw [List.lookup_cons]
        simp
    · exact clo_has cells r _ y h hs
theorem clo_run {env : Env} : ∀ (names : List (Str × NameKind)) (acc : List (Str × Addr)), (∀ y, (y, NameKind.free) ∈ names → (env.cells.lookup y).isSome = true) →
    (forIn names acc fun (x : Str × NameKind) (cs : List (Str × Addr)) => if (x.2 == NameKind.free) = true then do let c ← cellOf env x.1; pure (ForInStep.yield ((x.1, c) :: cs)) else pure (ForInStep.yield cs) : Sem (List (Str × Addr))) = pure (clo names env.cells acc)
  | [], acc, _ => rfl
  | (n, k) :: r, acc, h => by
    have ih := fun acc' => clo_run (env := env) r acc' fun y hy => h y (List.mem_cons_of_mem _ hy)
    rw [List.forIn_cons]
    cases hk : k == NameKind.free with
    | false =>
      show ((pure (ForInStep.yield acc) : Sem _) >>= _) = _
      rw [pure_bind]
      show (forIn r acc _ : Sem _) = _
      rw [ih acc]
      show pure (clo r env.cells acc) = pure (clo r env.cells (if (k == NameKind.free) = true then (match env.cells.lookup n with | some c => (n, c) :: acc | none => acc) else acc))
      rw [hk]; rfl
    | true =>
      have hkf : k = NameKind.free := by simpa using hk
      subst hkf
      have hs := h n List.mem_cons_self
      cases hc : env.cells.lookup n with
      | none => rw [hc] at hs; cases hs
      | some a =>
        have hcell : cellOf env n = pure a := by unfold cellOf; rw [hc]
        show ((cellOf env n >>= fun c => (pure (ForInStep.yield ((n, c) :: acc)) : Sem _)) >>= _) = _
        rw [hcell, pure_bind, pure_bind]
        show (forIn r ((n, a) :: acc) _ : Sem _) = _
        rw [ih]
        show pure (clo r env.cells ((n, a) :: acc)) = pure (clo r env.cells (match env.cells.lookup n with | some c => (n, c) :: acc | none => acc))
        rw [hc]
theorem closure_eq {sc : Scope} {env : Env} (h : ∀ y, (y, NameKind.free) ∈ sc.names → (env.cells.lookup y).isSome = true) : closureFor sc env = pure (clo sc.names env.cells []) := by
  unfold closureFor
  have := clo_run (env := env) sc.names [] h
  simpa using this
structure LcOk (osc sc : Scope) (x : Str) (fv : List Str) : Prop where
  kind : sc.kind = .function
  nocell : ∀ y ∈ sc.names, y.2 ≠ .cell
  names : ∀ y ∈ sc.names, y.2 = .local → sc.names.lookup y.1 = some .local
  hx : sc.names.lookup x = some .local
  fr : ∀ y ∈ sc.names, y.2 = .free → osc.names.lookup y.1 = some .cell ∨ osc.names.lookup y.1 = some .free
  fvs : ∀ y ∈ fv, sc.names.lookup y = some .free ∧ (osc.names.lookup y = some .cell ∨ osc.names.lookup y = some .free)
  nd : (x :: fv).Nodup
abbrev Cx.blk (X : Cx) (sc : Scope) (cl : List (Str × Addr)) (C : Addr) (N : List Str) (s : Shared) (H : Hp) (fp : List Addr) : Cx :=
  { X with N := N, s₀ := s, H₀ := H, env := compEnvC sc cl C X.env, outer := X.stack, ex := fp, fn := fun _ => false, pn := [], xe := fun _ _ => False }
abbrev lcN (X : Cx) (x : Str) (js : List Nat) : List Str := x :: js.map fun j => X.N.getD j ""
abbrev lcS (σ : St) (js : List Nat) (x : Option V) : St := x :: js.map fun j => σ.getD j none
theorem relabel_free {env : Env} : ∀ {names : List (Str × NameKind)} {y : Str} {k : NameKind}, (names.map fun (n, k) => if (k == NameKind.free && env.scope.kind == .function && env.kindOf n == some .cell) then (n, NameKind.cell) else (n, k)).lookup y = some k → (k = .cell ∨ k = .free) → (∀ z ∈ names, z.2 ≠ .cell) → (y, NameKind.free) ∈ names
  | [], _, _, h, _, _ => by simp at h
  | (n, k') :: r, y, k, h, hk, hn => by
    by_cases hc : (k' == NameKind.free && env.scope.kind == .function && env.kindOf n == some .cell) = true
    · have hk' : k' = NameKind.free := by
        rw [Bool.and_eq_true, Bool.and_eq_true] at hc
        simpa using hc.1.1
      subst hk'
      rw [List.map_cons] at h
      cases hy : y == n with
      | true =>
        have z : y = n := by simpa using hy
        subst z
        exact List.mem_cons_self
      | false =>
        have h' : List.lookup y ((if (NameKind.free == NameKind.free && env.scope.kind == .function && env.kindOf n == some .cell) = true then (n, NameKind.cell) else (n, NameKind.free)) :: (r.map fun (n, k) => if (k == NameKind.free && env.scope.kind == .function && env.kindOf n == some .cell) then (n, NameKind.cell) else (n, k))) = some k := h
        rw [if_pos hc, List.lookup_cons, hy] at h'
        exact List.mem_cons_of_mem _ (relabel_free h' hk fun z hz => hn z (List.mem_cons_of_mem _ hz))
    · have h' : List.lookup y ((if (k' == NameKind.free && env.scope.kind == .function && env.kindOf n == some .cell) = true then (n, NameKind.cell) else (n, k')) :: (r.map fun (n, k) => if (k == NameKind.free && env.scope.kind == .function && env.kindOf n == some .cell) then (n, NameKind.cell) else (n, k))) = some k := h
      rw [if_neg hc, List.lookup_cons] at h'
      cases hy : y == n with
      | true =>
        rw [hy] at h'
        cases h'
        have z : y = n := by simpa using hy
        subst z
        rcases hk with e | e
        · exact absurd e (hn _ List.mem_cons_self)
        · subst e; exact List.mem_cons_self
      | false =>
        rw [hy] at h'
        exact List.mem_cons_of_mem _ (relabel_free h' hk fun z hz => hn z (List.mem_cons_of_mem _ hz))
theorem relabel_fv {env : Env} : ∀ {names : List (Str × NameKind)} {y : Str}, names.lookup y = some .free → (names.map fun (n, k) => if (k == NameKind.free && env.scope.kind == .function && env.kindOf n == some .cell) then (n, NameKind.cell) else (n, k)).lookup y = some .cell ∨ (names.map fun (n, k) => if (k == NameKind.free && env.scope.kind == .function && env.kindOf n == some .cell) then (n, NameKind.cell) else (n, k)).lookup y = some .free
  | [], _, h => by simp at h
  | (n, k') :: r, y, h => by
    rw [List.lookup_cons] at h
    rw [List.map_cons]
    cases hy : y == n with
    | true =>
      rw [hy] at h
      cases h
      by_cases hc : (NameKind.free == NameKind.free && env.scope.kind == .function && env.kindOf n == some .cell) = true
      · refine .inl ?_
        show List.lookup y ((if (NameKind.free == NameKind.free && env.scope.kind == .function && env.kindOf n == some .cell) = true then (n, NameKind.cell) else (n, NameKind.free)) :: _) = _
        rw [if_pos hc, List.lookup_cons, hy]
      · refine .inr ?_
        show List.lookup y ((if (NameKind.free == NameKind.free && env.scope.kind == .function && env.kindOf n == some .cell) = true then (n, NameKind.cell) else (n, NameKind.free)) :: _) = _
        rw [if_neg hc, List.lookup_cons, hy]
    | false =>
      rw [hy] at h
      have ih := relabel_fv (env := env) h
      by_cases hc : (k' == NameKind.free && env.scope.kind == .function && env.kindOf n == some .cell) = true
      · show List.lookup y ((if (k' == NameKind.free && env.scope.kind == .function && env.kindOf n == some .cell) = true then (n, NameKind.cell) else (n, k')) :: _) = _ ∨ List.lookup y ((if (k' == NameKind.free && env.scope.kind == .function && env.kindOf n == some .cell) = true then (n, NameKind.cell) else (n, k')) :: _) = _
        rw [if_pos hc, List.lookup_cons, hy]
        exact ih
      · show List.lookup y ((if (k' == NameKind.free && env.scope.kind == .function && env.kindOf n == some .cell) = true then (n, NameKind.cell) else (n, k')) :: _) = _ ∨ List.lookup y ((if (k' == NameKind.free && env.scope.kind == .function && env.kindOf n == some .cell) = true then (n, NameKind.cell) else (n, k')) :: _) = _
        rw [if_neg hc, List.lookup_cons, hy]
        exact ih
end L2
namespace L2
open PySem PySem.Spec PyProof.Rows
abbrev lstObj (its : List Value) (n : Nat) : Obj := { cls := .type "list", data := .seq its.toArray n }
abbrev lcTests (ifs : List Expr) (env : Env) : Sem Bool :=
  forIn ifs true fun c r => if r = true then do let ok ← isTrue c env (eval c env); pure (ForInStep.yield ok) else pure (ForInStep.yield r)
def tLC (wi : TI) (js : List Nat) (tt : TT) (te : TE) : TE := fun σ H Q => wi σ H fun J H1 => ∃ W : Nat → Nat → List V → Hp → Prop, (∃ m, W 0 m [] H1) ∧ ∀ i m ys H, W i m ys H →
  (J.stop i H ∧ ∀ p, H p = none → Q (.ref p) (upd H p (.lst ys))) ∨
  (J.go i H ∧ ys.length < sizeLine ∧ ∀ x H', J.yld i H x H' → tt (lcS σ js (some x)) H' fun b H2 =>
    if b = true then te (lcS σ js (some x)) H2 fun v H3 => ∃ m', m' < m ∧ W (i + 1) m' (ys ++ [v]) H3 else ∃ m', m' < m ∧ W (i + 1) m' ys H2)
section
variable {X : Cx} {sc osc : Scope} {x : Str} {js : List Nat} {elt iter : Expr} {px pos : Pos} {ifs : List Expr} {wi : TI} {tt : TT} {te : TE}
theorem lc_loop {P : Program} {w : World} {A : Around} {R : Result → Shared → Prop} {st : Shared} {tg it acc} {cenv : Env} (Iv : Nat → Shared → Prop)
    (step : ∀ k st, Iv k st → wpAny (model P w) A (pyNext it) (fun got s1 => match got with
      | none => R (.ok .next) s1
      | some v => wpAny (model P w) A (letOwnedTupleGo tg it v) (fun _ s2 => wpAny (model P w) A (assign tg cenv v) (fun _ s3 =>
          wpAny (model P w) A (lcTests ifs cenv) (fun ok s4 => if ok = true then wpAny (model P w) A (eval elt cenv) (fun y s5 =>
              wpAny (model P w) A (call (.builtin "list.append") [acc, y]) (fun _ s6 => ∃ k', k' < k ∧ Iv k' s6) (notedBy (model P w) A cenv fun e z => R (.error e) z) s5) (notedBy (model P w) A cenv fun e z => R (.error e) z) s4
            else ∃ k', k' < k ∧ Iv k' s4) (notedBy (model P w) A cenv fun e z => R (.error e) z) s3) (notedBy (model P w) A cenv fun e z => R (.error e) z) s2) (notedBy (model P w) A cenv fun e z => R (.error e) z) s1)
      (notedBy (model P w) A cenv fun e z => R (.error e) z) st) (k0 : Nat) (h0 : Iv k0 st) :
    codeAny (model P w) A (.compLoop (.ListComp elt [⟨tg, iter, ifs, 0⟩] sc pos) 0 it acc cenv) R st := by
  refine codeAny_loop rfl Iv (fun k st hk => ?_) k0 h0
  show wpAny _ A ((compTurn (.ListComp elt [⟨tg, iter, ifs, 0⟩] sc pos) 0 it acc cenv).onRaise (fun e => do noteFrame e cenv; theTreesLotGoes e)) _ _ st
  refine wpAny_noted ?_
  rw [compTurn_list]
  refine wpAny_bind (wpAny_standAt (wpAny_bind (wpAny_mono (step k st hk) (fun got s1 h1 => ?_) fun _ _ z => z)))
  cases got with
  | none => exact wpAny_pure h1
  | some v =>
    refine wpAny_bind (wpAny_mono h1 (fun _ s2 h2 => ?_) fun _ _ z => z)
    refine wpAny_bind (wpAny_mono h2 (fun _ s3 h3 => wpAny_bind (wpAny_mono h3 (fun ok s4 h4 => ?_) fun _ _ z => z)) fun _ _ z => z)
    cases ok with
    | false => exact wpAny_pure ⟨rfl, h4⟩
    | true => exact wpAny_bind (wpAny_bind (wpAny_mono h4 (fun y s5 h5 => wpAny_bind (wpAny_mono h5 (fun _ s6 h6 => wpAny_pure (wpAny_pure ⟨rfl, h6⟩)) fun _ _ z => z)) fun _ _ z => z))
structure Own (X : Cx) (pins : List (Addr × Obj)) (H : Hp) (a : Addr) : Prop where
  free : H a = none
  loc : a ≠ X.env.locals
  new : X.s₀.heap.objs.size ≤ a
  cel : ∀ x c, X.env.cells.lookup x = some c → c ≠ a
  pin : ∀ p ∈ X.pn ++ pins, p.1 ≠ a
  fs : a ∉ X.fs
end
structure LcOkG (osc sc : Scope) (xs : List Str) (fv : List Str) : Prop where
  kind : sc.kind = .function
  nocell : ∀ y ∈ sc.names, y.2 ≠ .cell
  names : ∀ y ∈ sc.names, y.2 = .local → sc.names.lookup y.1 = some .local
  fr : ∀ y ∈ sc.names, y.2 = .free → osc.names.lookup y.1 = some .cell ∨ osc.names.lookup y.1 = some .free
  fvs : ∀ y ∈ fv, sc.names.lookup y = some .free ∧ (osc.names.lookup y = some .cell ∨ osc.names.lookup y = some .free)
abbrev lcG (X : Cx) (xs : List Str) (js : List Nat) : List Str := xs ++ js.map fun j => X.N.getD j ""
abbrev lcT (σ : St) (js : List Nat) (os : List (Option V)) : St := os ++ js.map fun j => σ.getD j none
section
variable {X : Cx} {sc osc : Scope} {xs : List Str} {js : List Nat}
theorem blk_okG {pins : List (Addr × Obj)} {σ : St} {H : Hp} {s : Shared} {fp : List Addr} {C : Addr} (I : Inv X pins σ H s) (hosc : X.env.scope = osc) (L : LcOkG osc sc xs (js.map fun j => X.N.getD j ""))
    (f2 : ∀ b ∈ fp, FpOk X pins H b) (lt : ∀ b ∈ fp, b < s.heap.objs.size) (hC : s.heap.objs.size ≤ C) : (X.blk sc (clo sc.names X.env.cells []) C (lcG X xs js) s H fp).Ok where
  mod := I.ok.mod
  kind := L.kind
  glob := I.ok.glob
  blt := I.ok.blt
  above := hC
  inj := fun y z c h1 h2 => I.ok.inj y z c (clo_sound _ _ [] (fun _ _ e => by simp at e) y c h1) (clo_sound _ _ [] (fun _ _ e => by simp at e) z c h2)
  has := fun y hy => by
    have hy' : (relabel sc X.env).names.lookup y = some .cell ∨ (relabel sc X.env).names.lookup y = some .free := hy
    have hm : (y, NameKind.free) ∈ sc.names := by
      rcases hy' with e | e
      · exact relabel_free e (.inl rfl) L.nocell
      · exact relabel_free e (.inr rfl) L.nocell
    have ho : X.env.kindOf y = some .cell ∨ X.env.kindOf y = some .free := by
      show X.env.scope.names.lookup y = _ ∨ X.env.scope.names.lookup y = _
      rw [hosc]
      exact L.fr _ hm rfl
    obtain ⟨c, e⟩ := I.ok.has y ho
    exact Option.isSome_iff_exists.mp (clo_has _ _ [] y hm (by rw [e]; rfl))
  cab := fun y c h => by cases h
  hd := I.ok.hd
  frames := I.ok.frames
  stk := .inl rfl
  exf := fun b hb => ⟨Nat.ne_of_lt (Nat.lt_of_lt_of_le (lt b hb) hC), fun y c e => (f2 b hb).2.2.2.2.1 y c (clo_sound _ _ [] (fun _ _ e => by simp at e) y c e)⟩
  bs := I.bs
  bsz := Nat.le_trans I.ok.bsz I.sz
  noex := fun b o e hb => by
    rcases (f2 b hb).2.2.2.1 with z | z
    · exact I.ok.noex b o e z
    · exact absurd (Nat.lt_of_lt_of_le (Heap.lt_size (I.ok.bs b o e).1) z) (Nat.lt_irrefl _)
  exfs := fun b hb hm => by
    rcases List.mem_cons.mp (I.stkSub b hm) with z | z
    · exact (f2 b hb).2.1 z
    · exact (f2 b hb).2.2.1 z
  funs := I.stack
  frf := I.stkFree
end
section
variable {X : Cx} {sc osc : Scope} {xs : List Str} {js : List Nat} {tg : Expr} {g : TG} {elt iter : Expr} {px pos : Pos} {ifs : List Expr} {wi : TI} {tt : TT} {te : TE}
theorem lc_turnG {cl : List (Str × Addr)} {C D : Addr} {s₂ : Shared} {H₂ : Hp} {fp : List Addr} {pl : List (Addr × Obj)} {σ0 : St} {H : Hp} {s : Shared} {u : Value} {v : V} {its : List Value} {n : Nat} {o0 : List (Option V)} {E : Value → Shared → Prop}
    {Ny : V → Hp → Prop} {Nn : Hp → Prop}
    (hg : PG (X.blk sc cl C (lcG X xs js) s₂ H₂ fp) tg g)
    (I : Inv (X.blk sc cl C (lcG X xs js) s₂ H₂ fp) ((D, lstObj its n) :: pl) (lcT σ0 js o0) H s) (ru : RelV v u)
    (ht : ∀ (pins : List (Addr × Obj)) (s' : Shared) (σ' : St) (H' : Hp) (Q : Bool → Hp → Prop), Inv (X.blk sc cl C (lcG X xs js) s₂ H₂ fp) pins σ' H' s' → tt σ' H' Q →
      wpAny (model X.prog X.w) X.A (lcTests ifs (compEnvC sc cl C X.env)) (TP (X.blk sc cl C (lcG X xs js) s₂ H₂ fp) pins σ' Q) (fun _ _ => False) s')
    (he : PE (X.blk sc cl C (lcG X xs js) s₂ H₂ fp) elt te)
    (hlen : its.length < sizeLine) (hD0 : s₂.heap.objs.size ≤ D) (hDC : D ≠ C) (hDc : ∀ y c, cl.lookup y = some c → c ≠ D) (hDp : ∀ p ∈ pl, p.1 ≠ D)
    (h : g v (lcT σ0 js o0) H fun σ2 H1 => ∃ o1, σ2 = lcT σ0 js o1 ∧ o1.length = xs.length ∧ tt σ2 H1 fun b H2 => if b = true then te σ2 H2 Ny else Nn H2) :
    wpAny (model X.prog X.w) X.A (assign tg (compEnvC sc cl C X.env) u) (fun _ s2 =>
      wpAny (model X.prog X.w) X.A (lcTests ifs (compEnvC sc cl C X.env)) (fun ok s3 =>
        if ok = true then wpAny (model X.prog X.w) X.A (eval elt (compEnvC sc cl C X.env)) (fun y s4 =>
          wpAny (model X.prog X.w) X.A (call (.builtin "list.append") [.ref D, y]) (fun _ s5 => ∃ z y' H5 o1, o1.length = xs.length ∧ Ny z H5 ∧ RelV z y' ∧ Inv (X.blk sc cl C (lcG X xs js) s₂ H₂ fp) ((D, lstObj (its ++ [y']) (n + 1)) :: pl) (lcT σ0 js o1) H5 s5) E s4) E s3
        else ∃ H5 o1, o1.length = xs.length ∧ Nn H5 ∧ Inv (X.blk sc cl C (lcG X xs js) s₂ H₂ fp) ((D, lstObj its n) :: pl) (lcT σ0 js o1) H5 s3) E s2) E s := by
  refine wpAny_mono (hg _ s _ H v u _ I ru h) (fun _ s2 ⟨σ6, H6, I6, o1, e1, l1, h6⟩ => ?_) fun _ _ z => False.elim z
  subst e1
  refine wpAny_mono (ht _ s2 _ _ _ I6 h6) (fun ok s3 ⟨H7, I7, q7⟩ => ?_) fun _ _ z => False.elim z
  cases ok with
  | false =>
    rw [if_neg Bool.false_ne_true] at q7 ⊢
    exact ⟨H7, o1, l1, q7, I7⟩
  | true =>
    rw [if_pos rfl] at q7 ⊢
    refine wpAny_mono (he _ s3 _ H7 _ I7 q7) (fun y s4 ⟨z, H8, I8, r8, q8⟩ => ?_) fun _ _ z => False.elim z
    obtain ⟨p1, p2, p3, p4, p5⟩ := I8.pin (D, lstObj its n) (List.mem_append_right _ List.mem_cons_self)
    have p1' : s4.heap.get? D = some { cls := .type "list", data := .seq its.toArray n } := p1
    refine call_meets F.slot_list_append ⟨_, p1', rfl⟩ F.entry_list_append (F.args_list_append_2 _ _) (PySem.list_append D its.toArray n y (by rw [List.size_toArray]; omega)) ⟨p1', ?_⟩
    have q := PySem.IsL.update p1' (fun a => a.push y)
    have sz : ((its.toArray.push y).size == its.toArray.size) = false := by simp
    have e3 : (s4.heap.update D (Obj.mapSeq fun a => a.push y)).get? D = some (lstObj (its ++ [y]) (n + 1)) := by
      have q' : (s4.heap.update D (Obj.mapSeq fun a => a.push y)).get? D = some { cls := .type "list", data := .seq (its.toArray.push y) (if ((its.toArray.push y).size == its.toArray.size) = true then n else n + 1) } := q
      rw [q', sz, if_neg Bool.false_ne_true]
      simp
    have I9 : Inv (X.blk sc cl C (lcG X xs js) s₂ H₂ fp) pl (lcT σ0 js o1) H8 s4 := I8.pins_of fun p hp => I8.pin p (List.mem_append_right _ (List.mem_cons_of_mem _ hp))
    have oth : ∀ b o, b ≠ D → s4.heap.get? b = some o → (s4.heap.update D (Obj.mapSeq fun a => a.push y)).get? b = some o := fun b o hb e => (Heap.get?_update_other _ _ (Ne.symm hb)).trans e
    have I10 := I9.turned (t' := s4.toks) (h' := s4.heap.update D (Obj.mapSeq fun a => a.push y)) (it := D) oth p2 hDC (.inr hD0) hDc (fun p hp => hDp p hp)
    refine ⟨z, y, H8, o1, l1, q8, r8, I10.pins_of fun p hp => ?_⟩
    rcases List.mem_cons.mp hp with e | e
    · subst e
      exact ⟨e3, p2, p3, p4, fun w hw => by cases hw⟩
    · exact I10.pin p (List.mem_append_right _ e)
theorem lc_coreG {use : Option (Value → Sem Unit)} {QQ : Value → Shared → Prop} {Fin : List V → Hp → Prop} {pins : List (Addr × Obj)} {s : Shared} {σ : St} {H : Hp} (hosc : X.env.scope = osc) (L : LcOkG osc sc xs (js.map fun j => X.N.getD j "")) {rd : Cx → Prop} (hc : ∀ sc cl C N s H fp, rd (X.blk sc cl C N s H fp)) (hi : PIr rd X tg iter wi) (hg : ∀ (cl : List (Str × Addr)) (C : Addr) (s₂ : Shared) (H₂ : Hp) (fp : List Addr), PG (X.blk sc cl C (lcG X xs js) s₂ H₂ fp) tg g) (hjs : ∀ j ∈ js, j < X.N.length)
    (ht : ∀ (cl : List (Str × Addr)) (C : Addr) (s₂ : Shared) (H₂ : Hp) (fp : List Addr) (pins : List (Addr × Obj)) (s' : Shared) (σ' : St) (H' : Hp) (Q : Bool → Hp → Prop), Inv (X.blk sc cl C (lcG X xs js) s₂ H₂ fp) pins σ' H' s' → tt σ' H' Q →
      wpAny (model X.prog X.w) X.A (lcTests ifs (compEnvC sc cl C X.env)) (TP (X.blk sc cl C (lcG X xs js) s₂ H₂ fp) pins σ' Q) (fun _ _ => False) s')
    (he : ∀ (cl : List (Str × Addr)) (C : Addr) (s₂ : Shared) (H₂ : Hp) (fp : List Addr), PE (X.blk sc cl C (lcG X xs js) s₂ H₂ fp) elt te)
    (hs : ∀ x, foldedSetIterable iter X.env x = pure x) (I : Inv X pins σ H s)
    (h : wi σ H fun J H1 => ∃ W : Nat → Nat → List V → Hp → Prop, (∃ m, W 0 m [] H1) ∧ ∀ i m ys H, W i m ys H → (J.stop i H ∧ Fin ys H) ∨
      (J.go i H ∧ ys.length < sizeLine ∧ ∀ x H', J.yld i H x H' → ∀ o0 : List (Option V), o0.length = xs.length → g x (lcT σ js o0) H' fun σ2 H1 => ∃ o1, σ2 = lcT σ js o1 ∧ o1.length = xs.length ∧ tt σ2 H1 fun b H2 =>
        if b = true then te σ2 H2 fun v H3 => ∃ m', m' < m ∧ W (i + 1) m' (ys ++ [v]) H3 else ∃ m', m' < m ∧ W (i + 1) m' ys H2))
    (hfin : ∀ (D C : Addr) (s5 : Shared) (H5 : Hp) (ys : List V) (its : List Value) (k : Nat) (m5 : Str → Option Value), Inv X pins σ H5 s5 → Own X pins H5 D → Own X pins H5 C → D ≠ C → s5.heap.get? D = some (lstObj its k) → Vals ys its → ys.length ≤ sizeLine → s5.heap.Ns C m5 → Fin ys H5 →
      compPost (model X.prog X.w) X.A X.xe use QQ (.ref D) C (.ok .next) s5) :
    wpAny (model X.prog X.w) X.A (comprehension (.ListComp elt [⟨tg, iter, ifs, 0⟩] sc pos) sc X.env (firstIterPos [⟨tg, iter, ifs, 0⟩] pos) (newList []) false (eval iter X.env) use) QQ X.xe s := by
  have hcl : closureFor sc X.env = pure (clo sc.names X.env.cells []) := closure_eq fun y hy => by
    have ho : X.env.kindOf y = some .cell ∨ X.env.kindOf y = some .free := by
      show X.env.scope.names.lookup y = _ ∨ X.env.scope.names.lookup y = _
      rw [hosc]
      exact L.fr _ hy rfl
    obtain ⟨c, e⟩ := I.ok.has y ho
    rw [e]; rfl
  refine wpAny_comprehension_free (use := use) rfl hs hcl L.kind L.names (thn (hi pins s σ H _ I h) fun v s1 h1 => thn h1 fun itv s2 h2 => ?_)
  obtain ⟨it, fp, tn, J, H2, e, I2, T, st2, f2, W, ⟨m0, w0⟩, turn⟩ := h2
  subst e
  refine wpAny_newObj_type (wpAny_newFunctionEnv L.nocell (by intro y hy; simp at hy) (fun h₁ hns₁ hsb₁ => ?_) L.kind)
  dsimp only at hns₁ hsb₁ ⊢
  generalize hG : s2.heap.push { cls := .type "list", dict := none, data := .seq ([] : List Value).toArray } = G at hns₁ hsb₁ ⊢
  have hGs : G.objs.size = s2.heap.objs.size + 1 := by rw [← hG, Heap.size_push]
  have hCle : s2.heap.objs.size ≤ G.objs.size := by rw [hGs]; exact Nat.le_succ _
  have hDC : s2.heap.objs.size ≠ G.objs.size := by rw [hGs]; exact Nat.ne_of_lt (Nat.lt_succ_self _)
  have old : ∀ b o, s2.heap.get? b = some o → h₁.get? b = some o := fun b o e => by
    have lt := Heap.lt_size e
    refine hsb₁.extBut b o (Nat.ne_of_lt (Nat.lt_of_lt_of_le lt hCle)) (Heap.get?_push_of_some _ ?_)
    rw [← hG]
    exact Heap.get?_push_of_some _ e
  have hacc : h₁.get? s2.heap.objs.size = some (lstObj [] 0) := by
    refine hsb₁.extBut _ _ hDC (Heap.get?_push_of_some _ ?_)
    rw [← hG]
    exact Heap.get?_push_size _ rfl
  have lt : ∀ b ∈ fp, b < s2.heap.objs.size := fun b hb => by
    obtain ⟨o, e, _⟩ := T.obj _ _ st2 b hb
    exact Heap.lt_size e
  have clS : ∀ y c, (clo sc.names X.env.cells []).lookup y = some c → X.env.cells.lookup y = some c := clo_sound _ _ [] (fun _ _ e => by simp at e)
  have clLt : ∀ y c, (clo sc.names X.env.cells []).lookup y = some c → c < s2.heap.objs.size := fun y c e => by
    obtain ⟨v, o, q, _⟩ := I2.cell y c (clS y c e)
    exact Heap.lt_size q
  have Bok : (X.blk sc (clo sc.names X.env.cells []) G.objs.size (lcG X xs js) s2 H2 fp).Ok := blk_okG I2 hosc L f2 lt hCle
  have fresh : ∀ a, s2.heap.objs.size ≤ a → H2 a = none := fun a ha => I2.hok.fresh ha
  have frs_lt : ∀ b ∈ frs X.stack, b < s2.heap.objs.size := fun b hb => by
    rcases List.mem_cons.mp (I2.stkSub b hb) with z | z
    · rw [z]; exact I2.lt
    · refine Nat.lt_of_not_le fun q => I2.nofs q z
  have B0 : Inv (X.blk sc (clo sc.names X.env.cells []) G.objs.size (lcG X xs js) s2 H2 fp) [(s2.heap.objs.size, lstObj [] 0)] (lcT σ js (List.replicate xs.length none)) H2 { s2 with heap := h₁, toks := s2.toks + ([] : List (Str × Value)).length } := by
    refine ⟨Bok, rfl, I2.bare, Un.kept old, ⟨_, hns₁, fun i y v e1 e2 e3 => ?_⟩, fun y c e => ?_, fresh _ hCle, fun y c e => I2.freeC y c (clS y c e), fun p hp => ?_, I2.hok.kept old, ?_⟩
    · by_cases hlt : i < xs.length
      · exfalso
        have e2'' : (List.replicate xs.length (none : Option V) ++ js.map fun j => σ.getD j none)[i]? = some (some v) := e2
        rw [List.getElem?_append_left (by rw [List.length_replicate]; exact hlt), List.getElem?_replicate, if_pos hlt] at e2''
        cases e2''
      · have e1' : (js.map fun j => X.N.getD j "")[i - xs.length]? = some y := by
          have z : (xs ++ js.map fun j => X.N.getD j "")[i]? = some y := e1
          rw [List.getElem?_append_right (by omega)] at z
          exact z
        have e2' : (js.map fun j => σ.getD j none)[i - xs.length]? = some (some v) := by
          have z : (List.replicate xs.length (none : Option V) ++ js.map fun j => σ.getD j none)[i]? = some (some v) := e2
          rw [List.getElem?_append_right (by rw [List.length_replicate]; omega), List.length_replicate] at z
          exact z
        have e1s := e1'
        rw [List.getElem?_map] at e1' e2'
        cases hj : js[i - xs.length]? with
        | none => rw [hj] at e1'; cases e1'
        | some j =>
          rw [hj] at e1' e2'
          have e4 : X.N.getD j "" = y := Option.some.inj e1'
          have e5 : σ.getD j none = some v := Option.some.inj e2'
          have hjl := hjs j (List.mem_of_getElem? hj)
          have e6 : X.N[j]? = some y := by
            rw [List.getD_eq_getElem?_getD, List.getElem?_eq_getElem hjl] at e4
            rw [List.getElem?_eq_getElem hjl]
            exact congrArg some e4
          have e7 : σ[j]? = some (some v) := by
            rw [List.getD_eq_getElem?_getD] at e5
            cases hq : σ[j]? with
            | none => rw [hq] at e5; cases e5
            | some w => rw [hq] at e5; exact congrArg some e5
          obtain ⟨hm0, hk⟩ := L.fvs y (List.mem_of_getElem? e1s)
          have hm : (y, NameKind.free) ∈ sc.names := PySem.mem_of_lookup hm0
          have hk' : X.env.kindOf y = some .cell ∨ X.env.kindOf y = some .free := by
            show X.env.scope.names.lookup y = _ ∨ X.env.scope.names.lookup y = _
            rw [hosc]; exact hk
          have hv : Vis X.env.scope y := by rcases hk' with z | z; exact .inr (.inl z); exact .inr (.inr z)
          obtain ⟨m, hn, hl⟩ := I2.loc
          obtain ⟨u, r, l⟩ := hl j y v e6 e7 hv
          refine ⟨u, r, .inr ?_⟩
          rcases l with ⟨z, _⟩ | ⟨_, c, hc1, hc2⟩
          · rw [z] at hk'; rcases hk' with q | q <;> cases q
          · have hs2 : ((clo sc.names X.env.cells []).lookup y).isSome = true := clo_has _ _ [] y hm (by rw [hc1]; rfl)
            obtain ⟨c', hc'⟩ := Option.isSome_iff_exists.mp hs2
            have hcc : c' = c := by have := clS y c' hc'; rw [hc1] at this; exact (Option.some.inj this).symm
            subst hcc
            obtain ⟨o, ho, hd⟩ := hc2
            exact ⟨relabel_fv hm0, c', hc', o, old _ o ho, hd⟩
    · obtain ⟨v, o, q, d⟩ := I2.cell y c (clS y c e)
      exact ⟨v, o, old _ o q, d⟩
    · have e : p = (s2.heap.objs.size, lstObj [] 0) := by simpa using hp
      subst e
      exact ⟨hacc, fresh _ (Nat.le_refl _), hDC, fun z => Nat.lt_irrefl _ (frs_lt _ z), fun w hw => by cases hw⟩
    · show _ = (lcG X xs js).length
      simp
  have stat : ∀ {H' : Hp} {pl : List (Addr × Obj)}, (∀ b ∈ fp, H' b = none) → (∀ p ∈ pl, p.1 = s2.heap.objs.size) → ∀ b ∈ fp, FpOk (X.blk sc (clo sc.names X.env.cells []) G.objs.size (lcG X xs js) s2 H2 fp) pl H' b := fun hn hp b hb =>
    ⟨hn b hb, (Bok.exf b hb).1, Bok.exfs b hb, .inl hb, (Bok.exf b hb).2, fun p hm => by
      rw [hp p (by simpa using hm)]
      exact Ne.symm (Nat.ne_of_lt (lt b hb))⟩
  have loop : ∀ s3 : Shared, s3 = { s2 with heap := h₁, toks := s2.toks + ([] : List (Str × Value)).length } →
      codeAny (model X.prog X.w) X.A (.compLoop (.ListComp elt [⟨tg, iter, ifs, 0⟩] sc pos) 0 (.ref it) (.ref s2.heap.objs.size) (compEnvC sc (clo sc.names X.env.cells []) G.objs.size X.env))
        (compPost (model X.prog X.w) X.A X.xe use QQ (.ref s2.heap.objs.size) G.objs.size) s3 := by
    rintro s3 rfl
    refine lc_loop (fun n s' => ∃ i ys its k o0 H', o0.length = xs.length ∧ Inv (X.blk sc (clo sc.names X.env.cells []) G.objs.size (lcG X xs js) s2 H2 fp) [(s2.heap.objs.size, lstObj its k)] (lcT σ js o0) H' s' ∧ tn i s'.heap ∧ (∀ b ∈ fp, H' b = none) ∧ Vals ys its ∧ ys.length ≤ sizeLine ∧ W i n ys H') ?_ m0
      ⟨0, [], [], 0, List.replicate xs.length none, H2, List.length_replicate, B0, T.keep _ _ _ st2 fun b _ o e => old b o e, fun b hb => (f2 b hb).1, .nil, Nat.zero_le _, w0⟩
    rintro n s4 ⟨i, ys, its, k, o0, H4, lo0, I4, st4, fr4, vs4, z4, w4⟩
    have one : ∀ p ∈ [(s2.heap.objs.size, lstObj its k)], p.1 = s2.heap.objs.size := fun p hp => by
      have e : p = (s2.heap.objs.size, lstObj its k) := by simpa using hp
      rw [e]
    rcases turn i n ys H4 w4 with ⟨stop, qn⟩ | ⟨go, zl, step⟩
    · refine thn (T.done (X.blk sc (clo sc.names X.env.cells []) G.objs.size (lcG X xs js) s2 H2 fp) rfl rfl rfl (hc _ _ _ _ _ _ _) i _ s4 _ H4 _ I4 (stat fr4 one) st4 stop) fun r s5 ⟨hr, I5⟩ => ?_
      subst hr
      obtain ⟨m5, hn5, _⟩ := I5.loc
      obtain ⟨p1, p2, p3, p4, p5⟩ := I5.pin (s2.heap.objs.size, lstObj its k) (by simp)
      have ch : ∀ b ∈ fp, (b ∈ X.ex ∨ X.s₀.heap.objs.size ≤ b) ∧ b ≠ X.env.locals ∧ (∀ x c, X.env.cells.lookup x = some c → c ≠ b) ∧ ∀ p ∈ X.pn ++ pins, p.1 ≠ b := fun b hb =>
        ⟨(f2 b hb).2.2.2.1, (f2 b hb).2.1, (f2 b hb).2.2.2.2.1, (f2 b hb).2.2.2.2.2⟩
      have J1 : Inv X pins σ H4 s5 := I2.call' I5.os I5.base I5.hok I5.bare ch
      have ltp : ∀ p ∈ X.pn ++ pins, p.1 < s2.heap.objs.size := fun p hp => Heap.lt_size (I2.pin p hp).1
      have ltc : ∀ y c, X.env.cells.lookup y = some c → c < s2.heap.objs.size := fun y c e => by
        obtain ⟨v, o, q, _⟩ := I2.cell y c e
        exact Heap.lt_size q
      have s0 : X.s₀.heap.objs.size ≤ s2.heap.objs.size := I2.sz
      have own : ∀ a, s2.heap.objs.size ≤ a → H4 a = none → Own X pins H4 a := fun a ha hn => ⟨hn, Ne.symm (Nat.ne_of_lt (Nat.lt_of_lt_of_le I2.lt ha)), Nat.le_trans s0 ha, fun y c e => Nat.ne_of_lt (Nat.lt_of_lt_of_le (ltc y c e) ha),
        fun p hp => Nat.ne_of_lt (Nat.lt_of_lt_of_le (ltp p hp) ha), I2.nofs ha⟩
      exact hfin _ _ s5 H4 ys its k m5 J1 (own _ (Nat.le_refl _) p2) (own _ hCle I5.free) hDC p1 vs4 z4 hn5 qn
    · refine thn (T.item (X.blk sc (clo sc.names X.env.cells []) G.objs.size (lcG X xs js) s2 H2 fp) rfl rfl rfl (hc _ _ _ _ _ _ _) i _ s4 _ H4 _ I4 (stat fr4 one) st4 go) fun r s5 ⟨u, hr, h5⟩ => ?_
      subst hr
      refine wpAny_mono h5 (fun _ s5' ⟨v, H6, I6, r6, y6, st6, fr6⟩ => ?_) fun _ _ z => z
      have I7 := I6.pinned (stat fr6 one) (T.obj _ _ st6)
      have ndis : ∀ p ∈ pinsAt fp s5'.heap, p.1 ≠ s2.heap.objs.size := fun p hp => Nat.ne_of_lt (lt _ (of_pinsAt hp).1)
      have lenE := vs4.length
      have back : ∀ {its' : List Value} {k' : Nat} {H7 : Hp} {s7 : Shared} {ys' : List V} {m' : Nat} {o1 : List (Option V)}, o1.length = xs.length → Inv (X.blk sc (clo sc.names X.env.cells []) G.objs.size (lcG X xs js) s2 H2 fp) ((s2.heap.objs.size, lstObj its' k') :: pinsAt fp s5'.heap) (lcT σ js o1) H7 s7 →
          Vals ys' its' → ys'.length ≤ sizeLine → m' < n → W (i + 1) m' ys' H7 → ∃ m, m < n ∧ ∃ i ys its k o0 H', o0.length = xs.length ∧ Inv (X.blk sc (clo sc.names X.env.cells []) G.objs.size (lcG X xs js) s2 H2 fp) [(s2.heap.objs.size, lstObj its k)] (lcT σ js o0) H' s7 ∧ tn i s7.heap ∧ (∀ b ∈ fp, H' b = none) ∧ Vals ys its ∧ ys.length ≤ sizeLine ∧ W i m ys H' := by
        intro its' k' H7 s7 ys' m' o1 l1 J vs' z' hm w'
        refine ⟨m', hm, i + 1, ys', its', k', o1, H7, l1, J.pins_of fun p hp => J.pin p (List.mem_append_right _ (by simp at hp; simp [hp])), ?_, ?_, vs', z', w'⟩
        · exact T.keep _ _ _ st6 fun b hb o e => (J.pin (b, o) (List.mem_append_right _ (List.mem_cons_of_mem _ (mem_pinsAt hb e)))).1
        · intro b hb
          obtain ⟨o, e, _⟩ := T.obj _ _ st6 b hb
          exact (J.pin (b, o) (List.mem_append_right _ (List.mem_cons_of_mem _ (mem_pinsAt hb e)))).2.1
      refine wpAny_mono (lc_turnG (X := X) (sc := sc) (xs := xs) (js := js) (tg := tg) (g := g) (elt := elt) (ifs := ifs) (tt := tt) (te := te) (D := s2.heap.objs.size) (its := its) (n := k) (pl := pinsAt fp s5'.heap)
        (hg _ _ _ _ _) I7 r6 (ht _ _ _ _ _) (he _ _ _ _ _) (by omega) (Nat.le_refl _) hDC (fun y c e => Nat.ne_of_lt (clLt y c e)) ndis (step v H6 y6 o0 lo0)) (fun _ s6 h6 => ?_) fun _ _ z => z
      refine wpAny_mono h6 (fun ok s7 h7 => ?_) fun _ _ z => z
      cases ok with
      | false =>
        rw [if_neg Bool.false_ne_true] at h7 ⊢
        obtain ⟨H7, o1, l1, ⟨m', hm, w'⟩, J⟩ := h7
        exact back l1 J vs4 z4 hm w'
      | true =>
        rw [if_pos rfl] at h7 ⊢
        refine wpAny_mono h7 (fun y s8 h8 => ?_) fun _ _ z => z
        refine wpAny_mono h8 (fun _ s9 h9 => ?_) fun _ _ z => z
        obtain ⟨z, y', H9, o1, l1, ⟨m', hm, w'⟩, rz, J⟩ := h9
        refine back l1 J (vs4.append (.cons rz .nil)) ?_ hm w'
        rw [List.length_append, List.length_singleton]
        omega
  exact codeAny_compStart_list (loop _ rfl) (T.self _ 0 _ _ _ (T.keep _ _ _ st2 fun b _ o e => old b o e) (loop _ rfl))
end
section
variable {X : Cx} {sc osc : Scope} {x : Str} {js : List Nat} {elt iter : Expr} {px pos : Pos} {ifs : List Expr} {wi : TI} {tt : TT} {te : TE}
theorem lc_core {use : Option (Value → Sem Unit)} {QQ : Value → Shared → Prop} {Fin : List V → Hp → Prop} {pins : List (Addr × Obj)} {s : Shared} {σ : St} {H : Hp} (hosc : X.env.scope = osc) (L : LcOk osc sc x (js.map fun j => X.N.getD j "")) {rd : Cx → Prop} (hc : ∀ sc cl C N s H fp, rd (X.blk sc cl C N s H fp)) (hi : PIr rd X (.Name x px) iter wi) (hjs : ∀ j ∈ js, j < X.N.length)
    (ht : ∀ (cl : List (Str × Addr)) (C : Addr) (s₂ : Shared) (H₂ : Hp) (fp : List Addr) (pins : List (Addr × Obj)) (s' : Shared) (σ' : St) (H' : Hp) (Q : Bool → Hp → Prop), Inv (X.blk sc cl C (lcN X x js) s₂ H₂ fp) pins σ' H' s' → tt σ' H' Q →
      wpAny (model X.prog X.w) X.A (lcTests ifs (compEnvC sc cl C X.env)) (TP (X.blk sc cl C (lcN X x js) s₂ H₂ fp) pins σ' Q) (fun _ _ => False) s')
    (he : ∀ (cl : List (Str × Addr)) (C : Addr) (s₂ : Shared) (H₂ : Hp) (fp : List Addr), PE (X.blk sc cl C (lcN X x js) s₂ H₂ fp) elt te)
    (hs : ∀ x, foldedSetIterable iter X.env x = pure x) (I : Inv X pins σ H s)
    (h : wi σ H fun J H1 => ∃ W : Nat → Nat → List V → Hp → Prop, (∃ m, W 0 m [] H1) ∧ ∀ i m ys H, W i m ys H → (J.stop i H ∧ Fin ys H) ∨
      (J.go i H ∧ ys.length < sizeLine ∧ ∀ x H', J.yld i H x H' → tt (lcS σ js (some x)) H' fun b H2 =>
        if b = true then te (lcS σ js (some x)) H2 fun v H3 => ∃ m', m' < m ∧ W (i + 1) m' (ys ++ [v]) H3 else ∃ m', m' < m ∧ W (i + 1) m' ys H2))
    (hfin : ∀ (D C : Addr) (s5 : Shared) (H5 : Hp) (ys : List V) (its : List Value) (k : Nat) (m5 : Str → Option Value), Inv X pins σ H5 s5 → Own X pins H5 D → Own X pins H5 C → D ≠ C → s5.heap.get? D = some (lstObj its k) → Vals ys its → ys.length ≤ sizeLine → s5.heap.Ns C m5 → Fin ys H5 →
      compPost (model X.prog X.w) X.A X.xe use QQ (.ref D) C (.ok .next) s5) :
    wpAny (model X.prog X.w) X.A (comprehension (.ListComp elt [⟨.Name x px, iter, ifs, 0⟩] sc pos) sc X.env (firstIterPos [⟨.Name x px, iter, ifs, 0⟩] pos) (newList []) false (eval iter X.env) use) QQ X.xe s := by
  have e : (fun (J : It) (H1 : Hp) => ∃ W : Nat → Nat → List V → Hp → Prop, (∃ m, W 0 m [] H1) ∧ ∀ i m ys H, W i m ys H → (J.stop i H ∧ Fin ys H) ∨
      (J.go i H ∧ ys.length < sizeLine ∧ ∀ x H', J.yld i H x H' → tt (lcS σ js (some x)) H' fun b H2 =>
        if b = true then te (lcS σ js (some x)) H2 fun v H3 => ∃ m', m' < m ∧ W (i + 1) m' (ys ++ [v]) H3 else ∃ m', m' < m ∧ W (i + 1) m' ys H2)) =
      (fun (J : It) (H1 : Hp) => ∃ W : Nat → Nat → List V → Hp → Prop, (∃ m, W 0 m [] H1) ∧ ∀ i m ys H, W i m ys H → (J.stop i H ∧ Fin ys H) ∨
      (J.go i H ∧ ys.length < sizeLine ∧ ∀ y H', J.yld i H y H' → ∀ o0 : List (Option V), o0.length = [x].length → gName 0 y (lcT σ js o0) H' fun σ2 H1 => ∃ o1, σ2 = lcT σ js o1 ∧ o1.length = [x].length ∧ tt σ2 H1 fun b H2 =>
        if b = true then te σ2 H2 fun v H3 => ∃ m', m' < m ∧ W (i + 1) m' (ys ++ [v]) H3 else ∃ m', m' < m ∧ W (i + 1) m' ys H2)) := by
    funext J H1
    refine propext ⟨fun ⟨W, w0, w1⟩ => ⟨W, w0, fun i m ys H hw => ?_⟩, fun ⟨W, w0, w1⟩ => ⟨W, w0, fun i m ys H hw => ?_⟩⟩
    · rcases w1 i m ys H hw with a | ⟨a, b, c⟩
      · exact .inl a
      · refine .inr ⟨a, b, fun y H' hy o0 ho => ?_⟩
        match o0, ho with
        | [o], _ => exact ⟨[some y], rfl, rfl, c y H' hy⟩
    · rcases w1 i m ys H hw with a | ⟨a, b, c⟩
      · exact .inl a
      · refine .inr ⟨a, b, fun y H' hy => ?_⟩
        obtain ⟨o1, e1, e2, e3⟩ := c y H' hy [none] rfl
        exact e3
  rw [e] at h
  exact lc_coreG (xs := [x]) (g := gName 0) hosc ⟨L.kind, L.nocell, L.names, L.fr, L.fvs⟩ hc hi (fun cl C s₂ H₂ fp => pg_name (X := X.blk sc cl C (lcG X [x] js) s₂ H₂ fp) L.nd rfl (.inl (lookup_relabel_local L.hx)) (.inr (lookup_relabel_local L.hx))) hjs ht he hs I h hfin
theorem pe_lcTr (hosc : X.env.scope = osc) (L : LcOk osc sc x (js.map fun j => X.N.getD j "")) {rd : Cx → Prop} (hc : ∀ sc cl C N s H fp, rd (X.blk sc cl C N s H fp)) (hi : PIr rd X (.Name x px) iter wi) (hjs : ∀ j ∈ js, j < X.N.length)
    (ht : ∀ (cl : List (Str × Addr)) (C : Addr) (s₂ : Shared) (H₂ : Hp) (fp : List Addr) (pins : List (Addr × Obj)) (s' : Shared) (σ' : St) (H' : Hp) (Q : Bool → Hp → Prop), Inv (X.blk sc cl C (lcN X x js) s₂ H₂ fp) pins σ' H' s' → tt σ' H' Q →
      wpAny (model X.prog X.w) X.A (lcTests ifs (compEnvC sc cl C X.env)) (TP (X.blk sc cl C (lcN X x js) s₂ H₂ fp) pins σ' Q) (fun _ _ => False) s')
    (he : ∀ (cl : List (Str × Addr)) (C : Addr) (s₂ : Shared) (H₂ : Hp) (fp : List Addr), PE (X.blk sc cl C (lcN X x js) s₂ H₂ fp) elt te)
    (hs : ∀ x, foldedSetIterable iter X.env x = pure x := by intro _; rfl) :
    PE X (.ListComp elt [⟨.Name x px, iter, ifs, 0⟩] sc pos) (tLC wi js tt te) := by
  intro pins s σ H Q I h
  rw [eval_ListComp]
  refine lc_core (use := none) (Fin := fun ys H => ∀ p, H p = none → Q (.ref p) (upd H p (.lst ys))) hosc L hc hi hjs ht he hs I h fun D C s5 H5 ys its k m5 J oD oC hDC p1 vs z hn fin => ?_
  refine ⟨m5, hn, fun h' hsb => ?_⟩
  have J2 : Inv X pins σ H5 { s5 with heap := h', toks := s5.toks } := J.turned (it := C) (fun b o hb e => hsb.extBut b o hb e) oC.free oC.loc (.inr oC.new) oC.cel oC.pin
  have p1' : h'.get? D = some (lstObj its k) := hsb.extBut _ _ hDC p1
  have J3 : Inv X pins σ (upd H5 D (.lst ys)) { s5 with heap := h', toks := s5.toks } := J2.track oD.free oD.loc oD.new oD.cel oD.pin ⟨z, its, k, vs, p1'⟩
  exact ⟨.ref D, _, J3, rfl, fin D oD.free⟩
theorem pe_lcT (hosc : X.env.scope = osc) (L : LcOk osc sc x (js.map fun j => X.N.getD j "")) (hc : X.calm = true) (hi : PI X (.Name x px) iter wi) (hjs : ∀ j ∈ js, j < X.N.length)
    (ht : ∀ (cl : List (Str × Addr)) (C : Addr) (s₂ : Shared) (H₂ : Hp) (fp : List Addr) (pins : List (Addr × Obj)) (s' : Shared) (σ' : St) (H' : Hp) (Q : Bool → Hp → Prop), Inv (X.blk sc cl C (lcN X x js) s₂ H₂ fp) pins σ' H' s' → tt σ' H' Q →
      wpAny (model X.prog X.w) X.A (lcTests ifs (compEnvC sc cl C X.env)) (TP (X.blk sc cl C (lcN X x js) s₂ H₂ fp) pins σ' Q) (fun _ _ => False) s')
    (he : ∀ (cl : List (Str × Addr)) (C : Addr) (s₂ : Shared) (H₂ : Hp) (fp : List Addr), PE (X.blk sc cl C (lcN X x js) s₂ H₂ fp) elt te)
    (hs : ∀ x, foldedSetIterable iter X.env x = pure x := by intro _; rfl) :
    PE X (.ListComp elt [⟨.Name x px, iter, ifs, 0⟩] sc pos) (tLC wi js tt te) :=
  pe_lcTr hosc L (rd := Calm) (fun _ _ _ _ _ _ _ => hc) hi hjs ht he hs
def sLC (i : Nat) (wi : TI) (js : List Nat) (tt : TT) (te : TE) : TS := fun D σ H => tLC wi js tt te σ H fun v H1 => D.nx (σ.set i (some v)) H1
theorem ps_setLC {i : Nat} {y : Str} {py spos : Pos} (hN : X.N.Nodup) (hy : X.N[i]? = some y) (hl : Loc X.env.scope y) (hf : X.fn y = true ∨ X.env.scope.names.lookup y = some .local)
    (hosc : X.env.scope = osc) (L : LcOk osc sc x (js.map fun j => X.N.getD j "")) (hc : X.calm = true) (hi : PI X (.Name x px) iter wi) (hjs : ∀ j ∈ js, j < X.N.length)
    (ht : ∀ (cl : List (Str × Addr)) (C : Addr) (s₂ : Shared) (H₂ : Hp) (fp : List Addr) (pins : List (Addr × Obj)) (s' : Shared) (σ' : St) (H' : Hp) (Q : Bool → Hp → Prop), Inv (X.blk sc cl C (lcN X x js) s₂ H₂ fp) pins σ' H' s' → tt σ' H' Q →
      wpAny (model X.prog X.w) X.A (lcTests ifs (compEnvC sc cl C X.env)) (TP (X.blk sc cl C (lcN X x js) s₂ H₂ fp) pins σ' Q) (fun _ _ => False) s')
    (he : ∀ (cl : List (Str × Addr)) (C : Addr) (s₂ : Shared) (H₂ : Hp) (fp : List Addr), PE (X.blk sc cl C (lcN X x js) s₂ H₂ fp) elt te)
    (hsw : swapsWith (.ListComp elt [⟨.Name x px, iter, ifs, 0⟩] sc pos) (some (.Name y py)) spos.line X.env = pure true) (hs : ∀ x, foldedSetIterable iter X.env x = pure x := by intro _; rfl) :
    PS X (.Assign [.Name y py] (.ListComp elt [⟨.Name x px, iter, ifs, 0⟩] sc pos) spos) (sLC i wi js tt te) := by
  intro pins s σ H D I h
  rw [exec_Assign_Name_used _ _ _ _ hsw]
  refine wpAny_bind (wpAny_standAt (wpAny_bind ?_))
  show wpAny _ _ (do let _ ← comprehension (.ListComp elt [⟨.Name x px, iter, ifs, 0⟩] sc pos) sc X.env _ (newList []) false (eval iter X.env) (some (assign (.Name y py) X.env))) _ _ s
  have pg := pg_name (X := X) (i := i) (x := y) (pos := py) hN hy hl hf
  refine wpAny_bind (wpAny_mono (lc_core (use := some (assign (.Name y py) X.env)) (QQ := fun _ z => SP X pins D .next z) (Fin := fun ys H => ∀ p, H p = none → D.nx (σ.set i (some (.ref p))) (upd H p (.lst ys))) hosc L (rd := Calm) (fun _ _ _ _ _ _ _ => hc) hi hjs ht he hs I h fun A C s5 H5 ys its k m5 J oD oC hDC p1 vs z hn fin => ?_) (fun _ z hq => wpAny_pure (wpAny_pure hq)) fun _ _ e => e)
  have J1 : Inv X pins σ (upd H5 A (.lst ys)) s5 := J.track oD.free oD.loc oD.new oD.cel oD.pin ⟨z, its, k, vs, p1⟩
  obtain ⟨oc, es, ep, hC, hd, hr⟩ := hn
  have nocell : ∀ v, oc.data ≠ .cell v := fun v q => by rw [hd] at q; cases q
  have hCA : C ≠ A := Ne.symm hDC
  have fC : (upd H5 A (.lst ys)) C = none := by rw [upd_ne hCA]; exact oC.free
  have J2 : Inv X (pins ++ [(C, oc)]) σ (upd H5 A (.lst ys)) s5 := J1.pins_of fun p hp => (List.mem_append.mp hp).elim (fun q => J1.pin p (List.mem_append_right _ q)) fun q => by
    have e : p = (C, oc) := by simpa using q
    subst e
    exact ⟨hC, fC, oC.loc, oC.fs, nocell⟩
  refine wpAny_mono (pg _ s5 σ _ (.ref A) (.ref A) (fun σ6 H6 => σ6 = σ.set i (some (.ref A)) ∧ H6 = upd H5 A (.lst ys)) J2 rfl ⟨rfl, rfl⟩) (fun _ s6 ⟨σ6, H6, I6, e1, e2⟩ => ?_) fun _ _ e => e
  subst e1 e2
  obtain ⟨c1, c2, _⟩ := I6.pin (C, oc) (List.mem_append_right _ (List.mem_append_right _ (by simp)))
  refine ⟨m5, ⟨oc, es, ep, c1, hd, hr⟩, fun h' hsb => ?_⟩
  have J3 : Inv X pins (σ.set i (some (.ref A))) (upd H5 A (.lst ys)) s6 := I6.pins_of fun p hp => I6.pin p (List.mem_append_right _ (List.mem_append_left _ hp))
  have J4 : Inv X pins (σ.set i (some (.ref A))) (upd H5 A (.lst ys)) { s6 with heap := h', toks := s6.toks } := J3.turned (it := C) (fun b o hb e => hsb.extBut b o hb e) c2 oC.loc (.inr oC.new) oC.cel oC.pin
  exact ⟨_, _, J4, fin A oD.free⟩
end
end L2
namespace L2
open PySem PySem.Spec PyProof.Rows
section
variable {X : Cx}
def tYes : TT := fun _ H Q => Q true H
theorem pe_lc0 {sc osc : Scope} {x : Str} {js : List Nat} {elt iter : Expr} {px pos : Pos} {wi : TI} {te : TE} (hosc : X.env.scope = osc) (L : LcOk osc sc x (js.map fun j => X.N.getD j "")) (hc : X.calm = true) (hi : PI X (.Name x px) iter wi) (hjs : ∀ j ∈ js, j < X.N.length)
    (he : ∀ (cl : List (Str × Addr)) (C : Addr) (s₂ : Shared) (H₂ : Hp) (fp : List Addr), PE (X.blk sc cl C (lcN X x js) s₂ H₂ fp) elt te)
    (hs : ∀ x, foldedSetIterable iter X.env x = pure x := by intro _; rfl) :
    PE X (.ListComp elt [⟨.Name x px, iter, [], 0⟩] sc pos) (tLC wi js tYes te) :=
  pe_lcT hosc L hc hi hjs (fun cl C s₂ H₂ fp pins s' σ' H' Q I h => wpAny_pure ⟨H', I, h⟩) he hs
theorem pe_lc1 {sc osc : Scope} {x : Str} {js : List Nat} {elt iter c : Expr} {px pos : Pos} {wi : TI} {te : TE} {tt : TT} (hosc : X.env.scope = osc) (L : LcOk osc sc x (js.map fun j => X.N.getD j "")) (hc : X.calm = true) (hi : PI X (.Name x px) iter wi) (hjs : ∀ j ∈ js, j < X.N.length)
    (ht : ∀ (cl : List (Str × Addr)) (C : Addr) (s₂ : Shared) (H₂ : Hp) (fp : List Addr), PT (X.blk sc cl C (lcN X x js) s₂ H₂ fp) c tt)
    (he : ∀ (cl : List (Str × Addr)) (C : Addr) (s₂ : Shared) (H₂ : Hp) (fp : List Addr), PE (X.blk sc cl C (lcN X x js) s₂ H₂ fp) elt te)
    (hs : ∀ x, foldedSetIterable iter X.env x = pure x := by intro _; rfl) :
    PE X (.ListComp elt [⟨.Name x px, iter, [c], 0⟩] sc pos) (tLC wi js tt te) :=
  pe_lcT hosc L hc hi hjs (fun cl C s₂ H₂ fp pins s' σ' H' Q I h => wpAny_tests_one (ht cl C s₂ H₂ fp pins s' σ' H' Q I h)) he hs
theorem lc_list {K : PySem.W.Frag} {a : Addr} {xs : List V} {σ : St} {js : List Nat} {tt : TT} {te : TE} {H : Hp} {Qf : Addr → Hp → List V → Prop} (Pv : Nat → List V → Hp → Prop) (h0 : Pv 0 [] H) (hz : xs.length ≤ sizeLine)
    (hl : ∀ i ys H, i ≤ xs.length → Pv i ys H → SqL K H a xs ∧ ys.length ≤ i)
    (hs : ∀ i x ys H, xs[i]? = some x → Pv i ys H → tt (lcS σ js (some x)) H fun b H2 => if b = true then te (lcS σ js (some x)) H2 fun v H3 => Pv (i + 1) (ys ++ [v]) H3 else Pv (i + 1) ys H2)
    (mt : ∀ σ H Q Q', (∀ b H1, Q b H1 → Q' b H1) → tt σ H Q → tt σ H Q') (me : ∀ σ H Q Q', (∀ v H1, Q v H1 → Q' v H1) → te σ H Q → te σ H Q')
    (hd : ∀ ys H p, Pv xs.length ys H → H p = none → Qf p H ys) :
    ∃ W : Nat → Nat → List V → Hp → Prop, (∃ m, W 0 m [] H) ∧ ∀ i m ys H, W i m ys H →
      ((Itl K a).stop i H ∧ ∀ p, H p = none → Qf p H ys) ∨
      ((Itl K a).go i H ∧ ys.length < sizeLine ∧ ∀ x H', (Itl K a).yld i H x H' → tt (lcS σ js (some x)) H' fun b H2 =>
        if b = true then te (lcS σ js (some x)) H2 fun v H3 => ∃ m', m' < m ∧ W (i + 1) m' (ys ++ [v]) H3 else ∃ m', m' < m ∧ W (i + 1) m' ys H2) := by
  refine ⟨fun i m ys H => m = xs.length - i ∧ i ≤ xs.length ∧ Pv i ys H, ⟨xs.length, by simp, Nat.zero_le _, h0⟩, ?_⟩
  rintro i m ys H ⟨rfl, hi, p⟩
  obtain ⟨q, hy⟩ := hl i ys H hi p
  by_cases hlt : i < xs.length
  · refine .inr ⟨⟨xs, xs[i], q, by simp [hlt]⟩, by omega, fun x H' y => ?_⟩
    obtain ⟨e, y⟩ := y
    subst e
    refine mt _ _ _ _ (fun b H2 h2 => ?_) (hs i x ys _ (y xs q) p)
    cases b with
    | true =>
      rw [if_pos rfl] at h2 ⊢
      exact me _ _ _ _ (fun v H3 h3 => ⟨_, by omega, rfl, hlt, h3⟩) h2
    | false =>
      rw [if_neg Bool.false_ne_true] at h2 ⊢
      exact ⟨_, by omega, rfl, hlt, h2⟩
  · have e : i = xs.length := by omega
    subst e
    exact .inl ⟨⟨xs, q, Nat.le_refl _⟩, fun pp hp => hd ys H pp p hp⟩
theorem lc_tup {K : PySem.W.Frag} {a : Addr} {xs : List V} {σ : St} {js : List Nat} {tt : TT} {te : TE} {H : Hp} {Qf : Addr → Hp → List V → Prop} (Pv : Nat → List V → Hp → Prop) (h0 : Pv 0 [] H) (hz : xs.length ≤ sizeLine)
    (hl : ∀ i ys H, i ≤ xs.length → Pv i ys H → SqT K H a xs ∧ ys.length ≤ i)
    (hs : ∀ i x ys H, xs[i]? = some x → Pv i ys H → tt (lcS σ js (some x)) H fun b H2 => if b = true then te (lcS σ js (some x)) H2 fun v H3 => Pv (i + 1) (ys ++ [v]) H3 else Pv (i + 1) ys H2)
    (mt : ∀ σ H Q Q', (∀ b H1, Q b H1 → Q' b H1) → tt σ H Q → tt σ H Q') (me : ∀ σ H Q Q', (∀ v H1, Q v H1 → Q' v H1) → te σ H Q → te σ H Q')
    (hd : ∀ ys H p, Pv xs.length ys H → H p = none → Qf p H ys) :
    ∃ W : Nat → Nat → List V → Hp → Prop, (∃ m, W 0 m [] H) ∧ ∀ i m ys H, W i m ys H →
      ((Itt K a).stop i H ∧ ∀ p, H p = none → Qf p H ys) ∨
      ((Itt K a).go i H ∧ ys.length < sizeLine ∧ ∀ x H', (Itt K a).yld i H x H' → tt (lcS σ js (some x)) H' fun b H2 =>
        if b = true then te (lcS σ js (some x)) H2 fun v H3 => ∃ m', m' < m ∧ W (i + 1) m' (ys ++ [v]) H3 else ∃ m', m' < m ∧ W (i + 1) m' ys H2) := by
  refine ⟨fun i m ys H => m = xs.length - i ∧ i ≤ xs.length ∧ Pv i ys H, ⟨xs.length, by simp, Nat.zero_le _, h0⟩, ?_⟩
  rintro i m ys H ⟨rfl, hi, p⟩
  obtain ⟨q, hy⟩ := hl i ys H hi p
  by_cases hlt : i < xs.length
  · refine .inr ⟨⟨xs, xs[i], q, by simp [hlt]⟩, by omega, fun x H' y => ?_⟩
    obtain ⟨e, y⟩ := y
    subst e
    refine mt _ _ _ _ (fun b H2 h2 => ?_) (hs i x ys _ (y xs q) p)
    cases b with
    | true =>
      rw [if_pos rfl] at h2 ⊢
      exact me _ _ _ _ (fun v H3 h3 => ⟨_, by omega, rfl, hlt, h3⟩) h2
    | false =>
      rw [if_neg Bool.false_ne_true] at h2 ⊢
      exact ⟨_, by omega, rfl, hlt, h2⟩
  · have e : i = xs.length := by omega
    subst e
    exact .inl ⟨⟨xs, q, Nat.le_refl _⟩, fun pp hp => hd ys H pp p hp⟩
def rInsert : V → List V → Hp → VK → Prop := fun x vs H Q => ∃ l xs i y, x = .ref l ∧ vs = [.int i, y] ∧ H l = some (.lst xs) ∧ 0 ≤ i ∧ i ≤ (xs.length : Int) ∧ xs.length < sizeLine ∧ Q .non (upd H l (.lst (xs.take i.toNat ++ y :: xs.drop i.toNat)))
theorem insert_run {A : Around} {s : Shared} {P : Program} {w : World} {E : Value → Shared → Prop} {Q : Value → Shared → Prop} {l : Addr} {its : List Value} {n : Nat} {i : Int} {t : Tok} {u : Value} (e : s.heap.get? l = some { cls := .type "list", data := .seq its.toArray n }) (h0 : 0 ≤ i) (h1 : i ≤ (its.length : Int)) (hz : its.length ≤ sizeLine)
    (h : ∀ f : Array Value → Array Value, f its.toArray = (its.take i.toNat ++ u :: its.drop i.toNat).toArray → Q .none { s with heap := s.heap.update l (Obj.mapSeq f), toks := s.toks }) : wpAny (model P w) A (call (.builtin "list.insert") [.ref l, .int i t, u]) Q E s := by
  have hn := line63
  have fit : ¬ (!Builtin.List.listFitsIndex i) = true := by
    rw [fitsIndex_both (k := i) (Int.le_trans (by decide) h0) (by omega)]
    exact Bool.false_ne_true
  have hs3 : its.toArray.size ≤ sizeLine := by rw [List.size_toArray]; exact hz
  have M := AutoSeq1.list_insert_list_int_val_1 l its.toArray n i t u fit hs3
  refine call_meets F.slot_list_insert ⟨_, e, rfl⟩ F.entry_list_insert (F.args_list_insert_3 _ _ _) M ⟨e, ?_⟩
  refine h _ ?_
  have hk : (if i < 0 then (i + (its.toArray.size : Int)).toNat else min i.toNat its.toArray.size) = i.toNat := by
    rw [if_neg (by omega), List.size_toArray]
    omega
  show (its.toArray.extract 0 (if i < 0 then (i + (its.toArray.size : Int)).toNat else min i.toNat its.toArray.size)).push u ++ its.toArray.extract (if i < 0 then (i + (its.toArray.size : Int)).toNat else min i.toNat its.toArray.size) = _
  rw [hk]
  apply Array.toList_inj.mp
  simp [List.take_of_length_le]
theorem mt_insert : MtM X "list.insert" rInsert := by
  intro pins s σ H x vs v us Q I rx rv h
  obtain ⟨l, xs, i, y, rfl, rfl, hH, h0, h1, hz, q⟩ := h
  cases rx
  obtain ⟨u, w, rfl, ⟨t, rfl⟩, rw'⟩ := rv.two
  obtain ⟨z, its, n, r, hl, e⟩ := I.lstM hH
  refine insert_run e h0 (by rw [← hl]; exact h1) (by omega) fun f hf => ?_
  refine ⟨.non, _, I.lset (its' := its.take i.toNat ++ w :: its.drop i.toNat) hH e hf ((r.take i.toNat).append (.cons rw' (r.drop i.toNat))) ?_, rfl, q⟩
  rw [List.length_append, List.length_cons, List.length_take, List.length_drop]
  omega
def rExtendT (K : PySem.W.Frag) : V → List V → Hp → VK → Prop := fun x vs H Q => ∃ l b xs zs, x = .ref l ∧ vs = [.ref b] ∧ H l = some (.lst xs) ∧ SqT K H b zs ∧ xs.length + zs.length ≤ sizeLine ∧ Q .non (upd H l (.lst (xs ++ zs)))
theorem extend_tuple_any (l : Addr) (its : Array Value) (n : Nat) (b : Addr) (its2 : Array Value) (n2 : Nat) (dd : Option Addr) (sl : Array (Option Value)) (h0 : ¬(!its.isEmpty && Builtin.List.listTooLong (its.size + its2.size)) = true) (h1 : its.size ≤ sizeLine) (h2 : its.size + its2.size ≤ sizeLine + 1) :
    Meets (Builtin.«list.extend» ⟨[.ref l, .ref b], []⟩) (fun _ R s => s.heap.get? l = some { cls := .type "list", data := .seq its n } ∧ s.heap.get? b = some { cls := .type "tuple", dict := dd, data := .seq its2 n2, slots := sl } ∧
      R (.ok (.ret Value.none)) { s with heap := s.heap.update l (Obj.mapSeq fun x => x ++ its2), toks := s.toks }) :=
  .of_wp fun prog w A R s h => by
    obtain ⟨hp, g, d, tk, os⟩ := s
    obtain ⟨hl, hb, h⟩ := h
    have g1 := AutoSeq1.idx_int
    have g2 := AutoSeq1.sub_tuple_tuple
    have g3 := AutoSeq1.sub_list_list
    have g4 := AutoSeq1.sub_tuple_list
    have g5 := AutoSeq1.sub_list_tuple
    have hz : (its ++ its2).size ≤ sizeLine + 1 := by rw [Array.size_append]; exact h2
    wp_walk using (wpAny_updateSeq hl rfl (hz := h1) (_hz' := hz)), AutoSeq1.wpAny_loadPart' hl, AutoSeq1.wpAny_loadPart' hb
    exact ⟨_, rfl, h⟩
theorem mt_extendT : MtM X "list.extend" (rExtendT X.K) := by
  intro pins s σ H x vs v us Q I rx rv h
  obtain ⟨l, b, xs, zs, rfl, rfl, hH, hB, hz, q⟩ := h
  cases rx
  obtain ⟨u, rfl, ru⟩ := rv.one
  cases ru
  obtain ⟨z, its, n, r, hl, e⟩ := I.lstM hH
  obtain ⟨its2, r2, ⟨o, e2, hc, n2, hd⟩, z2⟩ := I.tuple hB
  obtain ⟨cls, dd, dt, sl⟩ := o
  have hc' : cls = .type "tuple" := hc
  have hd' : dt = .seq its2.toArray n2 := hd
  subst hc' hd'
  have hl2 := r2.length
  have hsz : its.toArray.size + its2.toArray.size ≤ sizeLine := by rw [List.size_toArray, List.size_toArray]; omega
  have hlong : ¬ (!its.toArray.isEmpty && Builtin.List.listTooLong (its.toArray.size + its2.toArray.size)) = true := by
    rw [notLongL hsz, Bool.and_false]
    exact Bool.false_ne_true
  refine call_meets F.slot_list_extend ⟨_, e, rfl⟩ F.entry_list_extend (F.args_list_extend_2 _ _)
    (extend_tuple_any l its.toArray n b its2.toArray n2 dd sl hlong (by rw [List.size_toArray]; omega) (by omega)) ⟨e, e2, ?_⟩
  refine ⟨.non, _, I.lset (its' := its ++ its2) hH e (by simp) (r.append r2) ?_, rfl, q⟩
  rw [List.length_append]
  omega
theorem range_all_get (bs : List Bool) : ((List.range bs.length).all fun i => (bs[i]?).getD true) = bs.all id := by
  rw [Bool.eq_iff_iff, List.all_eq_true, List.all_eq_true]
  constructor
  · intro h b hb
    obtain ⟨i, hi, e⟩ := List.getElem_of_mem hb
    have q := h i (List.mem_range.mpr hi)
    rw [List.getElem?_eq_getElem hi, Option.getD_some, e] at q
    exact q
  · intro h i hi
    have hi' := List.mem_range.mp hi
    rw [List.getElem?_eq_getElem hi', Option.getD_some]
    exact h _ (List.getElem_mem hi')
theorem call_all (hc : X.calm = true) : CallR X (.builtin "all") (fun xs H Q => ∃ (p : Addr) (bs : List Bool), xs = [.ref p] ∧ SqL X.K H p (bs.map V.bl) ∧ Q (.bl (bs.all id)) H) := by
  intro pins s σ H xs us Q I r h
  obtain ⟨p, bs, rfl, hq, q⟩ := h
  obtain ⟨u, rfl, rx⟩ := vals1 r
  cases rx
  obtain ⟨its, r', pl, hz⟩ := I.list hq
  have hlen : bs.length = its.length := by have := r'.length; rw [List.length_map] at this; exact this
  have hlt : p < s.heap.objs.size := by obtain ⟨_, e, _⟩ := pl.isList; exact Heap.lt_size e
  refine call_all_walk (wpAny_pyIter_list pl.isList ?_)
  refine ⟨s.heap.objs.size, [s.heap.objs.size, p], [s.heap.objs.size], its.toArray.size, _, _, fun i => (bs[i]?).getD true, rfl, Walks.list (A := X.A.in1) (I.ok.hd hc) _ p (Nat.ne_of_lt hlt) its.toArray,
    ⟨⟨_, Heap.get?_push_size _ rfl, rfl, rfl⟩, pl.isList.push _⟩, fun i v s' Q' E' hP hQ => ?_, fun h' tk hk => ?_⟩
  · have hP' : its[i]? = some v := by simpa using hP
    have hi : i < bs.length := by
      have := (List.getElem?_eq_some_iff.mp hP').1
      omega
    obtain ⟨w, hw, rw'⟩ := r'.get (i := i) (x := .bl bs[i]) (by rw [List.getElem?_map, List.getElem?_eq_getElem hi]; rfl)
    rw [hP'] at hw
    cases hw
    cases rw'
    simp only [List.getElem?_eq_getElem hi, Option.getD_some] at hQ
    exact wpAny_truthy_bool hQ
  · have kp : ∀ b o, s.heap.get? b = some o → h'.get? b = some o := fun b o e => hk b o (fun hm => by
      rw [List.mem_singleton.mp hm] at e
      exact Nat.lt_irrefl _ (Heap.lt_size e)) (Heap.get?_push_of_some _ e)
    refine ⟨.bl _, H, I.kept kp, rfl, ?_⟩
    rw [List.size_toArray, ← hlen, range_all_get]
    exact q
theorem call_sum (hc : X.calm = true) : CallR X (.builtin "sum") (fun xs H Q => ∃ (p : Addr) (ns : List Int), xs = [.ref p] ∧ SqL X.K H p (ns.map V.int) ∧ Q (.int ns.sum) H) := by
  intro pins s σ H xs us Q I r h
  obtain ⟨p, ns, rfl, hq, q⟩ := h
  obtain ⟨u, rfl, rx⟩ := vals1 r
  cases rx
  obtain ⟨its, r', pl, hz⟩ := I.list hq
  have hi : IntsAre its ns := intsAre_of r'
  obtain ⟨zs, hx⟩ := hi.allInts.items
  have hl' : s.heap.IsList p (intItems zs) := hx ▸ pl.isList
  refine sum_intListG (I.ok.hd hc) hl' fun h' tk t' hk => ?_
  have e1 : ns = zs.toList.map (·.1) := by
    rw [← nums_intItems, ← hx]
    exact (show numsOf its.toArray.toList = ns from hi.numsOf).symm
  have e2 : preSum (numAt zs) zs.size = ns.sum := by
    rw [preSum_eq, List.take_of_length_le (by simp), e1]
  rw [e2]
  exact ⟨.int ns.sum, H, I.kept hk, ⟨_, rfl⟩, q⟩
theorem call_isinst : CallR X (.builtin "isinstance") (fun xs H Q => ∃ x T t b, xs = [x, .ty T] ∧ TyOf X.K H x t ∧ PySem.W.kitOne X.K t (.type T) = some b ∧ Q (.bl b) H) := by
  intro pins s σ H xs us Q I r h
  obtain ⟨x, T, t, b, rfl, ty, e, q⟩ := h
  obtain ⟨u, w', rfl, rx, ry⟩ := vals2 r
  cases ry
  exact isinst_ok I rx ty e fun tk => ⟨.bl b, H, I.tok _, rfl, q⟩
end
end L2
namespace L2
open PySem PySem.Spec PyProof.Rows
def met (acc : List Str) (x : Str) : List Str := if acc.any (· == x) then acc else acc ++ [x]
def dd (xs : List Str) : List Str := xs.foldl met []
theorem dd_snoc (xs : List Str) (x : Str) : dd (xs ++ [x]) = met (dd xs) x := by
  unfold dd
  rw [List.foldl_append]
  rfl
theorem met_any (acc : List Str) (x k : Str) : (met acc x).any (· == k) = (acc.any (· == k) || decide (k = x)) := by
  unfold met
  by_cases h : acc.any (· == x) = true
  · rw [if_pos h]
    by_cases e : k = x
    · subst e; rw [h]; simp
    · simp [e]
  · rw [if_neg h, List.any_append]
    by_cases e : k = x
    · subst e; simp
    · have hb : (x == k) = false := by simpa [beq_iff_eq] using (fun z : x = k => e z.symm)
      simp [hb, e]
theorem met_len (acc : List Str) (x : Str) : (met acc x).length = if acc.any (· == x) = true then acc.length else acc.length + 1 := by
  unfold met
  split <;> simp
theorem dd_le (xs : List Str) : (dd xs).length ≤ xs.length := by
  suffices h : ∀ acc : List Str, (xs.foldl met acc).length ≤ acc.length + xs.length by have := h []; unfold dd; simpa using this
  induction xs with
  | nil => intro acc; simp
  | cons x r ih =>
    intro acc
    rw [List.foldl_cons]
    have h1 := ih (met acc x)
    have h2 := met_len acc x
    rw [List.length_cons]
    split at h2 <;> omega
theorem dd_any (xs : List Str) (k : Str) : (dd xs).any (· == k) = xs.any (· == k) := by
  suffices h : ∀ acc : List Str, (xs.foldl met acc).any (· == k) = (acc.any (· == k) || xs.any (· == k)) by have := h []; unfold dd; simpa using this
  induction xs with
  | nil => intro acc; simp
  | cons x r ih =>
    intro acc
    rw [List.foldl_cons, ih, met_any, List.any_cons, Bool.or_assoc]
    congr 2
    by_cases e : k = x
    · subst e; simp
    · have e' : ¬ x = k := fun z => e z.symm
      simp [e, e']
theorem dd_nodup {xs : List Str} (h : xs.Nodup) : (dd xs).length = xs.length := by
  suffices g : ∀ acc : List Str, (∀ x ∈ xs, acc.any (· == x) = false) → (xs.foldl met acc).length = acc.length + xs.length by have := g [] (fun _ _ => rfl); unfold dd; simpa using this
  induction xs with
  | nil => intro acc _; simp
  | cons x r ih =>
    intro acc ha
    obtain ⟨hx, hr⟩ := List.nodup_cons.mp h
    rw [List.foldl_cons, ih hr (met acc x) (fun y hy => ?_), met_len, ha x List.mem_cons_self]
    · simp; omega
    · rw [met_any, ha y (List.mem_cons_of_mem _ hy)]
      have : y ≠ x := fun e => hx (e ▸ hy)
      simp [this]
theorem dd_dup {xs : List Str} (h : ¬ xs.Nodup) : (dd xs).length < xs.length := by
  suffices g : ∀ acc : List Str, ¬ xs.Nodup → (xs.foldl met acc).length < acc.length + xs.length by have := g [] h; unfold dd; simpa using this
  clear h
  have le : ∀ (ys acc : List Str), (ys.foldl met acc).length ≤ acc.length + ys.length := fun ys => by
    induction ys with
    | nil => intro acc; simp
    | cons x r ih =>
      intro acc
      rw [List.foldl_cons]
      have h1 := ih (met acc x)
      have h2 := met_len acc x
      rw [List.length_cons]
      split at h2 <;> omega
  have mem : ∀ (ys acc : List Str) (x : Str), x ∈ ys → acc.any (· == x) = true → (ys.foldl met acc).length < acc.length + ys.length := fun ys => by
    induction ys with
    | nil => intro acc x hx _; cases hx
    | cons y r ih =>
      intro acc x hx ha
      rw [List.foldl_cons, List.length_cons]
      rcases List.mem_cons.mp hx with e | hx
      · subst e
        have h1 := le r (met acc x)
        have h2 := met_len acc x
        rw [if_pos ha] at h2
        omega
      · have h1 := ih (met acc y) x hx (by rw [met_any, ha]; rfl)
        have h2 := met_len acc y
        split at h2 <;> omega
  induction xs with
  | nil => intro acc h; exact absurd List.nodup_nil h
  | cons x r ih =>
    intro acc h
    rw [List.foldl_cons, List.length_cons]
    by_cases hx : x ∈ r
    · have h1 := mem r (met acc x) x hx (by rw [met_any]; simp)
      have h2 := met_len acc x
      split at h2 <;> omega
    · have h1 := ih (met acc x) (fun hr => h (List.nodup_cons.mpr ⟨hx, hr⟩))
      have h2 := met_len acc x
      split at h2 <;> omega
abbrev setO (led : Bool) : Obj := { cls := .type "set", dict := none, data := .set #[] 0 (.fresh 0 0 led) }
section
variable {P : Program} {w : World} {A : Around} {R : Result → Shared → Prop} {E : Value → Shared → Prop} {s : Shared}
theorem lay_strs {I : Addr} {fp wr : List Addr} {G : Array GenState → Array GenState → Prop} {n : Nat} {Pv : Nat → Value → Prop} {St : Nat → Shared → Prop} (W : WalksS P w A.in1 I fp wr G n Pv St) (S : Addr) (hS : S ∉ fp) (xs : List Str) (hn : xs.length = n)
    (hv : ∀ i v, Pv i v → ∃ t, v = .str (xs.getD i "") t) (hb : n + 1 < scanBound) :
    ∀ (k i : Nat) (z : Shared), n - i = k → i ≤ n → St i z → z.heap.SetOf (strKind P w) S (fun q => (dd (xs.take i)).any (· == q)) (dd (xs.take i)).length →
      (∀ z', Moved (S :: wr) G z z' → z'.heap.SetOf (strKind P w) S (fun q => (dd xs).any (· == q)) (dd xs).length → R (.ok (.ret .none)) z') →
      codeAny (model P w) A (.builtin "set.update.loop" ⟨[.ref S, .ref I], []⟩) R z := by
  have notw : S ∉ wr := fun h => hS (W.sub _ h)
  have more : ∀ b ∈ wr, b ∈ S :: wr := fun b h => List.mem_cons_of_mem _ h
  intro k
  induction k with
  | zero =>
    intro i z hk hi st hset fin
    have ei : i = n := by omega
    subst ei
    refine codeAny_builtin PyProof.Rows.F.entry_set_update_loop ?_
    rw [Around.under_plainId PyProof.Rows.F.plain_set_update_loop _]
    show wpAny _ A.in1 (pyNext (.ref I) >>= _) _ _ z
    refine wpAny_bind (W.done z _ _ st fun z' mv => ?_)
    show wpAny _ A.in1 (ret Value.none) _ _ z'
    refine wpAny_pure (fin z' (mv.mono more) ?_)
    rw [← hn, List.take_length] at hset
    obtain ⟨o, es, ep, t, ho, more'⟩ := hset
    exact ⟨o, es, ep, t, mv.heap S _ notw ho, more'⟩
  | succ k ih =>
    intro i z hk hi st hset fin
    have il : i < n := by omega
    refine codeAny_builtin PyProof.Rows.F.entry_set_update_loop ?_
    rw [Around.under_plainId PyProof.Rows.F.plain_set_update_loop _]
    show wpAny _ A.in1 (pyNext (.ref I) >>= _) _ _ z
    refine wpAny_bind (W.item i z _ _ il st fun v z' pv st' mv => ?_)
    obtain ⟨t, rfl⟩ := hv i v pv
    have hset' : z'.heap.SetOf (strKind P w) S (fun q => (dd (xs.take i)).any (· == q)) (dd (xs.take i)).length := by
      obtain ⟨o, es, ep, tb, ho, more'⟩ := hset
      exact ⟨o, es, ep, tb, mv.heap S _ notw ho, more'⟩
    show wpAny _ A.in1 (holding [Value.str (xs.getD i "") t] (setAdd S (.str (xs.getD i "") t)) >>= _) _ _ z'
    refine wpAny_bind (wpAny_holding ?_)
    unfold setAdd
    refine wpAny_holding ?_
    refine wpAny_bind ((strKind P w).pyHash (k := xs.getD i "") (strKind_is _ _ _ _) ?_)
    have hroom : (dd (xs.take i)).length + 1 < scanBound := by
      have := dd_le (xs.take i)
      rw [List.length_take] at this
      omega
    have et : xs.take (i + 1) = xs.take i ++ [xs.getD i ""] := by
      rw [List.take_succ, List.getD_eq_getElem?_getD, List.getElem?_eq_getElem (by omega)]
      rfl
    refine wpAny_setAddHashed_of (knd := strKind P w) (s := { z' with toks := z'.toks + 1 }) (strKind_is _ _ _ _) rfl hset' hroom fun h' sb s2 => ?_
    have hset2 : h'.SetOf (strKind P w) S (fun q => (dd (xs.take (i + 1))).any (· == q)) (dd (xs.take (i + 1))).length :=
      SetOf_congr s2 (fun q => by rw [et, dd_snoc, met_any]) (by rw [et, dd_snoc, met_len])
    refine wpAny_pure ⟨plainId_quiet PyProof.Rows.F.plain_set_update_loop _, ih (i + 1) _ (by omega) il (W.frame _ z' _ _ st' (Nat.le_succ _) fun b hb' o e => ?_) hset2 fun z'' mv2 s3 => ?_⟩
    · rw [sb.2 b (fun h : b = S => hS (by rw [← h]; exact hb'))]; exact e
    · refine fin z'' (Moved.trans W.gtrans ((mv.mono more).then_heap (Nat.le_succ _) fun b o hb' e => ?_) mv2) s3
      rw [sb.2 b (fun h : b = S => hb' (by rw [h]; exact List.mem_cons_self))]; exact e
theorem strs_at {xs : List Str} : ∀ {us : List Value}, Vals (xs.map V.str) us → ∀ (i : Nat) (v : Value), us[i]? = some v → ∃ t, v = .str (xs.getD i "") t := by
  intro us r i v h
  have hl := r.length
  rw [List.length_map] at hl
  have hi : i < xs.length := by have := (List.getElem?_eq_some_iff.mp h).1; omega
  obtain ⟨u, hu, t, e⟩ := r.get (i := i) (x := .str xs[i]) (by rw [List.getElem?_map, List.getElem?_eq_getElem hi]; rfl)
  rw [h] at hu
  cases hu
  refine ⟨t, ?_⟩
  rw [e, List.getD_eq_getElem?_getD, List.getElem?_eq_getElem hi]
  rfl
set_option maxHeartbeats 8000000 in
theorem set_strs {l : Addr} {us : List Value} {xs : List Str} {Q : Value → Shared → Prop} (hh : A.handled = none) (hl : s.heap.IsList l us.toArray) (r : Vals (xs.map V.str) us) (hb : xs.length + 1 < scanBound)
    (h : ∀ (h' : Heap) (tk : Nat), h'.SetOf (strKind P w) s.heap.objs.size (fun q => (dd xs).any (· == q)) (dd xs).length → (∀ b o, s.heap.get? b = some o → h'.get? b = some o) → Q (.ref s.heap.objs.size) { s with heap := h', toks := tk }) :
    wpAny (model P w) A (call (.type "set") [.ref l]) Q E s := by
  have hlen : xs.length = us.toArray.size := by have := r.length; rw [List.length_map] at this; simpa using this
  obtain ⟨cc, tl, hmro⟩ := F.called_set.mro
  have made := F.called_set.made
  have sub := F.called_set.sub
  refine wpAny_call (codeAny_of_tree ?_)
  show wpAny _ _ (callAny (.type "set") _) _ _ _
  refine wpAny_pure ⟨Code.quiet_builtin _ (by decide +kernel), codeAny_builtin F.entry_type_call ?_⟩
  rw [Around.under_plain (weight_type_call_type "set" [.ref l] []) rfl]
  have a1 := F.called_set.notType
  have a2 := F.called_set.canCreate
  have a3 := F.typeCall_set_1 (.ref l)
  repeat (any_goals (first | assumption | wp_step))
  refine codeAny_mono (code_set_new_1 (.ref l) (E := E) (Q₁ := fun ob z => ∃ led : Bool, ob = .ref s.heap.objs.size ∧ z = { s with heap := s.heap.push { cls := .type "set", dict := none, data := .set #[] 0 (.fresh 0 0 led) } }) fun led => ⟨led, rfl, rfl⟩) fun res z hres => ?_
  cases res with
  | error e => exact hres
  | ok fl =>
    cases fl with
    | ret ob =>
      obtain ⟨led, rfl, rfl⟩ := hres
      have gS : (s.heap.push (setO led)).get? s.heap.objs.size = some (setO led) := Heap.get?_push_size _ rfl
      have tS : Shared.TypeIs { s with heap := s.heap.push (setO led) } (.ref s.heap.objs.size) "set" := ⟨_, gS, rfl⟩
      have b1 := F.called_set.init.lookup
      have b2 := F.called_set.init.bind (.ref s.heap.objs.size)
      repeat (any_goals (first | assumption | wp_step))
      refine codeAny_mono (codeAny_call_builtin (R := wants (fun v z => v = .none ∧ ∃ h' tk, z = { s with heap := h', toks := tk } ∧ h'.SetOf (strKind P w) s.heap.objs.size (fun q => (dd xs).any (· == q)) (dd xs).length ∧ (∀ b o, s.heap.get? b = some o → h'.get? b = some o)) E)
        F.called_set.init.plain F.entry_set_init (check_set_init_1 tS ?_)) fun res2 z2 hres2 => ?_
      · obtain ⟨ol, gl, cl, nl, dl⟩ := hl
        obtain ⟨ocls, odict, odata, oslots⟩ := ol
        have cl' : ocls = .type "list" := cl
        have dl' : odata = .seq us.toArray nl := dl
        subst cl' dl'
        have gl' : (s.heap.push (setO led)).get? l = some { cls := .type "list", dict := odict, data := .seq us.toArray nl, slots := oslots } := Heap.get?_push_of_some _ gl
        have c1 := F.sub_list_set
        have c2 := F.sub_list_frozenset
        have c3 : (Value.type "list" == Value.type "dict") = false := by decide
        have isl : (s.heap.push (setO led)).IsList l us.toArray := ⟨_, gl', rfl, nl, rfl⟩
        unfold Builtin.«set.__init__» noKeywords Builtin.Frozenset.updateFrom
        generalize hit : pyIter = itf
        wp_walk
        subst hit
        refine wpAny_pyIter_list isl ?_
        refine wpAny_bind (wpAny_runValue ?_)
        have ltl : l < s.heap.objs.size := Heap.lt_size gl
        have hd3 : A.in1.in1.in1.handled = none := by simp [hh]
        have sz1 : (s.heap.push (setO led)).objs.size = s.heap.objs.size + 1 := Heap.size_push ..
        have nel : l ≠ (s.heap.push (setO led)).objs.size := by rw [sz1]; exact Nat.ne_of_lt (Nat.lt_succ_of_lt ltl)
        have nin : s.heap.objs.size ∉ [(s.heap.push (setO led)).objs.size, l] := by
          rw [sz1]
          simp only [List.mem_cons, List.not_mem_nil, or_false, not_or]
          exact ⟨Nat.ne_of_lt (Nat.lt_succ_self _), Nat.ne_of_gt ltl⟩
        refine lay_strs ((Walks.list hd3 _ l nel us.toArray).toS) s.heap.objs.size nin xs hlen (fun i v hv => strs_at r i v (by simpa using hv)) (by rw [← hlen]; exact hb) (us.toArray.size - 0) 0 _ (by omega) (Nat.zero_le _)
          ⟨⟨_, Heap.get?_push_size _ rfl, rfl, rfl⟩, isl.push _⟩ ?s0 ?fin
        case s0 =>
          have gg : ((s.heap.push (setO led)).push { cls := .type "list_iterator", data := .fields #[.ref l, .int 0 0] }).get? s.heap.objs.size = some (setO led) := Heap.get?_push_of_some _ gS
          exact SetOf_congr ((setObjOf_fresh (knd := strKind P w) led).setOf gg (by unfold scanBound; omega)) (fun _ => rfl) rfl
        case fin =>
          intro z mv sz
          obtain ⟨h', g', d', tk', os'⟩ := z
          have e1 : g' = s.gens := mv.gens
          have e2 : d' = s.drawn := mv.drawn
          have e3 : os' = s.os := mv.os
          subst e1 e2 e3
          show wpAny _ _ _ _ _ _
          refine wpAny_pure ?_
          show wpAny _ _ (ret Value.none) _ _ _
          refine wpAny_pure ⟨rfl, h', tk', rfl, sz, fun b o e => ?_⟩
          have lb := Heap.lt_size e
          have n1 : b ≠ s.heap.objs.size := Nat.ne_of_lt lb
          have n2 : b ≠ (s.heap.push (setO led)).objs.size := by rw [sz1]; exact Nat.ne_of_lt (Nat.lt_succ_of_lt lb)
          exact mv.heap b o (by simp only [List.mem_cons, List.not_mem_nil, or_false, not_or]; exact ⟨n1, n2⟩) (Heap.get?_push_of_some _ (Heap.get?_push_of_some _ e))
      · cases res2 with
        | error e => exact hres2
        | ok fl2 =>
          cases fl2 with
          | ret v =>
            obtain ⟨rfl, h', tk, rfl, sS, kk⟩ := hres2
            repeat (any_goals (first | assumption | wp_step))
            exact h _ _ sS kk
          | _ => exact hres2.elim
    | _ => exact hres.elim
end
end L2
namespace L2
open PySem PySem.Spec PyProof.Rows
section
variable {X : Cx}
def SetN (P : Program) (w : World) (a : Addr) (n : Nat) : HO := .ext fun h => ∃ S, h.SetOf (strKind P w) a S n
theorem call_set (hc : X.calm = true) : CallR X (.type "set") (fun xs H Q => ∃ (p : Addr) (ts : List Str), xs = [.ref p] ∧ SqL X.K H p (ts.map V.str) ∧ ts.length ≤ 100 ∧ ∀ q, H q = none → Q (.ref q) (upd H q (SetN X.prog X.w q (dd ts).length))) := by
  intro pins s σ H xs us Q I r h
  obtain ⟨p, ts, rfl, hq, h100, q⟩ := h
  obtain ⟨u, rfl, rx⟩ := vals1 r
  cases rx
  obtain ⟨its, r', pl, hz⟩ := I.list hq
  refine set_strs (I.ok.hd hc) pl.isList r' (Nat.lt_of_le_of_lt (Nat.add_le_add_right h100 1) (by decide)) fun h' tk hS hk => ?_
  refine ⟨.ref s.heap.objs.size, _, I.laid hk (Nat.le_refl _) (o := SetN X.prog X.w s.heap.objs.size (dd ts).length) ?_, rfl, q _ (I.hok.fresh (Nat.le_refl _))⟩
  refine ⟨⟨_, hS⟩, ?_, ?_⟩
  · obtain ⟨o, es, ep, t, ho, _⟩ := hS
    exact ⟨o, ho⟩
  · rintro h1 h2 ⟨S, o, es, ep, t, ho, rest⟩ k
    exact ⟨S, o, es, ep, t, k o ho, rest⟩
theorem call_len_set' : CallR X (.builtin "len") (fun xs H Q => ∃ (p : Addr) (n : Nat), xs = [.ref p] ∧ H p = some (SetN X.prog X.w p n) ∧ Q (.int n) H) := by
  intro pins s σ H xs us Q I r h
  obtain ⟨p, n, rfl, hp, q⟩ := h
  obtain ⟨u, rfl, rx⟩ := vals1 r
  cases rx
  obtain ⟨⟨S, o, es, ep, t, ho, hex, hd, _, _, hb, hf, hn⟩, _⟩ := I.hok p _ hp
  have h63 : (es.size : Int) < 2 ^ 63 := by
    have h1 : scanBound < 2 ^ 63 := by decide
    omega
  refine call_len_set ho hex hd hf h63 ⟨.int n, H, I.tok _, ⟨s.toks + 1, ?_⟩, q⟩
  rw [hn]
def DicK (K : PySem.W.Frag) (P : Program) (w : World) (a : Addr) (kvs : List (Str × Value)) : Prop := (a == sysModules) = false ∧ ∃ o, K.lookup a = some o ∧ o.IsDictOf (strKind P w) kvs
theorem ix_dicK {a : Addr} {kvs : List (Str × Value)} (hd : DicK X.K X.prog X.w a kvs) : IxR X (fun x y H Q => ∃ k u v, x = .ref a ∧ y = .str k ∧ valueAt kvs k = some u ∧ RelV v u ∧ Q v H) := by
  intro value slice pins s σ H x y v u Q I rx ry h hs
  obtain ⟨k, z, vv, rfl, rfl, hv, rv, q⟩ := h
  cases rx
  obtain ⟨t, rfl⟩ := ry
  obtain ⟨_, o, hk, hdd⟩ := hd
  have D : s.heap.DictOf (strKind X.prog X.w) a kvs := Heap.dictOf_iff.mpr ⟨o, I.kIn a o hk, hdd⟩
  exact tail_any D.typeIs slot_dict_getitem.lookup (wpAny_getItem_of (strKind_is _ _ k t) D.mapOf hv ⟨vv, H, I.tok _, rv, q⟩) hs
theorem op_notIn_dicK {a : Addr} {kvs : List (Str × Value)} (hd : DicK X.K X.prog X.w a kvs) : OpR X (compareOp .NotIn) (fun x y H Q => ∃ k, x = .str k ∧ y = .ref a ∧ Q (.bl (!(valueAt kvs k).isSome)) H) := by
  intro pins s σ H x y v u Q I rx ry h
  obtain ⟨k, rfl, rfl, q⟩ := h
  cases ry
  obtain ⟨t, rfl⟩ := rx
  obtain ⟨hs, o, hk, hdd⟩ := hd
  have D : s.heap.DictOf (strKind X.prog X.w) a kvs := Heap.dictOf_iff.mpr ⟨o, I.kIn a o hk, hdd⟩
  exact wpAny_notIn_of (strKind_is _ _ k t) hs D.mapOf ⟨.bl _, H, I.tok _, rfl, q⟩
end
end L2
namespace L2
open PySem PySem.Spec PyProof.Rows
theorem bt_len : bootBuiltins "len" = some (.builtin "len") := by decide +kernel
theorem bt_all : bootBuiltins "all" = some (.builtin "all") := by decide +kernel
theorem bt_sum : bootBuiltins "sum" = some (.builtin "sum") := by decide +kernel
theorem bt_isinstance : bootBuiltins "isinstance" = some (.builtin "isinstance") := by decide +kernel
theorem bt_int : bootBuiltins "int" = some (.type "int") := by decide +kernel
theorem bt_bool : bootBuiltins "bool" = some (.type "bool") := by decide +kernel
theorem bt_str : bootBuiltins "str" = some (.type "str") := by decide +kernel
theorem bt_tuple : bootBuiltins "tuple" = some (.type "tuple") := by decide +kernel
theorem bt_list : bootBuiltins "list" = some (.type "list") := by decide +kernel
theorem bt_set : bootBuiltins "set" = some (.type "set") := by decide +kernel
theorem rel_of_abs {v : V} {u : Value} (h : absV u = some v) : RelV v u := by
  cases u <;> simp only [absV, Option.some.injEq, reduceCtorEq] at h <;> subst h <;> first | exact rfl | exact ⟨_, rfl⟩
theorem vals_of_abs : ∀ {us : List Value} {xs : List V}, us.map absV = xs.map some → Vals xs us
  | [], [], _ => .nil
  | u :: us, x :: xs, h => by
    rw [List.map_cons, List.map_cons] at h
    injection h with h1 h2
    exact .cons (rel_of_abs h1) (vals_of_abs h2)
  | [], _ :: _, h => by cases h
  | _ :: _, [], h => by cases h
theorem sqT_K {K : PySem.W.Frag} {H : Hp} {p : Addr} {od : Option Addr} {it : Array Value} {n : Nat} {sl : Array (Option Value)} {xs : List V} (l : K.lookup p = some ⟨.type "tuple", od, .seq it n, sl⟩) (v : it.toList.map absV = xs.map some) (hz : xs.length ≤ 1000) : SqT K H p xs := by
  have r := vals_of_abs v
  refine .inr ⟨_, it, n, l, rfl, rfl, ?_, r⟩
  have e : xs.length = it.size := by have := r.length; simpa using this
  rw [← e]
  exact Nat.le_of_lt (small1000 hz)
theorem dk_nil {P : Program} {w : World} : Pairs (strKind P w) [] [] ∧ ∀ e ∈ ([] : List DictEntry), ∃ k, (strKind P w).is k e.key = true ∧ e.hash = (strKind P w).hash k := ⟨.nil, fun _ h => nomatch h⟩
theorem dk_cons {P : Program} {w : World} {k : Str} {t : Tok} {v : Value} {es : List DictEntry} {kvs : List (Str × Value)} (h : Pairs (strKind P w) es kvs ∧ ∀ e ∈ es, ∃ k, (strKind P w).is k e.key = true ∧ e.hash = (strKind P w).hash k) :
    Pairs (strKind P w) (⟨hashStr w k, .str k t, v⟩ :: es) ((k, v) :: kvs) ∧ ∀ e ∈ (⟨hashStr w k, .str k t, v⟩ :: es : List DictEntry), ∃ k, (strKind P w).is k e.key = true ∧ e.hash = (strKind P w).hash k := by
  refine ⟨.cons (strKind_is _ _ k t) rfl h.1, fun e he => ?_⟩
  rcases List.mem_cons.mp he with z | z
  · subst z; exact ⟨k, strKind_is _ _ k t, rfl⟩
  · exact h.2 e z
theorem dicK_mk {P : Program} {w : World} {K : PySem.W.Frag} {p : Addr} {es : Array DictEntry} {ep : Nat} {el : List DictEntry} {kvs : List (Str × Value)} (l : K.lookup p = some ⟨.type "dict", none, .dict es ep, #[]⟩) (e : es.toList = el) (s : (p == sysModules) = false)
    (h : Pairs (strKind P w) el kvs ∧ ∀ e ∈ el, ∃ k, (strKind P w).is k e.key = true ∧ e.hash = (strKind P w).hash k) (nd : (kvs.map (·.1)).Nodup) : DicK K P w p kvs := by
  subst e
  exact ⟨s, _, l, es, ep, ⟨rfl, rfl, rfl⟩, rfl, fun x hx => h.2 x (by simpa using hx), h.1, nd⟩
end L2
namespace Sen
open PySem
inductive Sn where
  | c0 (y : Bool)
  | mk (x : Str)
  | nt (s : Sn)
  | b2 (o : Fin 4) (s t : Sn)
  | q1 (o : Bool) (x : Str) (s : Sn)
def w2 : Fin 4 → Str
  | 0 => "and"
  | 1 => "or"
  | 2 => "either"
  | 3 => "if"
namespace Sn
def word : Sn → Str
  | c0 true => "yes"
  | c0 false => "no"
  | mk _ => "mark"
  | nt _ => "not"
  | b2 o _ _ => w2 o
  | q1 true _ _ => "some"
  | q1 false _ _ => "each"
def letters : Sn → List Str
  | mk x => [x]
  | q1 _ x _ => [x]
  | _ => []
def parts : Sn → List Sn
  | nt s => [s]
  | b2 _ s t => [s, t]
  | q1 _ _ s => [s]
  | _ => []
def count : Sn → Nat
  | nt s => 1 + s.count
  | b2 _ s t => 1 + (s.count + t.count)
  | q1 _ _ s => 1 + s.count
  | _ => 1
def depth : Sn → Nat
  | nt s => 1 + s.depth
  | b2 _ s t => 1 + max s.depth t.depth
  | q1 _ _ s => 1 + s.depth
  | _ => 1
def inO (os : List Str) : Sn → Prop
  | c0 _ => True
  | mk x => x ∈ os
  | nt s => s.inO os
  | b2 _ s t => s.inO os ∧ t.inO os
  | q1 _ x s => x ∈ os ∧ s.inO os
theorem depth_pos : ∀ s : Sn, 1 ≤ s.depth
  | c0 _ => Nat.le_refl _
  | mk _ => Nat.le_refl _
  | nt _ => by unfold depth; omega
  | b2 _ _ _ => by unfold depth; omega
  | q1 _ _ _ => by unfold depth; omega
theorem count_parts : ∀ s : Sn, s.count = 1 + (s.parts.map count).sum
  | c0 _ => rfl
  | mk _ => rfl
  | nt _ => by simp [count, parts]
  | b2 _ _ _ => by simp [count, parts]
  | q1 _ _ _ => by simp [count, parts]
theorem depth_parts : ∀ (s : Sn), ∀ t ∈ s.parts, t.depth + 1 ≤ s.depth
  | c0 _, t, h => by simp [parts] at h
  | mk _, t, h => by simp [parts] at h
  | nt s, t, h => by simp [parts] at h; subst h; show t.depth + 1 ≤ 1 + t.depth; omega
  | b2 _ s u, t, h => by
    simp [parts] at h
    rcases h with h | h
    · subst h; show t.depth + 1 ≤ 1 + max t.depth u.depth; omega
    · subst h; show t.depth + 1 ≤ 1 + max s.depth t.depth; omega
  | q1 _ _ s, t, h => by simp [parts] at h; subst h; show t.depth + 1 ≤ 1 + t.depth; omega
theorem inO_parts {os : List Str} : ∀ (s : Sn), s.inO os → ∀ t ∈ s.parts, t.inO os
  | c0 _, _, t, h => by simp [parts] at h
  | mk _, _, t, h => by simp [parts] at h
  | nt s, q, t, h => by simp [parts] at h; subst h; exact q
  | b2 _ s u, q, t, h => by
    simp [parts] at h
    rcases h with h | h <;> subst h
    · exact q.1
    · exact q.2
  | q1 _ _ s, q, t, h => by simp [parts] at h; subst h; exact q.2
theorem inO_letters {os : List Str} : ∀ (s : Sn), s.inO os → ∀ x ∈ s.letters, x ∈ os
  | c0 _, _, t, h => by simp [letters] at h
  | mk _, q, t, h => by simp [letters] at h; subst h; exact q
  | nt s, q, t, h => by simp [letters] at h
  | b2 _ s u, q, t, h => by simp [letters] at h
  | q1 _ _ s, q, t, h => by simp [letters] at h; subst h; exact q.1
end Sn
end Sen
namespace L2
open PySem PySem.Spec PyProof.Rows
def strsOf : List Expr → Option (List Str)
  | [] => some []
  | .Constant (.str x) _ _ :: r => (strsOf r).map (x :: ·)
  | _ => none
theorem strsOf_cons {e : Expr} {r : List Expr} {xs : List Str} (h : strsOf (e :: r) = some xs) : ∃ x j p ys, e = .Constant (.str x) j p ∧ strsOf r = some ys ∧ xs = x :: ys := by
  cases e with
  | Constant c j p =>
    cases c with
    | str x =>
      have h' : (strsOf r).map (x :: ·) = some xs := h
      cases hr : strsOf r with
      | none => rw [hr] at h'; cases h'
      | some ys =>
        rw [hr] at h'
        exact ⟨x, j, p, ys, rfl, rfl, (Option.some.inj h').symm⟩
    | _ => cases h
  | _ => cases h
def tStrs (xs : List Str) : TA := fun _ H Q => Q (xs.map V.str) H
def tStrL (xs : List Str) : TE := fun _ H Q => xs.length ≤ sizeLine ∧ ∀ p, H p = none → Q (.ref p) (upd H p (.lst (xs.map V.str)))
def tStrT (xs : List Str) : TE := fun _ H Q => xs.length ≤ sizeLine ∧ ∀ p, H p = none → Q (.ref p) (upd H p (.tup (xs.map V.str)))
section
variable {X : Cx}
theorem pa_strs {es : List Expr} : ∀ {xs : List Str}, strsOf es = some xs → PA X es (tStrs xs) := by
  induction es with
  | nil =>
    intro xs h
    cases h
    exact fun pos pins s σ H Q I q => pa_nil pos pins s σ H Q I q
  | cons e r ih =>
    intro xs h
    obtain ⟨x, j, p, ys, rfl, hr, rfl⟩ := strsOf_cons h
    exact fun pos pins s σ H Q I q => pa_cons (pe_str (x := x) (j := j) (pos := p)) (ih hr) rfl pos pins s σ H Q I q
theorem pe_strs {es : List Expr} {pos : Pos} {xs : List Str} (h : strsOf es = some xs) : PE X (.List es pos) (tStrL xs) := by
  intro pins s σ H Q I q
  refine pe_lst (pa_strs h) pins s σ H Q I ⟨?_, q.2⟩
  rw [List.length_map]; exact q.1
theorem pe_strsT {es : List Expr} {pos : Pos} {x1} {xs : List Str} (h : strsOf es = some xs) : PE X (.Tuple es x1 pos) (tStrT xs) := by
  intro pins s σ H Q I q
  refine pe_tup (pa_strs h) pins s σ H Q I ⟨?_, q.2⟩
  rw [List.length_map]; exact q.1
def litAsg : Stmt → Option (Str × List Str)
  | .Assign [.Name x _] (.List es _) _ => (strsOf es).map (x, ·)
  | _ => none
theorem litAsg_shape {st : Stmt} {x : Str} {xs : List Str} (h : litAsg st = some (x, xs)) : ∃ p es q r, st = .Assign [.Name x p] (.List es q) r ∧ strsOf es = some xs := by
  unfold litAsg at h
  split at h
  · rename_i y p es q r
    cases hs : strsOf es with
    | none => rw [hs] at h; cases h
    | some ys =>
      rw [hs] at h
      cases h
      exact ⟨_, _, _, _, rfl, hs⟩
  · cases h
theorem ps_litL {i : Nat} {x : Str} {xs : List Str} {st : Stmt} (h : litAsg st = some (x, xs)) (hN : X.N.Nodup) (hi : X.N[i]? = some x) (hx : Loc X.env.scope x) (hf : X.fn x = true ∨ X.env.scope.names.lookup x = some .local) : PS X st (tAsg (tStrL xs) (gName i)) := by
  obtain ⟨p, es, q, r, rfl, hs⟩ := litAsg_shape h
  exact ps_set hN hi hx (pe_strs hs) rfl hf
end
end L2
set_option exponentiation.threshold 20000
namespace Sen
open PySem L2
section
variable {K : PySem.W.Frag}
theorem same_new {H : Hp} {p : Addr} (h : H p = none) (o : HO) : Same H (upd H p o) := fun b u q => by rw [upd_ne (ne_of_none q h)]; exact q
inductive spCellAt (K : PySem.W.Frag) (vs : List V) (H : Hp) (Q : VK) (E9 : XK) : Prop
  | mk (l : Addr) (ns : List Int) (i : Int) (_ : vs = [.ref l, .int i]) (_ : SqL K H l (ns.map V.int)) (_ : 0 ≤ i) (_ : ∀ v : Int, Q (.int v) H) : spCellAt K vs H Q E9
inductive spWhole (vs : List V) (H : Hp) (Q : VK) (E9 : XK) : Prop
  | mk (i : Int) (_ : vs = [.int i]) (_ : Q (.bl true) H) : spWhole vs H Q E9
inductive spDraw (vs : List V) (H : Hp) (Q : VK) (E9 : XK) : Prop
  | mk (c : Int) (k : Nat) (b : Int) (_ : vs = [.int c, .int k, .int b]) (_ : k ≤ 40) (_ : 0 < b) (_ : b < 1073741824) (_ : ∀ r : Int, 0 ≤ r → r < b → Q (.int r) H) : spDraw vs H Q E9
def letts : List Str := ["a", "b", "c", "d", "e", "f", "g", "h"]
structure IsOrd (os : List Str) : Prop where
  nd : os.Nodup
  mem : ∀ x ∈ os, x ∈ letts
  pos : 0 < os.length
theorem nodup_le {α : Type} [DecidableEq α] : ∀ {xs ys : List α}, xs.Nodup → (∀ x ∈ xs, x ∈ ys) → xs.length ≤ ys.length
  | [], _, _, _ => Nat.zero_le _
  | x :: xs, ys, nd, h => by
    obtain ⟨h1, h2⟩ := List.nodup_cons.mp nd
    have hx := h x List.mem_cons_self
    have ih := nodup_le (xs := xs) (ys := ys.erase x) h2 fun y hy => (List.mem_erase_of_ne (fun e : y = x => h1 (by rw [← e]; exact hy))).mpr (h y (List.mem_cons_of_mem _ hy))
    rw [List.length_erase_of_mem hx] at ih
    have := List.length_pos_of_mem hx
    rw [List.length_cons]
    omega
theorem lett_at {i : Nat} (h : i < 8) : ∃ c, atI (Str.ofString "abcdefgh").cps.toList (i : Int) = some c ∧ letts[i]? = some ⟨#[c]⟩ := by
  match i, h with
  | 0, _ => exact ⟨97, by decide +kernel, by decide +kernel⟩
  | 1, _ => exact ⟨98, by decide +kernel, by decide +kernel⟩
  | 2, _ => exact ⟨99, by decide +kernel, by decide +kernel⟩
  | 3, _ => exact ⟨100, by decide +kernel, by decide +kernel⟩
  | 4, _ => exact ⟨101, by decide +kernel, by decide +kernel⟩
  | 5, _ => exact ⟨102, by decide +kernel, by decide +kernel⟩
  | 6, _ => exact ⟨103, by decide +kernel, by decide +kernel⟩
  | 7, _ => exact ⟨104, by decide +kernel, by decide +kernel⟩
theorem letts_nodup : letts.Nodup := by decide +kernel
theorem lett_new {i : Nat} {y : Str} (h : letts[i]? = some y) : y ∉ letts.take i := fun hm => by
  obtain ⟨j, hj⟩ := List.getElem?_of_mem hm
  have hlt : j < i := by
    have := (List.getElem?_eq_some_iff.mp hj).1
    rw [List.length_take] at this
    omega
  rw [List.getElem?_take_of_lt hlt] at hj
  have h1 := (List.getElem?_eq_some_iff.mp hj)
  have h2 := (List.getElem?_eq_some_iff.mp h)
  obtain ⟨l1, e1⟩ := h1
  obtain ⟨l2, e2⟩ := h2
  have := (List.getElem_inj letts_nodup).mp (e1.trans e2.symm)
  omega
def IsS (H : Hp) : Sn → Addr → Prop
  | .c0 y, p => H p = some (.tup [.str (Sn.word (.c0 y))])
  | .mk x, p => H p = some (.tup [.str "mark", .str x])
  | .nt s, p => ∃ q, H p = some (.tup [.str "not", .ref q]) ∧ IsS H s q
  | .b2 o s t, p => ∃ q r, H p = some (.tup [.str (w2 o), .ref q, .ref r]) ∧ IsS H s q ∧ IsS H t r
  | .q1 o x s, p => ∃ q, H p = some (.tup [.str (if o then "some" else "each"), .str x, .ref q]) ∧ IsS H s q
def Tups (H H' : Hp) : Prop := ∀ b xs, H b = some (.tup xs) → H' b = some (.tup xs)
theorem Tups.refl (H : Hp) : Tups H H := fun _ _ h => h
theorem Tups.trans {H H1 H2 : Hp} (a : Tups H H1) (b : Tups H1 H2) : Tups H H2 := fun c o h => b c o (a c o h)
theorem Tups.of {H H' : Hp} (g : Same H H') : Tups H H' := fun b xs h => g b _ h
theorem Tups.new {H : Hp} {p : Addr} (h : H p = none) (o : HO) : Tups H (upd H p o) := fun b u q => by rw [upd_ne (ne_of_none q h)]; exact q
theorem Tups.lst {H : Hp} {p : Addr} {xs : List V} (h : H p = some (.lst xs)) (o : HO) : Tups H (upd H p o) := fun b u q => by rw [upd_ne (ne_of q h (fun z => nomatch z))]; exact q
theorem IsS.mono {H H' : Hp} (g : Tups H H') : ∀ {s : Sn} {p : Addr}, IsS H s p → IsS H' s p
  | .c0 y, p, h => g _ _ h
  | .mk x, p, h => g _ _ h
  | .nt s, p, ⟨q, h, k⟩ => ⟨q, g _ _ h, k.mono g⟩
  | .b2 o s t, p, ⟨q, r, h, k, l⟩ => ⟨q, r, g _ _ h, k.mono g, l.mono g⟩
  | .q1 o x s, p, ⟨q, h, k⟩ => ⟨q, g _ _ h, k.mono g⟩
theorem q1_word (o : Bool) (x : Str) (s : Sn) : Sn.word (.q1 o x s) = if o then Str.ofString "some" else Str.ofString "each" := by cases o <;> rfl
theorem IsS.shape {H : Hp} : ∀ {s : Sn} {p : Addr}, IsS H s p → ∃ qs : List Addr, H p = some (.tup (.str s.word :: (s.letters.map V.str ++ qs.map V.ref))) ∧ Paired (IsS H) s.parts qs
  | .c0 y, p, h => ⟨[], h, .nil⟩
  | .mk x, p, h => ⟨[], h, .nil⟩
  | .nt s, p, ⟨q, h, k⟩ => ⟨[q], h, .cons k .nil⟩
  | .b2 o s t, p, ⟨q, r, h, k, l⟩ => ⟨[q, r], h, .cons k (.cons l .nil)⟩
  | .q1 o x s, p, ⟨q, h, k⟩ => ⟨[q], by rw [q1_word]; exact h, .cons k .nil⟩
theorem atI_has {α : Type} {xs : List α} {i : Int} (h0 : -(xs.length : Int) ≤ i) (h1 : i < xs.length) : ∃ (j : Nat) (v : α), atI xs i = some v ∧ xs[j]? = some v := by
  by_cases h : 0 ≤ i
  · have hj : i.toNat < xs.length := by omega
    have q := atI_nat (xs := xs) (j := i.toNat) (List.getElem?_eq_getElem hj)
    have e : ((i.toNat : Nat) : Int) = i := by omega
    rw [e] at q
    exact ⟨_, _, q, List.getElem?_eq_getElem hj⟩
  · have hj : (i + xs.length).toNat < xs.length := by omega
    refine ⟨_, _, ?_, List.getElem?_eq_getElem hj⟩
    unfold atI ixN
    rw [if_neg h, if_pos h0]
    show xs[(i + xs.length).toNat]? = _
    exact List.getElem?_eq_getElem hj
def kindsS : List Str := ["mark", "mark", "not", "and", "or", "either", "if", "and", "or", "some", "each", "yes", "no", "mark"]
structure Made (H0 H : Hp) (os : List Str) (m kd : Addr) (ps : List Addr) (d : Nat) : Prop where
  old : Same H0 H
  mad : H m = some (.lst (ps.map V.ref))
  kin : H kd = some (.lst (kindsS.map V.str))
  ne : ps ≠ []
  all : ∀ p ∈ ps, ∃ s, IsS H s p ∧ s.inO os ∧ s.depth ≤ d
theorem Made.push {H0 H : Hp} {os : List Str} {m kd p : Addr} {ps : List Addr} {d : Nat} {xs : List V} (M : Made H0 H os m kd ps d) (fm : H0 m = none) (hp : H p = none) {s : Sn} (hs : IsS (upd H p (.tup xs)) s p) (ho : s.inO os) (hd : s.depth ≤ d + 1) (hk : m ≠ kd) :
    Made H0 (upd (upd H p (.tup xs)) m (.lst ((ps ++ [p]).map V.ref))) os m kd (ps ++ [p]) (d + 1) := by
  have hm : m ≠ p := ne_of_none M.mad hp
  have hkp : kd ≠ p := ne_of_none M.kin hp
  have mad' : (upd H p (.tup xs)) m = some (.lst (ps.map V.ref)) := by rw [upd_ne hm]; exact M.mad
  have t1 : Tups H (upd H p (.tup xs)) := Tups.new hp _
  have t2 : Tups (upd H p (.tup xs)) (upd (upd H p (.tup xs)) m (.lst ((ps ++ [p]).map V.ref))) := Tups.lst mad' _
  refine ⟨fun b o h => ?_, upd_same, ?_, by simp, fun q hq => ?_⟩
  · have h1 := M.old b o h
    rw [upd_ne (ne_of_none h fm), upd_ne (ne_of_none h1 hp)]
    exact h1
  · rw [upd_ne (Ne.symm hk), upd_ne hkp]; exact M.kin
  · rcases List.mem_append.mp hq with z | z
    · obtain ⟨s', q1, q2, q3⟩ := M.all q z
      exact ⟨s', (q1.mono t1).mono t2, q2, by omega⟩
    · have z' : q = p := by simpa using z
      subst z'
      exact ⟨s, hs.mono t2, ho, hd⟩
inductive spSentence (K : PySem.W.Frag) (vs : List V) (H : Hp) (Q : VK) (E9 : XK) : Prop
  | mk (sc ol : Addr) (ns : List Int) (t m : Nat) (os : List Str) (_ : vs = [.ref sc, .int t, .int m, .ref ol]) (_ : SqL K H sc (ns.map V.int)) (_ : SqL K H ol (os.map V.str)) (_ : 0 < os.length) (_ : os.length ≤ 8) (_ : 0 < m) (_ : m ≤ 40) (_ : t ≤ 60) (_ : ∀ (p : Addr) (H' : Hp) (s : Sn), Same H H' → IsS H' s p → s.inO os → s.depth ≤ m → Q (.ref p) H') : spSentence K vs H Q E9
theorem pick_letter {os : List Str} (h0 : 0 < os.length) (r : Int) : ∃ x, x ∈ os ∧ atI (os.map V.str) (r % ((os.map V.str).length : Nat)) = some (.str x) := by
  have e : (os.map V.str).length = os.length := List.length_map _
  have m0 : 0 ≤ r % ((os.map V.str).length : Nat) := Int.emod_nonneg _ (by omega)
  have m1 : r % ((os.map V.str).length : Nat) < ((os.map V.str).length : Nat) := Int.emod_lt_of_pos _ (by omega)
  obtain ⟨j, v, q1, q2⟩ := atI_has (xs := os.map V.str) (i := r % ((os.map V.str).length : Nat)) (by omega) m1
  rw [List.getElem?_map] at q2
  cases hx : os[j]? with
  | none => rw [hx] at q2; cases q2
  | some x =>
    rw [hx] at q2
    cases q2
    exact ⟨x, List.mem_of_getElem? hx, q1⟩
theorem pick_made {ps : List Addr} {i : Int} (h0 : -(ps.length : Int) ≤ i) (h1 : i < ps.length) : ∃ p, p ∈ ps ∧ atI (ps.map V.ref) i = some (.ref p) := by
  have e : (ps.map V.ref).length = ps.length := List.length_map _
  obtain ⟨j, v, q1, q2⟩ := atI_has (xs := ps.map V.ref) (i := i) (by omega) (by omega)
  rw [List.getElem?_map] at q2
  cases hx : ps[j]? with
  | none => rw [hx] at q2; cases q2
  | some x =>
    rw [hx] at q2
    cases q2
    exact ⟨x, List.mem_of_getElem? hx, q1⟩
end
end Sen
namespace L2
open PySem
section
variable {α β : Type} {R S : α → β → Prop}
theorem pd_app : ∀ {xs ys : List α} {us ws : List β}, Paired R xs us → Paired R ys ws → Paired R (xs ++ ys) (us ++ ws)
  | _, _, _, _, .nil, s => s
  | _, _, _, _, .cons r t, s => .cons r (pd_app t s)
theorem pd_imp (f : ∀ a b, R a b → S a b) : ∀ {xs : List α} {us : List β}, Paired R xs us → Paired S xs us
  | _, _, .nil => .nil
  | _, _, .cons r t => .cons (f _ _ r) (pd_imp f t)
theorem pd_len : ∀ {xs : List α} {us : List β}, Paired R xs us → xs.length = us.length
  | _, _, .nil => rfl
  | _, _, .cons _ t => by rw [List.length_cons, List.length_cons, pd_len t]
theorem pd_ta : ∀ {xs : List α} {us : List β} {i : Nat} {u : β}, Paired R xs us → us[i]? = some u → ∃ x, xs[i]? = some x ∧ R x u
  | _, _, _, _, .nil, e => by simp at e
  | _, _, 0, _, .cons r _, e => by simp at e; subst e; exact ⟨_, rfl, r⟩
  | _, _, i + 1, x, .cons _ t, e => by
    obtain ⟨u, h1, h2⟩ := pd_ta (i := i) (u := x) t (by simpa using e)
    exact ⟨u, by simpa using h1, h2⟩
theorem take_next {α : Type} {xs : List α} {i : Nat} {x : α} (h : xs[i]? = some x) : xs.take (i + 1) = xs.take i ++ [x] := by
  rw [List.take_succ, h]
  rfl
theorem Same.seqT {K : PySem.W.Frag} {H H' : Hp} {a : Addr} {xs : List V} (e : Same H H') (h : SqT K H a xs) : SqT K H' a xs := by
  rcases h with (h | ⟨o, h⟩) | h
  · exact .inl (.inl (e _ _ h))
  · exact .inl (.inr ⟨o, e _ _ h⟩)
  · exact .inr h
theorem Same.new {H : Hp} {p : Addr} (h : H p = none) (o : HO) : Same H (upd H p o) := fun b u q => by rw [upd_ne (ne_of_none q h)]; exact q
theorem Same.over {H H' : Hp} {p : Addr} (g : Same H H') (h : H p = none) (o : HO) : Same H (upd H' p o) := fun b u q => by rw [upd_ne (ne_of_none q h)]; exact g b u q
theorem at0 {α : Type} {x : α} {xs : List α} : atI (x :: xs) 0 = some x := atI_nat (j := 0) rfl
theorem at1 {α : Type} {x y : α} {xs : List α} : atI (x :: y :: xs) 1 = some y := atI_nat (j := 1) rfl
end
section
variable {K : PySem.W.Frag} {a : Addr} {xs : List V} {σ : St} {js : List Nat} {te : TE} {H : Hp} {Qf : Addr → Hp → List V → Prop}
theorem lc_relL (R : V → V → Prop) (hq : SqL K H a xs) (hz : xs.length ≤ sizeLine)
    (hs : ∀ (i : Nat) x H', xs[i]? = some x → Same H H' → te (lcS σ js (some x)) H' fun v H3 => R x v ∧ Same H H3)
    (me : ∀ σ H Q Q', (∀ v H1, Q v H1 → Q' v H1) → te σ H Q → te σ H Q')
    (hd : ∀ ys H' p, Paired R xs ys → Same H H' → H' p = none → Qf p H' ys) :
    ∃ W : Nat → Nat → List V → Hp → Prop, (∃ m, W 0 m [] H) ∧ ∀ i m ys H, W i m ys H →
      ((Itl K a).stop i H ∧ ∀ p, H p = none → Qf p H ys) ∨
      ((Itl K a).go i H ∧ ys.length < sizeLine ∧ ∀ x H', (Itl K a).yld i H x H' → tYes (lcS σ js (some x)) H' fun b H2 =>
        if b = true then te (lcS σ js (some x)) H2 fun v H3 => ∃ m', m' < m ∧ W (i + 1) m' (ys ++ [v]) H3 else ∃ m', m' < m ∧ W (i + 1) m' ys H2) := by
  refine lc_list (fun i ys H' => Same H H' ∧ Paired R (xs.take i) ys) ⟨Same.refl _, .nil⟩ hz ?_ ?_ (fun _ _ _ _ h q => h _ _ q) me ?_
  · rintro i ys H' hi ⟨g, r⟩
    have := pd_len r
    rw [List.length_take] at this
    exact ⟨g.seq hq, by omega⟩
  · rintro i x ys H' hx ⟨g, r⟩
    show te (lcS σ js (some x)) H' fun v H3 => Same H H3 ∧ Paired R (xs.take (i + 1)) (ys ++ [v])
    refine me _ _ _ _ (fun v H3 h3 => ⟨h3.2, ?_⟩) (hs i x H' hx g)
    rw [take_next hx]
    exact pd_app r (.cons h3.1 .nil)
  · rintro ys H' p ⟨g, r⟩ hp
    rw [List.take_length] at r
    exact hd ys H' p r g hp
theorem lc_relT (R : V → V → Prop) (hq : SqT K H a xs) (hz : xs.length ≤ sizeLine)
    (hs : ∀ (i : Nat) x H', xs[i]? = some x → Same H H' → te (lcS σ js (some x)) H' fun v H3 => R x v ∧ Same H H3)
    (me : ∀ σ H Q Q', (∀ v H1, Q v H1 → Q' v H1) → te σ H Q → te σ H Q')
    (hd : ∀ ys H' p, Paired R xs ys → Same H H' → H' p = none → Qf p H' ys) :
    ∃ W : Nat → Nat → List V → Hp → Prop, (∃ m, W 0 m [] H) ∧ ∀ i m ys H, W i m ys H →
      ((Itt K a).stop i H ∧ ∀ p, H p = none → Qf p H ys) ∨
      ((Itt K a).go i H ∧ ys.length < sizeLine ∧ ∀ x H', (Itt K a).yld i H x H' → tYes (lcS σ js (some x)) H' fun b H2 =>
        if b = true then te (lcS σ js (some x)) H2 fun v H3 => ∃ m', m' < m ∧ W (i + 1) m' (ys ++ [v]) H3 else ∃ m', m' < m ∧ W (i + 1) m' ys H2) := by
  refine lc_tup (fun i ys H' => Same H H' ∧ Paired R (xs.take i) ys) ⟨Same.refl _, .nil⟩ hz ?_ ?_ (fun _ _ _ _ h q => h _ _ q) me ?_
  · rintro i ys H' hi ⟨g, r⟩
    have := pd_len r
    rw [List.length_take] at this
    exact ⟨g.seqT hq, by omega⟩
  · rintro i x ys H' hx ⟨g, r⟩
    show te (lcS σ js (some x)) H' fun v H3 => Same H H3 ∧ Paired R (xs.take (i + 1)) (ys ++ [v])
    refine me _ _ _ _ (fun v H3 h3 => ⟨h3.2, ?_⟩) (hs i x H' hx g)
    rw [take_next hx]
    exact pd_app r (.cons h3.1 .nil)
  · rintro ys H' p ⟨g, r⟩ hp
    rw [List.take_length] at r
    exact hd ys H' p r g hp
theorem pd_map {f : V → V} : ∀ {xs ys : List V}, Paired (fun x v => v = f x) xs ys → ys = xs.map f
  | _, _, .nil => rfl
  | _, _, .cons r t => by rw [List.map_cons, r, pd_map t]
end
section
variable {X : Cx} {K : PySem.W.Frag} {a : Expr} {ta : TE}
theorem op_inK (h : X.K = K) : OpR X (compareOp .In) (rIn K false) := by subst h; exact op_in_seq
theorem call_isinstK (h : X.K = K) : CallR X (.builtin "isinstance") (fun xs H Q => ∃ x T t b, xs = [x, .ty T] ∧ TyOf K H x t ∧ PySem.W.kitOne K t (.type T) = some b ∧ Q (.bl b) H) := by subst h; exact call_isinst
theorem ix_tupK (h : X.K = K) : IxR X (rIxT K) := by subst h; exact ix_tup
theorem pt_truthK (h : X.K = K) (ha : PE X a ta) (he : ∀ whole, isTrue a X.env whole = (do let v ← whole; standAt a.pos; holding [v] (truthy v))) : PT X a (fun σ H Q => ta σ H fun x H' => ∃ k, TruV K x H' k ∧ Q k H') := by subst h; exact pt_truth ha he
def SpMono (sp : Sp) : Prop := ∀ vs H Q Q' E, (∀ v H1, Q v H1 → Q' v H1) → sp vs H Q E → sp vs H Q' E
theorem mono1 {sp : Sp} (m : SpMono sp) : ∀ σ H Q Q', (∀ v H1, Q v H1 → Q' v H1) → tCall sp [] E0 (tCons (tVar 0) tNil) σ H Q → tCall sp [] E0 (tCons (tVar 0) tNil) σ H Q' :=
  fun σ H Q Q' h ⟨v, e, q⟩ => ⟨v, e, m _ _ _ _ _ h q⟩
theorem inV_strs (x : Str) (ts : List Str) : inV (.str x) (ts.map V.str) = decide (x ∈ ts) := by
  induction ts with
  | nil => rfl
  | cons t r ih =>
    have e : inV (.str x) ((t :: r).map V.str) = ((t == x) || inV (.str x) (r.map V.str)) := rfl
    rw [e, ih]
    by_cases h : t = x
    · subst h; simp
    · have h' : ¬ x = t := fun z => h z.symm
      simp [h, h']
theorem flat_strs (ts : List Str) : (ts.map V.str).all flatV = true := by
  rw [List.all_map, List.all_eq_true]
  exact fun _ _ => rfl
theorem cut_fore {w : V} {rest : List V} {m n : Nat} (h : rest.length = m + n) : cutV (w :: rest) (some 1) (some (1 + (m : Int))) = rest.take m := by
  have e1 : HT.sIx (w :: rest).length 0 (some 1) = min 1 (w :: rest).length := HT.sIx_nat _ _ 1
  have e2 : HT.sIx (w :: rest).length (w :: rest).length (some (1 + (m : Int))) = min (1 + m) (w :: rest).length := by
    have z : (1 : Int) + (m : Int) = ((1 + m : Nat) : Int) := by omega
    rw [z]; exact HT.sIx_nat _ _ _
  have l : (w :: rest).length = m + n + 1 := by rw [List.length_cons, h]
  unfold cutV
  rw [e1, e2, l, Nat.min_eq_left (by omega), Nat.min_eq_left (by omega), List.drop_one, List.tail_cons]
  congr 1
  omega
theorem cut_rear {w : V} {rest : List V} {m n : Nat} (h : rest.length = m + n) : cutV (w :: rest) (some (1 + (m : Int))) none = rest.drop m := by
  have e2 : HT.sIx (w :: rest).length 0 (some (1 + (m : Int))) = min (1 + m) (w :: rest).length := by
    have z : (1 : Int) + (m : Int) = ((1 + m : Nat) : Int) := by omega
    rw [z]; exact HT.sIx_nat _ _ _
  have l : (w :: rest).length = m + n + 1 := by rw [List.length_cons, h]
  unfold cutV
  rw [e2, HT.sIx_none, l, Nat.min_eq_left (by omega), Nat.add_comm 1 m, List.drop_succ_cons, List.take_of_length_le]
  rw [List.length_drop, h]
  omega
theorem cut_tail {w : V} {rest : List V} : cutV (w :: rest) (some 1) none = rest := by
  have := cut_rear (w := w) (rest := rest) (m := 0) (n := rest.length) (by omega)
  simpa using this
theorem not_whole1 {w : V} {rest : List V} {i : Int} {o : Option Int} (h : 1 ≤ i) : ¬ (HT.sIx (w :: rest).length 0 (some i) = 0 ∧ HT.sIx (w :: rest).length (w :: rest).length o = (w :: rest).length) := by
  rintro ⟨h1, _⟩
  have e : HT.sIx (w :: rest).length 0 (some i) = min i.toNat (w :: rest).length := by
    have z := HT.sIx_nat (w :: rest).length 0 i.toNat
    have z2 : ((i.toNat : Nat) : Int) = i := by omega
    rw [z2] at z
    exact z
  rw [e, List.length_cons] at h1
  omega
end
end L2
namespace Sen
open PySem L2
section
variable {K : PySem.W.Frag}
def Sn.all : Sn → List Str
  | .c0 _ => []
  | .mk x => [x]
  | .nt s => s.all
  | .b2 _ s t => s.all ++ t.all
  | .q1 _ x s => x :: s.all
theorem Sn.all_iff : ∀ (s : Sn) (x : Str), x ∈ s.all ↔ x ∈ s.letters ∨ ∃ t ∈ s.parts, x ∈ t.all
  | .c0 _, x => by simp [Sn.all, Sn.letters, Sn.parts]
  | .mk y, x => by simp [Sn.all, Sn.letters, Sn.parts]
  | .nt s, x => by simp [Sn.all, Sn.letters, Sn.parts]
  | .b2 _ s t, x => by simp [Sn.all, Sn.letters, Sn.parts]
  | .q1 _ y s, x => by simp [Sn.all, Sn.letters, Sn.parts]
theorem Sn.inO_iff {os : List Str} : ∀ (s : Sn), s.inO os ↔ ∀ x ∈ s.all, x ∈ os
  | .c0 _ => by simp [Sn.all, Sn.inO]
  | .mk y => by simp [Sn.all, Sn.inO]
  | .nt s => by simp only [Sn.all, Sn.inO]; exact Sn.inO_iff s
  | .b2 _ s t => by
    simp only [Sn.all, Sn.inO, List.mem_append]
    rw [Sn.inO_iff s, Sn.inO_iff t]
    exact ⟨fun h x hx => hx.elim (h.1 x) (h.2 x), fun h => ⟨fun x hx => h x (.inl hx), fun x hx => h x (.inr hx)⟩⟩
  | .q1 _ y s => by
    simp only [Sn.all, Sn.inO, List.mem_cons]
    rw [Sn.inO_iff s]
    exact ⟨fun h x hx => hx.elim (fun e => by rw [e]; exact h.1) (h.2 x), fun h => ⟨h y (.inl rfl), fun x hx => h x (.inr hx)⟩⟩
theorem Sn.parts_le : ∀ s : Sn, s.parts.length ≤ 2
  | .c0 _ => by simp [Sn.parts]
  | .mk _ => by simp [Sn.parts]
  | .nt _ => by simp [Sn.parts]
  | .b2 _ _ _ => by simp [Sn.parts]
  | .q1 _ _ _ => by simp [Sn.parts]
theorem Sn.letters_le : ∀ s : Sn, s.letters.length ≤ 1
  | .c0 _ => by simp [Sn.letters]
  | .mk _ => by simp [Sn.letters]
  | .nt _ => by simp [Sn.letters]
  | .b2 _ _ _ => by simp [Sn.letters]
  | .q1 _ _ _ => by simp [Sn.letters]
def cnt (ss : List Sn) : Nat := (ss.map Sn.count).sum
theorem cnt_cons (s : Sn) (ss : List Sn) : cnt (s :: ss) = s.count + cnt ss := rfl
theorem cnt_app (ss ts : List Sn) : cnt (ss ++ ts) = cnt ss + cnt ts := by
  unfold cnt; rw [List.map_append, List.sum_append]
theorem cnt_parts : ∀ ss : List Sn, cnt ss = ss.length + cnt (ss.flatMap Sn.parts)
  | [] => rfl
  | s :: ss => by
    rw [cnt_cons, List.flatMap_cons, cnt_app, cnt_parts ss, Sn.count_parts s, List.length_cons]
    show 1 + cnt s.parts + _ = _
    omega
theorem cnt_len (ss : List Sn) : ss.length ≤ cnt ss := by rw [cnt_parts]; omega
theorem mem_level {ss : List Sn} {t : Sn} : t ∈ ss.flatMap Sn.parts ↔ ∃ s ∈ ss, t ∈ s.parts := List.mem_flatMap
inductive spIsMark (vs : List V) (H : Hp) (Q : VK) (E9 : XK) : Prop
  | mk (x : Str) (_ : vs = [.str x]) (_ : Q (.bl (decide (x ∈ letts))) H) : spIsMark vs H Q E9
theorem mono_isMark : SpMono spIsMark := fun vs H Q Q' E h ⟨x, e, q⟩ => ⟨x, e, h _ _ q⟩
def ordB (os : List Str) : Bool := decide (0 < os.length) && (os.all (fun x => decide (x ∈ letts)) && decide os.Nodup)
inductive spIsOrder (K : PySem.W.Frag) (vs : List V) (H : Hp) (Q : VK) (E9 : XK) : Prop
  | mk (l : Addr) (os : List Str) (_ : vs = [.ref l]) (_ : SqL K H l (os.map V.str)) (_ : os.length ≤ 100) (_ : ∀ H', Same H H' → Q (.bl (ordB os)) H') : spIsOrder K vs H Q E9
def tb_SHAPES : List (Str × Int × Int) := [("yes", 0, 0), ("no", 0, 0), ("mark", 1, 0), ("not", 0, 1), ("and", 0, 2), ("or", 0, 2), ("either", 0, 2), ("if", 0, 2), ("some", 1, 1), ("each", 1, 1)]
theorem shape_in (s : Sn) : (s.word, ((s.letters.length : Nat) : Int), ((s.parts.length : Nat) : Int)) ∈ tb_SHAPES := by
  cases s with
  | c0 y =>
    cases y
    · show ((Str.ofString "no", (0 : Int), (0 : Int)) : Str × Int × Int) ∈ tb_SHAPES
      decide +kernel
    · show ((Str.ofString "yes", (0 : Int), (0 : Int)) : Str × Int × Int) ∈ tb_SHAPES
      decide +kernel
  | mk x =>
    show ((Str.ofString "mark", (1 : Int), (0 : Int)) : Str × Int × Int) ∈ tb_SHAPES
    decide +kernel
  | nt s =>
    show ((Str.ofString "not", (0 : Int), (1 : Int)) : Str × Int × Int) ∈ tb_SHAPES
    decide +kernel
  | b2 o s t =>
    show ((w2 o, (0 : Int), (2 : Int)) : Str × Int × Int) ∈ tb_SHAPES
    revert o
    decide +kernel
  | q1 o x s =>
    cases o
    · show ((Str.ofString "each", (1 : Int), (1 : Int)) : Str × Int × Int) ∈ tb_SHAPES
      decide +kernel
    · show ((Str.ofString "some", (1 : Int), (1 : Int)) : Str × Int × Int) ∈ tb_SHAPES
      decide +kernel
inductive spLettersOf (vs : List V) (H : Hp) (Q : VK) (E9 : XK) : Prop
  | mk (p : Addr) (x : Str) (m n : Nat) (rest : List V) (_ : vs = [.ref p]) (_ : H p = some (.tup (.str x :: rest))) (_ : (x, (m : Int), (n : Int)) ∈ tb_SHAPES) (_ : rest.length = m + n) (_ : ∀ q, H q = none → Q (.ref q) (upd H q (.tup (rest.take m)))) : spLettersOf vs H Q E9
inductive spPartsOf (vs : List V) (H : Hp) (Q : VK) (E9 : XK) : Prop
  | mk (p : Addr) (x : Str) (m n : Nat) (rest : List V) (_ : vs = [.ref p]) (_ : H p = some (.tup (.str x :: rest))) (_ : (x, (m : Int), (n : Int)) ∈ tb_SHAPES) (_ : rest.length = m + n) (_ : ∀ q, H q = none → Q (.ref q) (upd H q (.tup (rest.drop m)))) : spPartsOf vs H Q E9
theorem sen_cut {H : Hp} {s : Sn} {p : Addr} (h : IsS H s p) : ∃ qs : List Addr, H p = some (.tup (.str s.word :: (s.letters.map V.str ++ qs.map V.ref))) ∧ Paired (IsS H) s.parts qs ∧
    (s.letters.map V.str ++ qs.map V.ref).length = s.letters.length + s.parts.length ∧ (s.letters.map V.str ++ qs.map V.ref).take s.letters.length = s.letters.map V.str ∧ (s.letters.map V.str ++ qs.map V.ref).drop s.letters.length = qs.map V.ref := by
  obtain ⟨qs, h1, h2⟩ := h.shape
  have l := pd_len h2
  refine ⟨qs, h1, h2, by simp [l], ?_, ?_⟩
  · rw [List.take_append_of_le_length (by simp), List.take_of_length_le (by simp)]
  · rw [List.drop_append_of_le_length (by simp), List.drop_of_length_le (by simp)]
    rfl
inductive spPartsOfAll (K : PySem.W.Frag) (vs : List V) (H : Hp) (Q : VK) (E9 : XK) : Prop
  | mk (l : Addr) (ss : List Sn) (ps : List Addr) (_ : vs = [.ref l]) (_ : SqL K H l (ps.map V.ref)) (_ : Paired (IsS H) ss ps) (_ : ss.length ≤ 400) (_ : ∀ (l' : Addr) (H' : Hp) (ps' : List Addr), Same H H' → H l' = none → H' l' = some (.lst (ps'.map V.ref)) → Paired (IsS H') (ss.flatMap Sn.parts) ps' → Q (.ref l') H') : spPartsOfAll K vs H Q E9
inductive spShaped (vs : List V) (H : Hp) (Q : VK) (E9 : XK) : Prop
  | mk (p : Addr) (s : Sn) (_ : vs = [.ref p]) (_ : IsS H s p) (_ : (∀ x ∈ s.letters, x ∈ letts)) (_ : ∀ H', Same H H' → Q (.bl true) H') : spShaped vs H Q E9
theorem mono_shaped : SpMono spShaped := fun vs H Q Q' E h ⟨p, s, e, h1, h2, q⟩ => ⟨p, s, e, h1, h2, fun H' g => h _ _ (q H' g)⟩
abbrev VC (sn : Sn) (zs : List Addr) : List V := V.str sn.word :: (sn.letters.map V.str ++ zs.map V.ref)
inductive spIsSen (vs : List V) (H : Hp) (Q : VK) (E9 : XK) : Prop
  | mk (p : Addr) (s : Sn) (_ : vs = [.ref p]) (_ : IsS H s p) (_ : s.inO letts) (_ : s.count ≤ 200) (_ : s.depth ≤ 24) (_ : ∀ H', Same H H' → Q (.bl true) H') : spIsSen vs H Q E9
inductive spMustSen (vs : List V) (H : Hp) (Q : VK) (E9 : XK) : Prop
  | mk (p : Addr) (s : Sn) (_ : vs = [.ref p]) (_ : IsS H s p) (_ : s.inO letts) (_ : s.count ≤ 200) (_ : s.depth ≤ 24) (_ : ∀ H', Same H H' → Q .non H') : spMustSen vs H Q E9
inductive spTuplesIn (vs : List V) (H : Hp) (Q : VK) (E9 : XK) : Prop
  | mk (p : Addr) (s : Sn) (_ : vs = [.ref p]) (_ : IsS H s p) (_ : s.count ≤ 400) (_ : ∀ (l : Addr) (H' : Hp) (ts : List Sn) (ps : List Addr), Same H H' → H l = none → H' l = some (.lst (ps.map V.ref)) → Paired (IsS H') ts ps → ts.length = s.count → (∀ x, (∃ t ∈ ts, x ∈ t.letters) ↔ x ∈ s.all) → Q (.ref l) H') : spTuplesIn vs H Q E9
inductive spLettersIn (vs : List V) (H : Hp) (Q : VK) (E9 : XK) : Prop
  | mk (p : Addr) (s : Sn) (_ : vs = [.ref p]) (_ : IsS H s p) (_ : s.count ≤ 400) (_ : ∀ (l : Addr) (H' : Hp) (xs : List Str), Same H H' → H l = none → H' l = some (.lst (xs.map V.str)) → (∀ x, x ∈ xs ↔ x ∈ s.all) → xs.length ≤ 400 → Q (.ref l) H') : spLettersIn vs H Q E9
end
end Sen
namespace Sen
open PySem L2
section
variable {K : PySem.W.Frag}
def ix (os : List Str) (x : Str) : Nat := os.findIdx (· == x)
end
end Sen
namespace L2
open PySem
def isTupT (K : PySem.W.Frag) : TT := fun σ H Q => tCB (fun xs H Q => ∃ x T t b, xs = [x, V.ty T] ∧ TyOf K H x t ∧ PySem.W.kitOne K t (.type T) = some b ∧ Q (.bl b) H) (tCons (tVar 0) (tCons (tC (.ty "tuple")) tNil)) σ H fun x H' => ∃ k, TruV K x H' k ∧ Q k H'
end L2
namespace Sen
open PySem L2
section
variable {K : PySem.W.Frag}
theorem sum_cast : ∀ ss : List Sn, (ss.map fun t => ((t.count : Nat) : Int)).sum = (((ss.map Sn.count).sum : Nat) : Int)
  | [] => rfl
  | s :: ss => by
    rw [List.map_cons, List.sum_cons, sum_cast ss, List.map_cons, List.sum_cons]
    omega
inductive spCount (d : Nat) (vs : List V) (H : Hp) (Q : VK) (E9 : XK) : Prop
  | mk (p : Addr) (s : Sn) (_ : vs = [.ref p]) (_ : IsS H s p) (_ : s.depth ≤ d) (_ : ∀ H', Same H H' → Q (.int ((s.count : Nat) : Int)) H') : spCount d vs H Q E9
theorem mono_count (d : Nat) : SpMono (spCount d) := fun vs H Q Q' E h ⟨p, s, e, h1, h2, q⟩ => ⟨p, s, e, h1, h2, fun H' g => h _ _ (q H' g)⟩
inductive spLaw (K : PySem.W.Frag) (vs : List V) (H : Hp) (Q : VK) (E9 : XK) : Prop
  | mk (a : Addr) (ns : List Int) (_ : vs = [.ref a]) (_ : SqL K H a (ns.map V.int)) (_ : ns.length ≤ 63) (_ : ∀ H', Q (.bl true) H') : spLaw K vs H Q E9
end
end Sen
namespace L2
open PySem PySem.Spec PyProof.Rows
theorem ln_0 {α : Type} {us : List α} (h : us.length = 0) : us = [] := List.length_eq_zero_iff.mp h
theorem ln_s {α : Type} {us : List α} {n : Nat} (h : us.length = n + 1) : ∃ a vs, us = a :: vs ∧ vs.length = n := by
  cases us with
  | nil => cases h
  | cons a vs => exact ⟨a, vs, rfl, by simpa using h⟩
def fscB (N P : List Str) (sc : Scope) : Bool := (match sc.kind with | .function => true | _ => false) && !sc.isCoroutine && !sc.isGenerator && decide N.Nodup && decide (N.take P.length = P) && P.all (fun x => decide (sc.names.lookup x = some .local ∨ sc.names.lookup x = some .cell)) && sc.names.all (fun y => decide (y.2 ≠ .free))
theorem fsc {N P : List Str} {sc : Scope} (h : fscB N P sc = true) : FnScope N P sc := by
  unfold fscB at h
  simp only [Bool.and_eq_true, Bool.not_eq_true', decide_eq_true_eq, List.all_eq_true] at h
  obtain ⟨⟨⟨⟨⟨⟨h1, h2⟩, h3⟩, h4⟩, h5⟩, h6⟩, h7⟩ := h
  refine ⟨?_, h2, h3, h4, h5, h6, h7⟩
  revert h1
  cases sc.kind <;> simp
structure Df (K : PySem.W.Frag) (mg : Str → Option Value) (x : Str) (st : Stmt) (f : Addr) (d : FuncData) (ps : List Str) : Prop where
  F : Fun K x x st f d
  b : Binds K d ps []
  m : mg x = some (.ref f)
section
variable {K : PySem.W.Frag} {h : Heap} {mg : Str → Option Value} {x q : Str} {st : Stmt} {f C : Addr} {oc : Value} {od an : Option Addr} {osl : Array (Option Value)} {kV doc pm cdv ct : Value} {ps : List Str}
theorem dfm (X : K.In h) (G : h.Ns mainGlobals mg) (n : PySem.W.nsIn K mainGlobals x = some (some (.ref f))) (l : K.lookup f = some ⟨oc, od, .func (PySem.W.fnOf x x (defArgs st) (defBody st) (defScope st) .none kV doc pm an cdv ct), osl⟩)
    (c : PySem.W.codeIn K cdv x = true) (k : PySem.W.keepIn K (.ref f) = true)
    (b : ∀ (kV doc pm : Value) (an : Option Addr) (cdv ct : Value) (us : List Value), us.length = ps.length → bindArgs (PySem.W.fnOf x x (defArgs st) (defBody st) (defScope st) .none kV doc pm an cdv ct) ⟨us, []⟩ = pure (ps.zip us)) :
    Df K mg x st f (PySem.W.fnOf x x (defArgs st) (defBody st) (defScope st) .none kV doc pm an cdv ct) ps := ⟨fun_mk l c k, (fun_mk l c k).binds b, PySem.W.mg_of X G n⟩
theorem sqT_all {p : Addr} {it : Array Value} {n : Nat} {od : Option Addr} {sl : Array (Option Value)} {xs : List V} (l : K.lookup p = some ⟨.type "tuple", od, .seq it n, sl⟩) (v : it.toList.map absV = xs.map some) (h : xs.length ≤ 1000) : ∀ H, SqT K H p xs := fun H => sqT_K l v h
end
section
variable {X : Cx} {CX : CXT} {k : Nat} {f C : Addr} {fd : FuncData} {ps : List Str} {sp : Sp} {st : Stmt} {x q m : Str} {p pos apos : Pos} {e o : Expr} {es : List Expr} {t : TA} {ta : TE} {E : XK}
theorem pe_callD (F : FnOk X.prog X.w X.K X.mg X.base CX0 k f fd ps sp) (hr : Room k X.A) (D : Df X.K X.mg x st f fd ps) (ha : PA X (e :: es) t) (hg : Gl X x := by rfl) (hdb : (x == ("__debug__" : Str)) = false := by decide) (he : starEach (e :: es) X.env = (false, eval e X.env) :: starEach es X.env := by rfl) (hpl : (backTo pos (starEach es X.env)).any (·.1) = false := by rfl) :
    PE X (.Call (.Name x p) (e :: es) [] pos) (tCall sp [] E0 t) := pe_call F hr hg D.m D.F.2 D.b .nil pass0 ha hdb he hpl
end
inductive Ent (K : PySem.W.Frag) (w : World) : List DictEntry → List (Str × Int × Int) → List (Str × Value) → Prop
  | nil : Ent K w [] [] []
  | cons {k : Str} {tk : Tok} {p : Addr} {m n : Int} {od : Option Addr} {it : Array Value} {z : Nat} {sl : Array (Option Value)} {es : List DictEntry} {tb : List (Str × Int × Int)} {kvs : List (Str × Value)} (l : K.lookup p = some ⟨.type "tuple", od, .seq it z, sl⟩) (v : it.toList.map absV = [V.int m, V.int n].map some) (t : Ent K w es tb kvs) :
      Ent K w (⟨hashStr w k, .str k tk, .ref p⟩ :: es) ((k, m, n) :: tb) ((k, .ref p) :: kvs)
structure Shp (K : PySem.W.Frag) (P : Program) (w : World) (a : Addr) (kvs : List (Str × Value)) (tb : List (Str × Int × Int)) : Prop where
  d : DicK K P w a kvs
  y : ∀ k m n, (k, m, n) ∈ tb → ∃ p, valueAt kvs k = some (.ref p) ∧ ∀ H, SqT K H p [.int m, .int n]
  z : ∀ k, (∀ e ∈ tb, e.1 ≠ k) → valueAt kvs k = none
theorem Ent.keys {K : PySem.W.Frag} {w : World} {es : List DictEntry} {tb : List (Str × Int × Int)} {kvs : List (Str × Value)} (h : Ent K w es tb kvs) : kvs.map (·.1) = tb.map (·.1) := by
  induction h with
  | nil => rfl
  | cons _ _ _ ih => rw [List.map_cons, List.map_cons, ih]
theorem shp_mk {K : PySem.W.Frag} {P : Program} {w : World} {a : Addr} {es : Array DictEntry} {ep : Nat} {kvs : List (Str × Value)} {tb : List (Str × Int × Int)} (l : K.lookup a = some ⟨.type "dict", none, .dict es ep, #[]⟩) (s : (a == sysModules) = false) (nd : decide (tb.map (·.1)).Nodup = true) (h : Ent K w es.toList tb kvs) : Shp K P w a kvs tb := by
  have nk : (kvs.map (·.1)).Nodup := by rw [h.keys]; exact of_decide_eq_true nd
  obtain ⟨el, hel⟩ : ∃ el, es.toList = el := ⟨_, rfl⟩
  rw [hel] at h
  refine ⟨dicK_mk l hel s ?_ nk, ?_, ?_⟩
  · clear nd nk l s hel
    induction h with
    | nil => exact dk_nil
    | cons _ _ _ ih => exact dk_cons ih
  · clear nd l s hel
    induction h with
    | nil => intro k m n hm; cases hm
    | @cons k0 tk p m0 n0 od it z sl es tb kvs l v t ih =>
      intro k m n hm
      rw [List.map_cons, List.nodup_cons] at nk
      rcases List.mem_cons.mp hm with e | e
      · cases e
        refine ⟨p, ?_, fun H => sqT_K l v (by show 2 ≤ 1000; decide)⟩
        simp [valueAt]
      · obtain ⟨q, hq, sq⟩ := ih nk.2 k m n e
        refine ⟨q, ?_, sq⟩
        have ne : k0 ≠ k := fun z => nk.1 (by rw [z, t.keys]; exact List.mem_map.mpr ⟨_, e, rfl⟩)
        simp [valueAt, ne] at hq ⊢
        exact hq
  · clear nd nk l s hel
    induction h with
    | nil => intro k _; rfl
    | @cons k0 tk p m0 n0 od it z sl es tb kvs l v t ih =>
      intro k hk
      have ne := hk (k0, m0, n0) (List.mem_cons_self ..)
      have := ih k fun e he => hk e (List.mem_cons_of_mem _ he)
      simp [valueAt] at this ⊢
      exact ⟨ne, this⟩
theorem ps_setA {X : Cx} {pos : Pos} (i : Nat) {x : Str} {e : Expr} {te : TE} {pos' : Pos} (hN : X.N.Nodup) (he : PE X e te) (hi : X.N[i]? = some x := by rfl) (hx : Loc X.env.scope x := by exact Or.inl rfl) (hs : swapsWith e (some (.Name x pos')) pos.line X.env = pure false := by rfl) (hf : X.fn x = true ∨ X.env.scope.names.lookup x = some .local := by first | exact .inl rfl | exact .inr rfl | assumption) :
    PS X (.Assign [.Name x pos'] e pos) (tAsg te (gName i)) := ps_set hN hi hx he hs hf
def lcB (osc sc : Scope) (x : Str) (fv : List Str) : Bool := (match sc.kind with | .function => true | _ => false) && sc.names.all (fun y => decide (y.2 ≠ .cell)) && sc.names.all (fun y => decide (y.2 = .local → sc.names.lookup y.1 = some .local)) && decide (sc.names.lookup x = some .local) && sc.names.all (fun y => decide (y.2 = .free → osc.names.lookup y.1 = some .cell ∨ osc.names.lookup y.1 = some .free)) && fv.all (fun y => decide (sc.names.lookup y = some .free ∧ (osc.names.lookup y = some .cell ∨ osc.names.lookup y = some .free))) && decide (x :: fv).Nodup
theorem lco {osc sc : Scope} {x : Str} {fv : List Str} (h : lcB osc sc x fv = true) : LcOk osc sc x fv := by
  unfold lcB at h
  simp only [Bool.and_eq_true, decide_eq_true_eq, List.all_eq_true] at h
  obtain ⟨⟨⟨⟨⟨⟨h1, h2⟩, h3⟩, h4⟩, h5⟩, h6⟩, h7⟩ := h
  refine ⟨?_, h2, h3, h4, h5, h6, h7⟩
  revert h1
  cases sc.kind <;> simp
end L2
namespace L2
open PySem PySem.Spec PyProof.Rows
inductive EqD (K : PySem.W.Frag) (H : Hp) : Nat → V → V → Bool → Prop
  | flat {n : Nat} {x y : V} (fx : flatV x = true) (fy : flatV y = true) : EqD K H n x y (eqV x y)
  | tt {n : Nat} {p q : Addr} {xs ys : List V} {e : Nat → Bool} (hp : SqT K H p xs) (hq : SqT K H q ys) (h : ∀ (j : Nat) x y, xs[j]? = some x → ys[j]? = some y → EqD K H n x y (e j)) :
      EqD K H (n + 1) (.ref p) (.ref q) ((List.range (min xs.length ys.length)).all e && xs.length == ys.length)
  | ll {n : Nat} {p q : Addr} {xs ys : List V} {e : Nat → Bool} (hp : SqL K H p xs) (hq : SqL K H q ys) (hl : xs.length = ys.length) (h : ∀ (j : Nat) x y, xs[j]? = some x → ys[j]? = some y → EqD K H n x y (e j)) :
      EqD K H (n + 1) (.ref p) (.ref q) ((List.range xs.length).all e)
  | ln {n : Nat} {p q : Addr} {xs ys : List V} (hp : SqL K H p xs) (hq : SqL K H q ys) (hl : xs.length ≠ ys.length) : EqD K H (n + 1) (.ref p) (.ref q) false
  | lt {n : Nat} {p q : Addr} {xs ys : List V} (hp : SqL K H p xs) (hq : SqT K H q ys) : EqD K H (n + 1) (.ref p) (.ref q) false
  | tl {n : Nat} {p q : Addr} {xs ys : List V} (hp : SqT K H p xs) (hq : SqL K H q ys) : EqD K H (n + 1) (.ref p) (.ref q) false
  | lf {n : Nat} {p : Addr} {xs : List V} {y : V} (hp : SqL K H p xs) (fy : flatV y = true) : EqD K H (n + 1) (.ref p) y false
  | fl {n : Nat} {p : Addr} {xs : List V} {y : V} (hp : SqL K H p xs) (fy : flatV y = true) : EqD K H (n + 1) y (.ref p) false
  | tf {n : Nat} {p : Addr} {xs : List V} {y : V} (hp : SqT K H p xs) (fy : flatV y = true) : EqD K H (n + 1) (.ref p) y false
  | ft {n : Nat} {p : Addr} {xs : List V} {y : V} (hp : SqT K H p xs) (fy : flatV y = true) : EqD K H (n + 1) y (.ref p) false
section
variable {X : Cx} {pins : List (Addr × Obj)} {σ : St} {H : Hp} {s : Shared}
theorem eqV_refl {x : V} (f : flatV x = true) : eqV x x = true := by
  cases x <;> first | rfl | (simp [eqV]; done) | exact absurd (show false = true from f) Bool.false_ne_true
theorem list_not_tuple (I : Inv X pins σ H s) {p : Addr} {xs ys : List V} (h : SqL X.K H p xs) (k : SqT X.K H p ys) : False := by
  obtain ⟨_, _, ⟨o, n, e, c, _⟩, _⟩ := I.list h
  obtain ⟨_, _, ⟨o', e', c', _⟩, _⟩ := I.tuple k
  rw [e] at e'
  cases e'
  rw [c] at c'
  injection c' with z
  exact absurd z (by decide)
theorem EqD.refl (I : Inv X pins σ H s) {n : Nat} {x y : V} {b : Bool} (h : EqD X.K H n x y b) : x = y → b = true := by
  induction h with
  | flat fx fy => intro e; subst e; exact eqV_refl fx
  | tt hp hq h ih =>
    intro e
    cases e
    have ee := I.tuple_inj hp hq
    subst ee
    rw [Nat.min_self, beq_self_eq_true, Bool.and_true, List.all_eq_true]
    intro j hj
    have hj' := List.mem_range.mp hj
    exact ih j _ _ (List.getElem?_eq_getElem hj') (List.getElem?_eq_getElem hj') rfl
  | ll hp hq hl h ih =>
    intro e
    cases e
    have ee := I.list_inj hp hq
    subst ee
    rw [List.all_eq_true]
    intro j hj
    have hj' := List.mem_range.mp hj
    exact ih j _ _ (List.getElem?_eq_getElem hj') (List.getElem?_eq_getElem hj') rfl
  | ln hp hq hl =>
    intro e
    cases e
    exact absurd (congrArg List.length (I.list_inj hp hq)) hl
  | lt hp hq => intro e; cases e; exact (list_not_tuple I hp hq).elim
  | tl hp hq => intro e; cases e; exact (list_not_tuple I hq hp).elim
  | lf hp fy => intro e; subst e; exact absurd (show false = true from fy) Bool.false_ne_true
  | fl hp fy => intro e; subst e; exact absurd (show false = true from fy) Bool.false_ne_true
  | tf hp fy => intro e; subst e; exact absurd (show false = true from fy) Bool.false_ne_true
  | ft hp fy => intro e; subst e; exact absurd (show false = true from fy) Bool.false_ne_true
theorem flat_list {A : Around} {u : Value} {y : V} {p : Addr} {its : Array Value} (hl : s.heap.IsList p its) (fy : flatV y = true) (ry : RelV y u) (hu : A.units < cLine) : SeqAt.RcAt A s (.ref p) u false ∧ SeqAt.EqAt A s (.ref p) u false ∧ SeqAt.RcAt A s u (.ref p) false ∧ SeqAt.EqAt A s u (.ref p) false ∧ SeqAt.RcNeAt A s (.ref p) u true ∧ SeqAt.RcNeAt A s u (.ref p) true := by
  cases y with
  | non => cases ry; exact ⟨.list_none hl hu, .list_none hl hu, .none_list hl hu, .none_list hl hu, .list_none hl hu, .none_list hl hu⟩
  | bl b => cases ry; exact ⟨.list_bool b hl hu, .list_bool b hl hu, .bool_list b hl hu, .bool_list b hl hu, .list_bool b hl hu, .bool_list b hl hu⟩
  | int i => obtain ⟨t, rfl⟩ := ry; exact ⟨.list_int i t hl hu, .list_int i t hl hu, .int_list i t hl hu, .int_list i t hl hu, .list_int i t hl hu, .int_list i t hl hu⟩
  | str i => obtain ⟨t, rfl⟩ := ry; exact ⟨.list_str i t hl hu, .list_str i t hl hu, .str_list i t hl hu, .str_list i t hl hu, .list_str i t hl hu, .str_list i t hl hu⟩
  | _ => exact absurd (show false = true from fy) Bool.false_ne_true
theorem flat_tuple {A : Around} {u : Value} {y : V} {p : Addr} {its : Array Value} (hl : s.heap.IsTuple p its) (fy : flatV y = true) (ry : RelV y u) (hu : A.units < cLine) : SeqAt.RcAt A s (.ref p) u false ∧ SeqAt.EqAt A s (.ref p) u false ∧ SeqAt.RcAt A s u (.ref p) false ∧ SeqAt.EqAt A s u (.ref p) false ∧ SeqAt.RcNeAt A s (.ref p) u true ∧ SeqAt.RcNeAt A s u (.ref p) true := by
  cases y with
  | non => cases ry; exact ⟨.tuple_none hl hu, .tuple_none hl hu, .none_tuple hl hu, .none_tuple hl hu, .tuple_none hl hu, .none_tuple hl hu⟩
  | bl b => cases ry; exact ⟨.tuple_bool b hl hu, .tuple_bool b hl hu, .bool_tuple b hl hu, .bool_tuple b hl hu, .tuple_bool b hl hu, .bool_tuple b hl hu⟩
  | int i => obtain ⟨t, rfl⟩ := ry; exact ⟨.tuple_int i t hl hu, .tuple_int i t hl hu, .int_tuple i t hl hu, .int_tuple i t hl hu, .tuple_int i t hl hu, .int_tuple i t hl hu⟩
  | str i => obtain ⟨t, rfl⟩ := ry; exact ⟨.tuple_str i t hl hu, .tuple_str i t hl hu, .str_tuple i t hl hu, .str_tuple i t hl hu, .tuple_str i t hl hu, .str_tuple i t hl hu⟩
  | _ => exact absurd (show false = true from fy) Bool.false_ne_true
theorem item_at {xs : List V} {us : List Value} (r : Vals xs us) {j : Nat} (h : j < us.toArray.size) : ∃ x, xs[j]? = some x ∧ RelV x us.toArray[j] := by
  have hl := r.length
  have hj : j < xs.length := by simp at h; omega
  obtain ⟨u, hu, ru⟩ := r.get (List.getElem?_eq_getElem hj)
  refine ⟨xs[j], List.getElem?_eq_getElem hj, ?_⟩
  have e : us.toArray[j] = u := by
    have := (List.getElem?_eq_some_iff.mp hu).2
    simpa using this
  rw [e]; exact ru
theorem EqD.at {n : Nat} {x y : V} {b : Bool} (h : EqD X.K H n x y b) (I : Inv X pins σ H s) : ∀ {A : Around} {u v : Value}, RelV x u → RelV y v → A.units + n < cLine → SeqAt.EqAt A s u v b := by
  induction h with
  | flat fx fy => intro A u v rx ry _; exact eqAt_V rx ry fx fy
  | @tt n p q xs ys e hp hq h ih =>
    intro A u v rx ry hu
    cases rx
    cases ry
    obtain ⟨us, r1, t1, _⟩ := I.tuple hp
    obtain ⟨ws, r2, t2, _⟩ := I.tuple hq
    have l1 := r1.length
    have l2 := r2.length
    by_cases hne : p = q
    · subst hne
      have z := (EqD.tt hp hq h).refl I rfl
      rw [z]
      exact SeqAt.EqAt.same _
    · refine SeqAt.EqAt.of_refs hne ?_
      have z := SeqAt.RcAt.tuples (A := A) (e := e) t1 t2 (by omega) fun j h1 h2 => by
        obtain ⟨x, hx, rx⟩ := item_at r1 h1
        obtain ⟨y, hy, ry⟩ := item_at r2 h2
        exact ih j x y hx hy rx ry (by show A.units + 1 + n < cLine; omega)
      rw [List.size_toArray, List.size_toArray, ← l1, ← l2] at z
      exact z
  | @ll n p q xs ys e hp hq hl h ih =>
    intro A u v rx ry hu
    cases rx
    cases ry
    obtain ⟨us, r1, t1, _⟩ := I.list hp
    obtain ⟨ws, r2, t2, _⟩ := I.list hq
    have l1 := r1.length
    have l2 := r2.length
    by_cases hne : p = q
    · subst hne
      have z := (EqD.ll hp hq hl h).refl I rfl
      rw [z]
      exact SeqAt.EqAt.same _
    · refine SeqAt.EqAt.of_refs hne ?_
      have z := SeqAt.RcAt.lists (A := A) (e := e) t1.isList t2.isList (by simp; omega) (by omega) fun j h1 h2 => by
        obtain ⟨x, hx, rx⟩ := item_at r1 h1
        obtain ⟨y, hy, ry⟩ := item_at r2 h2
        exact ih j x y hx hy rx ry (by show A.units + 1 + n < cLine; omega)
      rw [List.size_toArray, ← l1] at z
      exact z
  | @ln n p q xs ys hp hq hl =>
    intro A u v rx ry hu
    cases rx
    cases ry
    obtain ⟨us, r1, t1, _⟩ := I.list hp
    obtain ⟨ws, r2, t2, _⟩ := I.list hq
    have l1 := r1.length
    have l2 := r2.length
    have hne : p ≠ q := fun e => by subst e; exact hl (congrArg List.length (I.list_inj hp hq))
    exact SeqAt.EqAt.of_refs hne (SeqAt.RcAt.lists_lengths t1.isList t2.isList (by simp; omega) (by omega))
  | lt hp hq =>
    intro A u v rx ry hu
    cases rx
    cases ry
    obtain ⟨us, r1, t1, _⟩ := I.list hp
    obtain ⟨ws, r2, t2, _⟩ := I.tuple hq
    exact SeqAt.EqAt.list_tuple t1.isList t2 (by omega)
  | tl hp hq =>
    intro A u v rx ry hu
    cases rx
    cases ry
    obtain ⟨us, r1, t1, _⟩ := I.tuple hp
    obtain ⟨ws, r2, t2, _⟩ := I.list hq
    exact SeqAt.EqAt.tuple_list t1 t2.isList (by omega)
  | lf hp fy =>
    intro A u v rx ry hu
    cases rx
    obtain ⟨us, r1, t1, _⟩ := I.list hp
    exact (flat_list t1.isList fy ry (by omega)).2.1
  | fl hp fy =>
    intro A u v rx ry hu
    cases ry
    obtain ⟨us, r1, t1, _⟩ := I.list hp
    exact (flat_list t1.isList fy rx (by omega)).2.2.2.1
  | tf hp fy =>
    intro A u v rx ry hu
    cases rx
    obtain ⟨us, r1, t1, _⟩ := I.tuple hp
    exact (flat_tuple t1 fy ry (by omega)).2.1
  | ft hp fy =>
    intro A u v rx ry hu
    cases ry
    obtain ⟨us, r1, t1, _⟩ := I.tuple hp
    exact (flat_tuple t1 fy rx (by omega)).2.2.2.1
theorem EqD.rc {n : Nat} {x y : V} {b : Bool} (h : EqD X.K H n x y b) (I : Inv X pins σ H s) (hn : ¬ (flatV x = true ∧ flatV y = true)) {A : Around} {u v : Value} (rx : RelV x u) (ry : RelV y v) (hu : A.units + n < cLine) : SeqAt.RcAt A s u v b ∧ SeqAt.RcNeAt A s u v (!b) := by
  cases h with
  | flat fx fy => exact absurd ⟨fx, fy⟩ hn
  | @tt n p q xs ys e hp hq h =>
    cases rx
    cases ry
    obtain ⟨us, r1, t1, _⟩ := I.tuple hp
    obtain ⟨ws, r2, t2, _⟩ := I.tuple hq
    have l1 := r1.length
    have l2 := r2.length
    have he : ∀ j (h1 : j < us.toArray.size) (h2 : j < ws.toArray.size), SeqAt.EqAt A.in1 s us.toArray[j] ws.toArray[j] (e j) := fun j h1 h2 => by
      obtain ⟨x, hx, rx⟩ := item_at r1 h1
      obtain ⟨y, hy, ry⟩ := item_at r2 h2
      exact (h j x y hx hy).at I rx ry (by show A.units + 1 + n < cLine; omega)
    have z := SeqAt.RcAt.tuples (A := A) (e := e) t1 t2 (by omega) he
    have z2 := SeqAt.RcNeAt.tuples (A := A) (e := e) t1 t2 (by omega) he
    rw [List.size_toArray, List.size_toArray, ← l1, ← l2] at z z2
    exact ⟨z, z2⟩
  | @ll n p q xs ys e hp hq hl h =>
    cases rx
    cases ry
    obtain ⟨us, r1, t1, _⟩ := I.list hp
    obtain ⟨ws, r2, t2, _⟩ := I.list hq
    have l1 := r1.length
    have l2 := r2.length
    have he : ∀ j (h1 : j < us.toArray.size) (h2 : j < ws.toArray.size), SeqAt.EqAt A.in1 s us.toArray[j] ws.toArray[j] (e j) := fun j h1 h2 => by
      obtain ⟨x, hx, rx⟩ := item_at r1 h1
      obtain ⟨y, hy, ry⟩ := item_at r2 h2
      exact (h j x y hx hy).at I rx ry (by show A.units + 1 + n < cLine; omega)
    have z := SeqAt.RcAt.lists (A := A) (e := e) t1.isList t2.isList (by simp; omega) (by omega) he
    have z2 := SeqAt.RcNeAt.lists (A := A) (e := e) t1.isList t2.isList (by simp; omega) (by omega) he
    rw [List.size_toArray, ← l1] at z z2
    exact ⟨z, z2⟩
  | @ln n p q xs ys hp hq hl =>
    cases rx
    cases ry
    obtain ⟨us, r1, t1, _⟩ := I.list hp
    obtain ⟨ws, r2, t2, _⟩ := I.list hq
    have l1 := r1.length
    have l2 := r2.length
    exact ⟨SeqAt.RcAt.lists_lengths t1.isList t2.isList (by simp; omega) (by omega), SeqAt.RcNeAt.lists_lengths t1.isList t2.isList (by simp; omega) (by omega)⟩
  | lt hp hq =>
    cases rx
    cases ry
    obtain ⟨us, r1, t1, _⟩ := I.list hp
    obtain ⟨ws, r2, t2, _⟩ := I.tuple hq
    exact ⟨SeqAt.RcAt.list_tuple t1.isList t2 (by omega), SeqAt.RcNeAt.list_tuple t1.isList t2 (by omega)⟩
  | tl hp hq =>
    cases rx
    cases ry
    obtain ⟨us, r1, t1, _⟩ := I.tuple hp
    obtain ⟨ws, r2, t2, _⟩ := I.list hq
    exact ⟨SeqAt.RcAt.tuple_list t1 t2.isList (by omega), SeqAt.RcNeAt.tuple_list t1 t2.isList (by omega)⟩
  | lf hp fy =>
    cases rx
    obtain ⟨us, r1, t1, _⟩ := I.list hp
    have z := flat_list (A := A) t1.isList fy ry (by omega)
    exact ⟨z.1, z.2.2.2.2.1⟩
  | fl hp fy =>
    cases ry
    obtain ⟨us, r1, t1, _⟩ := I.list hp
    have z := flat_list (A := A) t1.isList fy rx (by omega)
    exact ⟨z.2.2.1, z.2.2.2.2.2⟩
  | tf hp fy =>
    cases rx
    obtain ⟨us, r1, t1, _⟩ := I.tuple hp
    have z := flat_tuple (A := A) t1 fy ry (by omega)
    exact ⟨z.1, z.2.2.2.2.1⟩
  | ft hp fy =>
    cases ry
    obtain ⟨us, r1, t1, _⟩ := I.tuple hp
    have z := flat_tuple (A := A) t1 fy rx (by omega)
    exact ⟨z.2.2.1, z.2.2.2.2.2⟩
end
section
variable {X : Cx}
theorem op_eqD {K : PySem.W.Frag} (hK : X.K = K) (hu : X.A.units + 8 < cLine) : OpR X (compareOp .Eq) (fun x y H Q => ∃ b, ¬ (flatV x = true ∧ flatV y = true) ∧ EqD K H 8 x y b ∧ Q (.bl b) H) := by
  subst hK
  intro pins s σ H x y v u Q I rx ry h
  obtain ⟨b, hn, he, q⟩ := h
  exact (he.rc I hn rx ry hu).1 X.prog X.w X.xe _ ⟨.bl b, H, I, rfl, q⟩
theorem op_neD {K : PySem.W.Frag} (hK : X.K = K) (hu : X.A.units + 8 < cLine) : OpR X (compareOp .NotEq) (fun x y H Q => ∃ b, ¬ (flatV x = true ∧ flatV y = true) ∧ EqD K H 8 x y b ∧ Q (.bl (!b)) H) := by
  subst hK
  intro pins s σ H x y v u Q I rx ry h
  obtain ⟨b, hn, he, q⟩ := h
  exact (he.rc I hn rx ry hu).2 X.prog X.w X.xe _ ⟨.bl (!b), H, I, rfl, q⟩
theorem hu8 {A : Around} {k : Nat} (hr : Room k A) : A.units + 8 < cLine := by have := hr.units; omega
theorem any_at {K : PySem.W.Frag} {H : Hp} {x : V} {n : Nat} {e : V → Bool} : ∀ {xs : List V} {us : List Value}, Vals xs us → (∀ y ∈ xs, EqD K H n y x (e y)) → ∃ f : Value → Bool, (∀ (i : Nat) y u, xs[i]? = some y → us[i]? = some u → f u = e y) ∧ us.any f = xs.any e := by
  intro xs us r h
  refine ⟨fun u => match absV u with | some y => e y | none => false, fun i y u hy hu => ?_, ?_⟩
  · obtain ⟨u', hu', ru⟩ := r.get hy
    rw [hu] at hu'
    cases hu'
    show (match absV u with | some y => e y | none => false) = e y
    rw [ru.abs]
  · clear h
    induction r with
    | nil => rfl
    | cons r t ih =>
      rw [List.any_cons, List.any_cons, ih]
      congr 1
      show (match absV _ with | some y => e y | none => false) = _
      rw [r.abs]
def rInD (K : PySem.W.Frag) (neg : Bool) : R2 := fun x y H Q => ∃ (p : Addr) (xs : List V) (e : V → Bool), y = .ref p ∧ (SqL K H p xs ∨ SqT K H p xs) ∧ (∀ z ∈ xs, EqD K H 8 z x (e z)) ∧ Q (.bl (if neg then !xs.any e else xs.any e)) H
theorem op_inD {K : PySem.W.Frag} (hK : X.K = K) (hu : X.A.units + 9 < cLine) : OpR X (compareOp .In) (rInD K false) := by
  subst hK
  intro pins s σ H x y v u Q I rx ry h
  obtain ⟨p, xs, e, rfl, hq, he, q⟩ := h
  cases ry
  rcases hq with hq | hq
  · obtain ⟨us, r, pl, hz⟩ := I.list hq
    obtain ⟨f, f1, f2⟩ := any_at r he
    refine SeqAt.in_listAt f pl.isList (fun w hw => ?_) ⟨.bl _, H, I, rfl, ?_⟩
    · have hw' : w ∈ us := by simpa using hw
      obtain ⟨i, hi, ew⟩ := List.getElem_of_mem hw'
      have hx : i < xs.length := by rw [r.length]; exact hi
      have z := f1 i xs[i] w (List.getElem?_eq_getElem hx) (by rw [List.getElem?_eq_getElem hi, ew])
      obtain ⟨w', hw2, rw'⟩ := r.get (List.getElem?_eq_getElem hx)
      rw [List.getElem?_eq_getElem hi, ew] at hw2
      cases hw2
      rw [z]
      exact (he _ (List.getElem_mem hx)).at I rw' rx (by show X.A.units + 1 + 8 < cLine; omega)
    · rw [show us.toArray.any f = us.any f by simp, f2]
      exact q
  · obtain ⟨us, r, pl, hz⟩ := I.tuple hq
    obtain ⟨f, f1, f2⟩ := any_at r he
    refine SeqAt.in_tupleAt f pl (fun w hw => ?_) ⟨.bl _, H, I, rfl, ?_⟩
    · have hw' : w ∈ us := by simpa using hw
      obtain ⟨i, hi, ew⟩ := List.getElem_of_mem hw'
      have hx : i < xs.length := by rw [r.length]; exact hi
      have z := f1 i xs[i] w (List.getElem?_eq_getElem hx) (by rw [List.getElem?_eq_getElem hi, ew])
      obtain ⟨w', hw2, rw'⟩ := r.get (List.getElem?_eq_getElem hx)
      rw [List.getElem?_eq_getElem hi, ew] at hw2
      cases hw2
      rw [z]
      exact (he _ (List.getElem_mem hx)).at I rw' rx (by show X.A.units + 1 + 8 < cLine; omega)
    · rw [show us.toArray.any f = us.any f by simp, f2]
      exact q
end
end L2
namespace L2
theorem hu9 {A : PySem.Around} {k : Nat} (hr : Room k A) : A.units + 9 < PySem.cLine := by have := hr.units; omega
end L2
namespace Sen
open PySem L2
theorem cut_head {xs : List V} {n : Nat} : cutV xs none (some (n : Int)) = xs.take n := by
  unfold cutV
  rw [HT.sIx_none, HT.sIx_nat, List.drop_zero, Nat.sub_zero]
  by_cases h : n ≤ xs.length
  · rw [Nat.min_eq_left h]
  · rw [Nat.min_eq_right (by omega), List.take_length, List.take_of_length_le (by omega)]
end Sen
namespace L2
open PySem PySem.Spec PyProof.Rows
theorem bt_sorted : bootBuiltins "sorted" = some (.builtin "sorted") := by decide +kernel
end L2
namespace L2
open PySem
theorem cutK {X : Cx} {all rest : List Stmt} {D : Ends} {Tf : TS → TS} {Pre : St → Hp → Prop} (Mid : St → Hp → Prop) (h1 : ∀ t, PSs X rest t → PSs X all (Tf t)) (h : ∀ u : TS, (∀ σ H, Mid σ H → u D σ H) → ∀ σ H, Pre σ H → Tf u D σ H)
    (hr : ∃ t, PSs X rest t ∧ ∀ σ H, Mid σ H → t D σ H) : ∃ t, PSs X all t ∧ ∀ σ H, Pre σ H → t D σ H :=
  let ⟨t, a, b⟩ := hr
  ⟨Tf t, h1 t a, h t b⟩
theorem cut0 {X : Cx} {all : List Stmt} {D : Ends} {σ : St} {H : Hp} (h : ∃ t, PSs X all t ∧ ∀ σ' H', (σ' = σ ∧ H' = H) → t D σ' H') : ∃ t, PSs X all t ∧ t D σ H :=
  let ⟨t, a, b⟩ := h
  ⟨t, a, b _ _ ⟨rfl, rfl⟩⟩
end L2
namespace L2
open PySem PySem.Spec PyProof.Rows
section
variable {X : Cx}
def rAddL (K : PySem.W.Frag) : R2 := fun x y H Q => ∃ p q xs ys, x = .ref p ∧ y = .ref q ∧ SqL K H p xs ∧ SqL K H q ys ∧ xs.length + ys.length ≤ sizeLine ∧ ∀ l, H l = none → Q (.ref l) (upd H l (.lst (xs ++ ys)))
theorem op_addL : OpR X (binaryOp .Add) (rAddL X.K) := by
  intro pins s σ H x y v u Q I rx ry h
  obtain ⟨p, q, xs, ys, rfl, rfl, hp, hq, hz, h⟩ := h
  cases rx
  cases ry
  obtain ⟨its1, rv1, pl1, hz1⟩ := I.list hp
  obtain ⟨its2, rv2, pl2, hz2⟩ := I.list hq
  obtain ⟨⟨cls, dd, data, sl⟩, ho, hc, n, hd⟩ := id pl1.isList
  obtain ⟨⟨cls2, dd2, data2, sl2⟩, ho2, hc2, n2, hd2⟩ := id pl2.isList
  simp only at hc hd hc2 hd2
  subst hc hd hc2 hd2
  have l1 := rv1.length
  have l2 := rv2.length
  have e : its1.toArray ++ its2.toArray = (its1 ++ its2).toArray := by simp
  refine concat_meets ⟨_, ho, rfl⟩ ⟨_, ho2, rfl⟩ noFill_list_add seq_list_add PySem.F.slot_list_add PySem.F.entry_list_add (PySem.F.args_list_add_2 _ _) (list_addW p q its1.toArray its2.toArray n n2 dd dd2 sl sl2 (by simp; omega)) ⟨ho, ho2, ?_⟩
  rw [e]
  refine ⟨.ref s.heap.objs.size, _, I.laid (t' := s.toks) (o := .lst (xs ++ ys)) (fun b o e => Heap.get?_push_of_some _ e) (Nat.le_refl _) ?_, rfl, h _ (I.hok.fresh (Nat.le_refl _))⟩
  exact ⟨by rw [List.length_append]; exact hz, its1 ++ its2, 0, rv1.append rv2, Heap.get?_push_size _ rfl⟩
end
end L2
namespace L2
open PySem PySem.Spec PyProof.Rows
section
variable {X : Cx} {K : PySem.W.Frag}
theorem fold_one {α : Type} (u : α) : ∀ (n : Nat) (acc : Array α), List.foldl (fun x1 x2 => x1 ++ x2) acc (List.replicate n #[u]) = acc ++ (List.replicate n u).toArray
  | 0, acc => by simp
  | n + 1, acc => by
    rw [List.replicate_succ, List.foldl_cons, fold_one u n, List.replicate_succ]
    apply Array.ext'
    simp
theorem mul_listG {prog : Program} {w : World} {A : Around} {E : Value → Shared → Prop} {s : Shared} {l : Addr} {items : Array Value} {k : Nat} {x : Int} {u : Tok} {Q : Value → Shared → Prop}
    (hl : s.heap.get? l = some { cls := .type "list", dict := none, data := .seq items k, slots := #[] })
    (hlo : -(2 ^ 63 : Int) ≤ x) (hhi : x < 2 ^ 63) (hsz : items.size * x.toNat ≤ 2 ^ 24)
    (h : Q (.ref s.heap.objs.size) { s with heap := s.heap.push { cls := .type "list", data := .seq (List.foldl (fun x1 x2 => x1 ++ x2) #[] (List.replicate (if items.isEmpty = true then 0 else x.toNat) items)) } }) :
    wpAny (model prog w) A (binaryOp .Mult (.ref l) (.int x u)) Q E s :=
  wpAny_binaryOp_repeat_ref (T := "list") (U := "int") (by decide) ⟨_, hl, rfl⟩ (fun s' => typeIs_int s' x u) noFill_list_mul PySem.F.fills_int_mul PySem.F.slot_int_rmul repeat_list PySem.F.slot_int_index.lookup
    (call_meets PySem.F.slot_int_rmul (typeIs_int s x u) PySem.F.entry_int_rmul (PySem.F.args_int_rmul_2 _ _) (int___rmul___int_list x u l items k)
      ⟨hl, rfl, ⟨_, hl, rfl⟩, call_meets PySem.F.slot_list_mul ⟨_, hl, rfl⟩ PySem.F.entry_list_mul (PySem.F.args_list_mul_2 _ _)
        (AutoListH.list___mul___list_int_3 l items k x u (by simp [Builtin.List.listFitsIndex]; omega) (by omega) (by simp [Builtin.List.listTooLong, sizeLine]; omega))
        ⟨hl, h⟩⟩)
def rMulL : R2 := fun x y H Q => ∃ (p : Addr) (v : V) (n : Nat), x = .ref p ∧ y = .int n ∧ H p = some (.lst [v]) ∧ n ≤ 1000 ∧ ∀ l, H l = none → Q (.ref l) (upd H l (.lst (List.replicate n v)))
theorem op_mulL : OpR X (binaryOp .Mult) rMulL := by
  intro pins s σ H x y vx vy Q I rx ry h
  obtain ⟨p, v, n, rfl, rfl, hp, hn, q⟩ := h
  cases rx
  obtain ⟨t, rfl⟩ := ry
  obtain ⟨z, its, k, r, hl, e⟩ := I.lstM hp
  obtain ⟨u, rfl, ru⟩ := vals1 r
  have hsz : [u].toArray.size = 1 := rfl
  refine mul_listG e (by omega) (by omega) (by rw [hsz]; omega) ?_
  have e2 : List.foldl (fun x1 x2 => x1 ++ x2) #[] (List.replicate (if [u].toArray.isEmpty = true then 0 else (n : Int).toNat) [u].toArray) = (List.replicate n u).toArray := by
    have e3 : (if [u].toArray.isEmpty = true then 0 else (n : Int).toNat) = n := by simp
    rw [e3]
    have := fold_one u n #[]
    simpa using this
  rw [e2]
  refine ⟨.ref s.heap.objs.size, _, I.laid (t' := s.toks) (o := .lst (List.replicate n v)) (fun b o e => Heap.get?_push_of_some _ e) (Nat.le_refl _) ?_, rfl, q _ (I.hok.fresh (Nat.le_refl _))⟩
  refine ⟨by rw [List.length_replicate]; exact Nat.le_of_lt (small1000 hn), List.replicate n u, 0, ?_, Heap.get?_push_size _ rfl⟩
  clear e2 q hn
  induction n with
  | zero => exact .nil
  | succ n ih => exact .cons ru ih
end
end L2
namespace Sen
open PySem L2
def cellF (ns : List Int) (i : Nat) : Int := (ns[i]?).getD 0
inductive spCellF (K : PySem.W.Frag) (vs : List V) (H : Hp) (Q : VK) (E9 : XK) : Prop
  | mk (l : Addr) (ns : List Int) (i : Nat) (_ : vs = [.ref l, .int i]) (_ : SqL K H l (ns.map V.int)) (_ : Q (.int (cellF ns i)) H) : spCellF K vs H Q E9
end Sen
namespace L2
open PySem
theorem bt_max : bootBuiltins "max" = some (.builtin "max") := by decide +kernel
end L2
namespace L2
open PySem PySem.Spec PyProof.Rows
theorem vals_strs : ∀ {ss : List Str} {its : List Value}, StrsAre its ss → Vals (ss.map V.str) its
  | _, _, .nil => .nil
  | _, _, .cons x t h => .cons ⟨t, rfl⟩ (vals_strs h)
end L2
namespace Sen
open PySem L2 PyProof.Rows
theorem lett_lt : ∀ x ∈ letts, ∀ y ∈ letts, Spec.ltCps x.cps.toList y.cps.toList = decide (ix letts x < ix letts y) := by decide +kernel
theorem lett_inj : ∀ x ∈ letts, ∀ y ∈ letts, ix letts x = ix letts y → x = y := by decide +kernel
theorem rising_le : ∀ {l : List Str} {p : Str}, p ∈ letts → (∀ x ∈ l, x ∈ letts) → risingS p l = true → ∀ x ∈ l, ix letts p ≤ ix letts x
  | [], p, _, _, _, x, hx => by cases hx
  | y :: l, p, hp, hl, h, x, hx => by
    have hy := hl y List.mem_cons_self
    have h' : (!Spec.ltCps y.cps.toList p.cps.toList && risingS y l) = true := h
    rw [Bool.and_eq_true, lett_lt y hy p hp] at h'
    have h1 : ix letts p ≤ ix letts y := by
      have := h'.1
      simp at this
      omega
    rcases List.mem_cons.mp hx with e | hx
    · rw [e]; exact h1
    · have := rising_le hy (fun z hz => hl z (List.mem_cons_of_mem _ hz)) h'.2 x hx
      omega
theorem sorted_tail {x : Str} {l : List Str} (h : sortedS (x :: l) = true) : sortedS l = true := by
  cases l with
  | nil => rfl
  | cons y l =>
    have h' : (!Spec.ltCps y.cps.toList x.cps.toList && risingS y l) = true := h
    exact (Bool.and_eq_true _ _ ▸ h').2
theorem sorted_eq : ∀ {a b : List Str}, (∀ x ∈ a, x ∈ letts) → a.Perm b → sortedS a = true → sortedS b = true → a = b
  | [], b, _, h, _, _ => (List.nil_perm.mp h).symm
  | x :: a, [], _, h, _, _ => by cases (List.perm_nil.mp h)
  | x :: a, y :: b, hl, h, s1, s2 => by
    have hlb : ∀ z ∈ y :: b, z ∈ letts := fun z hz => hl z (h.mem_iff.mpr hz)
    have hx := hl x List.mem_cons_self
    have hy := hlb y List.mem_cons_self
    have le1 : ∀ z ∈ x :: a, ix letts x ≤ ix letts z := fun z hz => by
      rcases List.mem_cons.mp hz with e | hz
      · rw [e]; exact Nat.le_refl _
      · exact rising_le hx (fun z hz => hl z (List.mem_cons_of_mem _ hz)) s1 z hz
    have le2 : ∀ z ∈ y :: b, ix letts y ≤ ix letts z := fun z hz => by
      rcases List.mem_cons.mp hz with e | hz
      · rw [e]; exact Nat.le_refl _
      · exact rising_le hy (fun z hz => hlb z (List.mem_cons_of_mem _ hz)) s2 z hz
    have e : x = y := lett_inj x hx y hy (Nat.le_antisymm (le1 y (h.mem_iff.mpr List.mem_cons_self)) (le2 x (h.mem_iff.mp List.mem_cons_self)))
    subst e
    rw [sorted_eq (fun z hz => hl z (List.mem_cons_of_mem _ hz)) h.cons_inv (sorted_tail s1) (sorted_tail s2)]
end Sen
namespace L2
open PySem PySem.Spec PyProof.Rows PySem.W
theorem tests_by {X : Cx} {c : Expr} {t : TT} {pins : List (Addr × Obj)} {s : Shared} {σ : St} {H : Hp} {Q : Bool → Hp → Prop} (I : Inv X pins σ H s) (h : t σ H Q) (hp : PT X c t) : wpAny (model X.prog X.w) X.A (lcTests [c] X.env) (TP X pins σ Q) X.xe s := wpAny_tests_one (hp pins s σ H Q I h)
end L2
namespace L2
open PySem
section
variable {K : PySem.W.Frag} {σ : St} {js : List Nat} {tt : TT} {te : TE} {H : Hp} {Qf : Addr → Hp → List V → Prop}
open Sen
theorem lc_listC {a : Addr} {xs : List V} (Pv : Nat → List V → Hp → Prop) (h0 : Pv 0 [] H) (hz : xs.length ≤ sizeLine)
    (hl : ∀ i ys H, i ≤ xs.length → Pv i ys H → SqL K H a xs ∧ ys.length ≤ i)
    (hs : ∀ i x ys H (Q : V → Hp → Prop), xs[i]? = some x → Pv i ys H → (∀ v H3, Pv (i + 1) (ys ++ [v]) H3 → Q v H3) → te (lcS σ js (some x)) H Q)
    (hd : ∀ ys H p, Pv xs.length ys H → H p = none → Qf p H ys) :
    ∃ W : Nat → Nat → List V → Hp → Prop, (∃ m, W 0 m [] H) ∧ ∀ i m ys H, W i m ys H →
      ((Itl K a).stop i H ∧ ∀ p, H p = none → Qf p H ys) ∨
      ((Itl K a).go i H ∧ ys.length < sizeLine ∧ ∀ x H', (Itl K a).yld i H x H' → tYes (lcS σ js (some x)) H' fun b H2 =>
        if b = true then te (lcS σ js (some x)) H2 fun v H3 => ∃ m', m' < m ∧ W (i + 1) m' (ys ++ [v]) H3 else ∃ m', m' < m ∧ W (i + 1) m' ys H2) := by
  refine ⟨fun i m ys H => m = xs.length - i ∧ i ≤ xs.length ∧ Pv i ys H, ⟨xs.length, by simp, Nat.zero_le _, h0⟩, ?_⟩
  rintro i m ys H ⟨rfl, hi, p⟩
  obtain ⟨q, hy⟩ := hl i ys H hi p
  by_cases hlt : i < xs.length
  · refine .inr ⟨⟨xs, xs[i], q, by simp [hlt]⟩, by omega, fun x H' y => ?_⟩
    obtain ⟨e, y⟩ := y
    subst e
    show te (lcS σ js (some x)) H' fun v H3 => ∃ m', m' < xs.length - i ∧ (m' = xs.length - (i + 1) ∧ i + 1 ≤ xs.length ∧ Pv (i + 1) (ys ++ [v]) H3)
    exact hs i x ys _ _ (y xs q) p fun v H3 h3 => ⟨_, Nat.sub_lt_sub_left hlt (Nat.lt_succ_self i), rfl, hlt, h3⟩
  · have e : i = xs.length := by omega
    subst e
    exact .inl ⟨⟨xs, q, Nat.le_refl _⟩, fun pp hp => hd ys H pp p hp⟩
end
end L2
namespace L2
open PySem PySem.Spec PyProof.Rows
section
variable {K : PySem.W.Frag} {σ : St} {js : List Nat} {tt : TT} {te : TE} {H : Hp} {Qf : Addr → Hp → List V → Prop}
theorem lc_mapA {a : Addr} {α : Type} (c e : α → V) {ps : List α} (hq : SqL K H a (ps.map c)) (hz : ps.length ≤ sizeLine)
    (hs : ∀ (x : α) H' (Q : V → Hp → Prop), x ∈ ps → Same H H' → (∀ H3, Same H' H3 → Q (e x) H3) → te (lcS σ js (some (c x))) H' Q)
    (hd : ∀ H' p, Same H H' → H' p = none → Qf p H' (ps.map e)) :
    ∃ W : Nat → Nat → List V → Hp → Prop, (∃ m, W 0 m [] H) ∧ ∀ i m ys H, W i m ys H →
      ((Itl K a).stop i H ∧ ∀ p, H p = none → Qf p H ys) ∨
      ((Itl K a).go i H ∧ ys.length < sizeLine ∧ ∀ x H', (Itl K a).yld i H x H' → tYes (lcS σ js (some x)) H' fun b H2 =>
        if b = true then te (lcS σ js (some x)) H2 fun v H3 => ∃ m', m' < m ∧ W (i + 1) m' (ys ++ [v]) H3 else ∃ m', m' < m ∧ W (i + 1) m' ys H2) := by
  refine lc_listC (xs := ps.map c) (fun i ys H' => Same H H' ∧ ys = (ps.take i).map e) ⟨Same.refl _, rfl⟩ (by rw [List.length_map]; exact hz) ?_ ?_ ?_
  · rintro i ys H' hi ⟨g, rfl⟩
    exact ⟨g.seq hq, by rw [List.length_map, List.length_take]; omega⟩
  · rintro i x ys H' Q hx ⟨g, rfl⟩ h
    rw [List.getElem?_map] at hx
    cases e1 : ps[i]? with
    | none => rw [e1] at hx; cases hx
    | some y =>
      rw [e1] at hx
      cases hx
      refine hs y H' Q (List.mem_of_getElem? e1) g fun H3 g3 => h _ _ ⟨g.trans g3, ?_⟩
      rw [take_next e1, List.map_append]
      rfl
  · rintro ys H' p ⟨g, rfl⟩ hp
    rw [List.length_map, List.take_length]
    exact hd H' p g hp
end
end L2
namespace L2
open PySem PySem.Spec PyProof.Rows
def byT (w : World) : Bool := w.params.followText "set-order"
theorem layNew_led (t : SetTable) (es : Array (Int × Value)) (h : Int) (x : Value) : (layNew t es h x).2.1.led = t.led ∧ (t.plain = false → (layNew t es h x).2.1.plain = false) := by
  unfold layNew
  split
  · dsimp only
    unfold SetTable.orStandIn
    split
    · exact ⟨rfl, fun e => e⟩
    · exact ⟨rfl, fun _ => rfl⟩
  · exact ⟨rfl, fun _ => rfl⟩
theorem relayAll_led (t : SetTable) (es : Array (Int × Value)) (n : Nat) : (relayAll t es n).2.1.led = t.led ∧ (t.plain = false → (relayAll t es n).2.1.plain = false) := by
  unfold relayAll
  split
  · rename_i t' order e
    have k : t'.led = t.led ∧ t'.plain = t.plain := by
      unfold SetTable.relaid SetTable.laid at e
      cases ho : SetTable.layClean (SetTable.sizeAbove n - 1) (es.map (·.1)) with
      | none => rw [ho] at e; cases e
      | some ow => rw [ho] at e; cases e; exact ⟨rfl, rfl⟩
    dsimp only
    split
    · exact ⟨k.1, fun e => k.2.trans e⟩
    · exact ⟨rfl, fun _ => rfl⟩
  · exact ⟨rfl, fun _ => rfl⟩
section
variable {P : Program} {w : World} {A : Around} {R : Result → Shared → Prop} {E : Value → Shared → Prop} {s : Shared}
structure SetT (P : Program) (w : World) (h : Heap) (a : Addr) (S : Str → Bool) (n : Nat) (es : Array (Int × Value)) (ep : Nat) (t : SetTable) : Prop where
  at_ : ∃ o, h.get? a = some o ∧ o.ExactSet ∧ o.data = .set es ep t
  el : ElemsOf (strKind P w) es.toList
  mem : ∀ k, S k = true ↔ ∃ e ∈ es.toList, (strKind P w).is k e.2 = true
  bd : es.size < scanBound
  fit : t.fits es.size = true
  size : es.size = n
  led : t.led = (!byT w)
  plain : 0 < n → t.plain = false
def SetTx (P : Program) (w : World) (h : Heap) (a : Addr) (S : Str → Bool) (n : Nat) : Prop := ∃ es ep t, SetT P w h a S n es ep t
theorem SetT.keep {h h' : Heap} {a : Addr} {S : Str → Bool} {n : Nat} {es : Array (Int × Value)} {ep : Nat} {t : SetTable} (H : SetT P w h a S n es ep t) (k : ∀ o, h.get? a = some o → h'.get? a = some o) : SetT P w h' a S n es ep t :=
  let ⟨o, h1, h2⟩ := H.at_
  { H with at_ := ⟨o, k o h1, h2⟩ }
theorem SetTx.congr {h : Heap} {a : Addr} {S S' : Str → Bool} {n n' : Nat} (H : SetTx P w h a S n) (e : ∀ k, S k = S' k) (en : n = n') : SetTx P w h a S' n' := by
  subst en
  rw [← funext e]
  exact H
theorem set_put {h : Heap} {a : Addr} {o : Obj} {es es' : Array (Int × Value)} {ep : Nat} {t t' : SetTable} {S' : Str → Bool} (ho : h.get? a = some o) (hx : o.ExactSet) (hd : o.data = .set es ep t) (hel : ElemsOf (strKind P w) es'.toList) (hm : ∀ k, S' k = true ↔ ∃ e ∈ es'.toList, (strKind P w).is k e.2 = true)
    (hb : es'.size < scanBound) (hf : t'.fits es'.size = true) (hl : t'.led = (!byT w)) (hp : t'.plain = false) : SetT P w (h.update a (Obj.putSet es' t')) a S' es'.size es' (ep + 1) t' := by
  obtain ⟨g, _⟩ := SetOf_store (knd := strKind P w) (S' := S') ho hx hd hel hm hb hf
  exact ⟨⟨_, g, hx, rfl⟩, hel, hm, hb, hf, rfl, hl, fun _ => hp⟩
theorem set_add {a : Addr} {S : Str → Bool} {n : Nat} {k : Str} {tk : Tok} {Q : Bool → Shared → Prop} (hS : SetTx P w s.heap a S n) (hroom : n + 1 < scanBound)
    (q : ∀ h', Heap.SameBut a s.heap h' → SetTx P w h' a (fun k' => S k' || decide (k' = k)) (if S k then n else n + 1) → ∀ b, Q b { s with heap := h' }) :
    wpAny (model P w) A (setAddHashed a (.str k tk) ((strKind P w).hash k)) Q E s := by
  obtain ⟨es, ep, t, H⟩ := hS
  obtain ⟨o, ho, hx, hd⟩ := H.at_
  have key : (strKind P w).is k (.str k tk) = true := strKind_is _ _ _ _
  unfold setAddHashed setAddHashedIn
  refine wpAny_holding (wpAny_bind (wpAny_setState_of ho hd H.fit ?_))
  dsimp only
  rw [byScan_of (knd := strKind P w) (x := .str k tk) rfl H.bd H.el, if_pos rfl]
  unfold setAddByScan
  refine wpAny_bind (wpAny_bind (wpAny_rule (wpAny_bind (wpAny_setScan_of key ho hd H.fit H.el ?_))))
  cases hr : List.findIdx? (fun e => (strKind P w).is k e.2) es.toList with
  | some j =>
    dsimp only
    obtain ⟨hj, hpj, _⟩ := List.findIdx?_eq_some_iff_getElem.mp hr
    have hk : S k = true := (H.mem k).mpr ⟨es.toList[j], List.getElem_mem hj, hpj⟩
    refine wpAny_pure (wpAny_pure ?_)
    have y := q s.heap (Heap.SameBut.refl a s.heap) (SetTx.congr ⟨es, ep, t, H⟩ (fun k' => by
      by_cases e : k' = k
      · rw [e, hk]; rfl
      · rw [decide_eq_false e, Bool.or_false]) (by rw [if_pos hk])) false
    cases s
    exact y
  | none =>
    dsimp only
    have hk : S k = false := by
      cases hk : S k with
      | false => rfl
      | true =>
        obtain ⟨e, he, hp⟩ := (H.mem k).mp hk
        have := List.findIdx?_eq_none_iff.mp hr e he
        rw [hp] at this
        cases this
    have pm := layNew_perm t es ((strKind P w).hash k) (.str k tk)
    have ft := layNew_fits t es ((strKind P w).hash k) (.str k tk)
    have ld := layNew_led t es ((strKind P w).hash k) (.str k tk)
    generalize layNew t es ((strKind P w).hash k) (.str k tk) = L at pm ft ld ⊢
    obtain ⟨e1, t1, wd, gv⟩ := L
    dsimp only at pm ft ld ⊢
    rw [Array.toList_push] at pm
    have el1 : ElemsOf (strKind P w) e1.toList := (H.el.push key rfl).perm pm
    have mm1 := mem_push_iff (knd := strKind P w) key H.mem pm
    have sz1 : e1.size = n + 1 := by rw [← Array.length_toList, pm.length_eq, List.length_append, Array.length_toList, H.size]; rfl
    have bd1 : e1.size < scanBound := by omega
    have fin : ∀ (t2 : SetTable) {E' : Value → Shared → Prop}, t2.fits e1.size = true → t2.led = (!byT w) → t2.plain = false → wpAny (model P w) A (do
        storeSet a e1 t2
        if (!wd && t2.tooFull) = true then do
            (match (relayAll t2 e1 (SetTable.grown e1.size)).2.2 with | true => rule "set.scan.the-table-gave-way" | false => pure ())
            storeSet a (relayAll t2 e1 (SetTable.grown e1.size)).1 (relayAll t2 e1 (SetTable.grown e1.size)).2.1
            pure (some true)
          else pure (some true)) (fun b s' => b = some true ∧ ∃ h', s' = { s with heap := h' } ∧ Heap.SameBut a s.heap h' ∧ SetTx P w h' a (fun k' => S k' || decide (k' = k)) (n + 1)) E' s := fun t2 E' f2 l2 p2 => by
      have T1 := set_put (S' := fun k' => S k' || decide (k' = k)) ho hx hd el1 mm1 bd1 f2 l2 p2
      have b1 := Heap.SameBut.update s.heap a (Obj.putSet e1 t2)
      refine wpAny_bind (wpAny_storeSet_of ho hd ?_ (fits_of_scanBound bd1))
      split
      · have pr := relayAll_perm t2 e1 (SetTable.grown e1.size)
        have fr := relayAll_fits t2 e1 (SetTable.grown e1.size)
        have lr := relayAll_led t2 e1 (SetTable.grown e1.size)
        generalize relayAll t2 e1 (SetTable.grown e1.size) = Z at pr fr lr ⊢
        obtain ⟨e3, t3, g3⟩ := Z
        dsimp only at pr fr lr ⊢
        have sz3 : e3.size = e1.size := by rw [← Array.length_toList, pr.length_eq, Array.length_toList]
        obtain ⟨o1, ho1, hx1, hd1⟩ := T1.at_
        have T3 := set_put (S' := fun k' => S k' || decide (k' = k)) (es' := e3) (t' := t3) ho1 hx1 hd1 (el1.perm pr) (fun k' => (mm1 k').trans ⟨fun ⟨e, he, z⟩ => ⟨e, pr.mem_iff.mpr he, z⟩, fun ⟨e, he, z⟩ => ⟨e, pr.mem_iff.mp he, z⟩⟩) (by omega) fr (lr.1.trans l2) (lr.2 p2)
        have gw : ∀ {Q' : Unit → Shared → Prop} {z : Shared}, Q' () z → wpAny (model P w) A (match g3 with | true => rule "set.scan.the-table-gave-way" | false => pure ()) Q' E' z := fun h => by cases g3 <;> first | exact wpAny_pure h | exact wpAny_rule h
        refine wpAny_bind (gw ?_)
        refine wpAny_bind (wpAny_storeSet_of ho1 hd1 ?_ (fits_of_scanBound (by omega)))
        refine wpAny_pure ⟨rfl, _, rfl, b1.trans (Heap.SameBut.update _ a _), SetTx.congr ⟨_, _, _, T3⟩ (fun _ => rfl) (by omega)⟩
      · exact wpAny_pure ⟨rfl, _, rfl, b1, SetTx.congr ⟨_, _, _, T1⟩ (fun _ => rfl) sz1⟩
    have last : ∀ {m : Sem (Option Bool)} {f : Option Bool → Sem Bool}, (∀ E', wpAny (model P w) A m (fun b s' => b = some true ∧ ∃ h', s' = { s with heap := h' } ∧ Heap.SameBut a s.heap h' ∧ SetTx P w h' a (fun k' => S k' || decide (k' = k)) (n + 1)) E' s) → f (some true) = pure true → wpAny (model P w) A m (fun b s' => wpAny (model P w) A (f b) Q E s') E s := fun h e => by
      refine wpAny_mono (h E) (fun b s' z => ?_) fun _ _ z => z
      obtain ⟨rfl, h', rfl, sb, sx⟩ := z
      rw [e]
      exact wpAny_pure (q h' sb (SetTx.congr sx (fun _ => rfl) (by rw [hk]; rfl)) true)
    have g0 : ∀ {Q' : Unit → Shared → Prop} {E' : Value → Shared → Prop} {z : Shared}, Q' () z → wpAny (model P w) A (match gv with | true => rule "set.scan.the-table-gave-way" | false => pure ()) Q' E' z := fun h => by cases gv <;> first | exact wpAny_pure h | exact wpAny_rule h
    refine wpAny_bind (g0 ?_)
    by_cases pl : t1.plain = true
    · rw [if_pos pl]
      refine wpAny_bind (wpAny_of_eq (show hashByValue 8 (.str k tk) = pure false from rfl) ?_)
      simp only [Bool.false_eq_true, if_false]
      exact last (fun E' => fin _ (SetTable.fits_plain_off ft) (ld.1.trans H.led) rfl) rfl
    · rw [if_neg pl]
      refine wpAny_bind (wpAny_pure ?_)
      have p1 : t1.plain = false := by cases h : t1.plain with | true => exact absurd h pl | false => rfl
      exact last (fun E' => fin _ ft (ld.1.trans H.led) p1) rfl
theorem SetTx.keep {h h' : Heap} {a : Addr} {S : Str → Bool} {n : Nat} (H : SetTx P w h a S n) (k : ∀ o, h.get? a = some o → h'.get? a = some o) : SetTx P w h' a S n :=
  let ⟨es, ep, t, H⟩ := H
  ⟨es, ep, t, H.keep k⟩
theorem lay_strsT {I : Addr} {fp wr : List Addr} {G : Array GenState → Array GenState → Prop} {n : Nat} {Pv : Nat → Value → Prop} {St : Nat → Shared → Prop} (W : WalksS P w A.in1 I fp wr G n Pv St) (S : Addr) (hS : S ∉ fp) (xs : List Str) (hn : xs.length = n)
    (hv : ∀ i v, Pv i v → ∃ t, v = .str (xs.getD i "") t) (hb : n + 1 < scanBound) :
    ∀ (k i : Nat) (z : Shared), n - i = k → i ≤ n → St i z → SetTx P w z.heap S (fun q => (dd (xs.take i)).any (· == q)) (dd (xs.take i)).length →
      (∀ z', Moved (S :: wr) G z z' → SetTx P w z'.heap S (fun q => (dd xs).any (· == q)) (dd xs).length → R (.ok (.ret .none)) z') →
      codeAny (model P w) A (.builtin "set.update.loop" ⟨[.ref S, .ref I], []⟩) R z := by
  have notw : S ∉ wr := fun h => hS (W.sub _ h)
  have more : ∀ b ∈ wr, b ∈ S :: wr := fun b h => List.mem_cons_of_mem _ h
  intro k
  induction k with
  | zero =>
    intro i z hk hi st hset fin
    have ei : i = n := by omega
    subst ei
    refine codeAny_builtin PyProof.Rows.F.entry_set_update_loop ?_
    rw [Around.under_plainId PyProof.Rows.F.plain_set_update_loop _]
    show wpAny _ A.in1 (pyNext (.ref I) >>= _) _ _ z
    refine wpAny_bind (W.done z _ _ st fun z' mv => ?_)
    show wpAny _ A.in1 (ret Value.none) _ _ z'
    refine wpAny_pure (fin z' (mv.mono more) ?_)
    rw [← hn, List.take_length] at hset
    exact hset.keep fun o e => mv.heap S o notw e
  | succ k ih =>
    intro i z hk hi st hset fin
    have il : i < n := by omega
    refine codeAny_builtin PyProof.Rows.F.entry_set_update_loop ?_
    rw [Around.under_plainId PyProof.Rows.F.plain_set_update_loop _]
    show wpAny _ A.in1 (pyNext (.ref I) >>= _) _ _ z
    refine wpAny_bind (W.item i z _ _ il st fun v z' pv st' mv => ?_)
    obtain ⟨t, rfl⟩ := hv i v pv
    have hset' : SetTx P w z'.heap S (fun q => (dd (xs.take i)).any (· == q)) (dd (xs.take i)).length := hset.keep fun o e => mv.heap S o notw e
    show wpAny _ A.in1 (holding [Value.str (xs.getD i "") t] (setAdd S (.str (xs.getD i "") t)) >>= _) _ _ z'
    refine wpAny_bind (wpAny_holding ?_)
    unfold setAdd
    refine wpAny_holding ?_
    refine wpAny_bind ((strKind P w).pyHash (k := xs.getD i "") (strKind_is _ _ _ _) ?_)
    have hroom : (dd (xs.take i)).length + 1 < scanBound := by
      have := dd_le (xs.take i)
      rw [List.length_take] at this
      omega
    have et : xs.take (i + 1) = xs.take i ++ [xs.getD i ""] := by
      rw [List.take_succ, List.getD_eq_getElem?_getD, List.getElem?_eq_getElem (by omega)]
      rfl
    refine set_add (s := { z' with toks := z'.toks + 1 }) hset' hroom fun h' sb s2 b' => ?_
    have hset2 : SetTx P w h' S (fun q => (dd (xs.take (i + 1))).any (· == q)) (dd (xs.take (i + 1))).length :=
      s2.congr (fun q => by rw [et, dd_snoc, met_any]) (by rw [et, dd_snoc, met_len])
    refine wpAny_pure ⟨plainId_quiet PyProof.Rows.F.plain_set_update_loop _, ih (i + 1) _ (by omega) il (W.frame _ z' _ _ st' (Nat.le_succ _) fun b hb' o e => ?_) hset2 fun z'' mv2 s3 => ?_⟩
    · rw [sb.2 b (fun h : b = S => hS (by rw [← h]; exact hb'))]; exact e
    · refine fin z'' (Moved.trans W.gtrans ((mv.mono more).then_heap (Nat.le_succ _) fun b o hb' e => ?_) mv2) s3
      rw [sb.2 b (fun h : b = S => hb' (by rw [h]; exact List.mem_cons_self))]; exact e
theorem new_setT (a : Value) {Q₁ : Value → Shared → Prop} (h : Q₁ (.ref s.heap.objs.size) { s with heap := s.heap.push (setO (!byT w)) }) : codeAny (model P w) A (.call (.builtin "set.__new__") ⟨[.type "set", a], []⟩) (wants Q₁ E) s := by
  refine codeAny_of_tree ?_
  show wpAny _ A.in1 (checkBuiltinCall "set.__new__" ⟨[.type "set", a], []⟩ >>= fun _ => again (.builtin "set.__new__" ⟨[.type "set", a], []⟩)) _ _ s
  refine wpAny_bind (wpAny_of_eq (F.newCall_set_1 a) (wpAny_pure ⟨plainId_quiet F.plain_set_new _, codeAny_builtin F.entry_set_new ?_⟩))
  rw [Around.under_plainId F.plain_set_new _]
  unfold Builtin.«set.__new__» Builtin.Frozenset.newClass
  have hs := sub_set_self
  obtain ⟨hp, g, d, tk, os⟩ := s
  dsimp only at h ⊢
  wp_walk
  refine wpAny_askSetting (wpAny_pure ?_)
  dsimp only
  simp only [newObj]
  refine wpAny_bind (wpAny_alloc (wpAny_pure ?_))
  exact wpAny_pure h
set_option maxHeartbeats 8000000 in
theorem set_strsT {l : Addr} {us : List Value} {xs : List Str} {Q : Value → Shared → Prop} (hh : A.handled = none) (hl : s.heap.IsList l us.toArray) (r : Vals (xs.map V.str) us) (hb : xs.length + 1 < scanBound)
    (h : ∀ (h' : Heap) (tk : Nat), SetTx P w h' s.heap.objs.size (fun q => (dd xs).any (· == q)) (dd xs).length → (∀ b o, s.heap.get? b = some o → h'.get? b = some o) → Q (.ref s.heap.objs.size) { s with heap := h', toks := tk }) :
    wpAny (model P w) A (call (.type "set") [.ref l]) Q E s := by
  have hlen : xs.length = us.toArray.size := by have := r.length; rw [List.length_map] at this; simpa using this
  obtain ⟨cc, tl, hmro⟩ := F.called_set.mro
  have made := F.called_set.made
  have sub := F.called_set.sub
  refine wpAny_call (codeAny_of_tree ?_)
  show wpAny _ _ (callAny (.type "set") _) _ _ _
  refine wpAny_pure ⟨Code.quiet_builtin _ (by decide +kernel), codeAny_builtin F.entry_type_call ?_⟩
  rw [Around.under_plain (weight_type_call_type "set" [.ref l] []) rfl]
  have a1 := F.called_set.notType
  have a2 := F.called_set.canCreate
  have a3 := F.typeCall_set_1 (.ref l)
  repeat (any_goals (first | assumption | wp_step))
  refine codeAny_mono (new_setT (.ref l) (E := E) (Q₁ := fun ob z => ∃ led : Bool, led = (!byT w) ∧ ob = .ref s.heap.objs.size ∧ z = { s with heap := s.heap.push { cls := .type "set", dict := none, data := .set #[] 0 (.fresh 0 0 led) } }) ⟨_, rfl, rfl, rfl⟩) fun res z hres => ?_
  cases res with
  | error e => exact hres
  | ok fl =>
    cases fl with
    | ret ob =>
      obtain ⟨led, el, rfl, rfl⟩ := hres
      have gS : (s.heap.push (setO led)).get? s.heap.objs.size = some (setO led) := Heap.get?_push_size _ rfl
      have tS : Shared.TypeIs { s with heap := s.heap.push (setO led) } (.ref s.heap.objs.size) "set" := ⟨_, gS, rfl⟩
      have b1 := F.called_set.init.lookup
      have b2 := F.called_set.init.bind (.ref s.heap.objs.size)
      repeat (any_goals (first | assumption | wp_step))
      refine codeAny_mono (codeAny_call_builtin (R := wants (fun v z => v = .none ∧ ∃ h' tk, z = { s with heap := h', toks := tk } ∧ SetTx P w h' s.heap.objs.size (fun q => (dd xs).any (· == q)) (dd xs).length ∧ (∀ b o, s.heap.get? b = some o → h'.get? b = some o)) E)
        F.called_set.init.plain F.entry_set_init (check_set_init_1 tS ?_)) fun res2 z2 hres2 => ?_
      · obtain ⟨ol, gl, cl, nl, dl⟩ := hl
        obtain ⟨ocls, odict, odata, oslots⟩ := ol
        have cl' : ocls = .type "list" := cl
        have dl' : odata = .seq us.toArray nl := dl
        subst cl' dl'
        have gl' : (s.heap.push (setO led)).get? l = some { cls := .type "list", dict := odict, data := .seq us.toArray nl, slots := oslots } := Heap.get?_push_of_some _ gl
        have c1 := F.sub_list_set
        have c2 := F.sub_list_frozenset
        have c3 : (Value.type "list" == Value.type "dict") = false := by decide
        have isl : (s.heap.push (setO led)).IsList l us.toArray := ⟨_, gl', rfl, nl, rfl⟩
        unfold Builtin.«set.__init__» noKeywords Builtin.Frozenset.updateFrom
        generalize hit : pyIter = itf
        wp_walk
        subst hit
        refine wpAny_pyIter_list isl ?_
        refine wpAny_bind (wpAny_runValue ?_)
        have ltl : l < s.heap.objs.size := Heap.lt_size gl
        have hd3 : A.in1.in1.in1.handled = none := by simp [hh]
        have sz1 : (s.heap.push (setO led)).objs.size = s.heap.objs.size + 1 := Heap.size_push ..
        have nel : l ≠ (s.heap.push (setO led)).objs.size := by rw [sz1]; exact Nat.ne_of_lt (Nat.lt_succ_of_lt ltl)
        have nin : s.heap.objs.size ∉ [(s.heap.push (setO led)).objs.size, l] := by
          rw [sz1]
          simp only [List.mem_cons, List.not_mem_nil, or_false, not_or]
          exact ⟨Nat.ne_of_lt (Nat.lt_succ_self _), Nat.ne_of_gt ltl⟩
        refine lay_strsT ((Walks.list hd3 _ l nel us.toArray).toS) s.heap.objs.size nin xs hlen (fun i v hv => strs_at r i v (by simpa using hv)) (by rw [← hlen]; exact hb) (us.toArray.size - 0) 0 _ (by omega) (Nat.zero_le _)
          ⟨⟨_, Heap.get?_push_size _ rfl, rfl, rfl⟩, isl.push _⟩ ?s0 ?fin
        case s0 =>
          have gg : ((s.heap.push (setO led)).push { cls := .type "list_iterator", data := .fields #[.ref l, .int 0 0] }).get? s.heap.objs.size = some (setO led) := Heap.get?_push_of_some _ gS
          exact ⟨#[], 0, _, ⟨_, gg, ⟨rfl, rfl, rfl⟩, rfl⟩, (fun e he => by simp at he), (fun k => by simp [dd]), by decide, by rfl, rfl, el, fun h => absurd h (Nat.lt_irrefl _)⟩
        case fin =>
          intro z mv sz
          obtain ⟨h', g', d', tk', os'⟩ := z
          have e1 : g' = s.gens := mv.gens
          have e2 : d' = s.drawn := mv.drawn
          have e3 : os' = s.os := mv.os
          subst e1 e2 e3
          show wpAny _ _ _ _ _ _
          refine wpAny_pure ?_
          show wpAny _ _ (ret Value.none) _ _ _
          refine wpAny_pure ⟨rfl, h', tk', rfl, sz, fun b o e => ?_⟩
          have lb := Heap.lt_size e
          have n1 : b ≠ s.heap.objs.size := Nat.ne_of_lt lb
          have n2 : b ≠ (s.heap.push (setO led)).objs.size := by rw [sz1]; exact Nat.ne_of_lt (Nat.lt_succ_of_lt lb)
          exact mv.heap b o (by simp only [List.mem_cons, List.not_mem_nil, or_false, not_or]; exact ⟨n1, n2⟩) (Heap.get?_push_of_some _ (Heap.get?_push_of_some _ e))
      · cases res2 with
        | error e => exact hres2
        | ok fl2 =>
          cases fl2 with
          | ret v =>
            obtain ⟨rfl, h', tk, rfl, sS, kk⟩ := hres2
            repeat (any_goals (first | assumption | wp_step))
            exact h _ _ sS kk
          | _ => exact hres2.elim
    | _ => exact hres.elim
end
end L2
namespace L2
open PySem PySem.Spec PyProof.Rows
theorem slot_set_iter : Slot "set" "__iter__" "set.__iter__" :=
  .of (owner := "set") (n := "__iter__") (by rw [typeLookup_type, builtinLookup_eq_fast]; kernel_rfl) (by decide +kernel) (by decide +kernel) (by decide +kernel)
    (by first | exact .inl (by decide +kernel) | exact .inr (by decide +kernel)) (by rw [isSubtype_type]; kernel_rfl)
theorem slot_setiter_next : Slot "set_iterator" "__next__" "set_iterator.__next__" :=
  .of (owner := "set_iterator") (n := "__next__") (by rw [typeLookup_type, builtinLookup_eq_fast]; kernel_rfl) (by decide +kernel) (by decide +kernel) (by decide +kernel)
    (by first | exact .inl (by decide +kernel) | exact .inr (by decide +kernel)) (by rw [isSubtype_type]; kernel_rfl)
theorem entry_set_iter : entryFor table "set.__iter__" = some Builtin.«frozenset.__iter__» :=
  entryFor_alias (id' := "frozenset.__iter__") (by kernel_rfl) rfl (by decide +kernel) (by kernel_rfl)
theorem entry_setiter_next : entryFor table "set_iterator.__next__" = some Builtin.«set_iterator.__next__» := entryFor_of_fast (by kernel_rfl)
theorem args_set_iter (a : Value) : argsOk "set.__iter__" ⟨[a], []⟩ := by unfold argsOk; kernel_rfl
theorem args_setiter_next (a : Value) : argsOk "set_iterator.__next__" ⟨[a], []⟩ := by unfold argsOk; kernel_rfl
theorem slot_setiter_iter : Slot "set_iterator" "__iter__" "set_iterator.__iter__" :=
  .of (owner := "set_iterator") (n := "__iter__") (by rw [typeLookup_type, builtinLookup_eq_fast]; kernel_rfl) (by decide +kernel) (by decide +kernel) (by decide +kernel)
    (by first | exact .inl (by decide +kernel) | exact .inr (by decide +kernel)) (by rw [isSubtype_type]; kernel_rfl)
theorem entry_setiter_iter : entryFor table "set_iterator.__iter__" = some Builtin.«dict_keyiterator.__iter__» :=
  entryFor_alias (id' := "dict_keyiterator.__iter__") (by kernel_rfl) rfl (by decide +kernel) (by kernel_rfl)
theorem args_setiter_iter (a : Value) : argsOk "set_iterator.__iter__" ⟨[a], []⟩ := by unfold argsOk; kernel_rfl
end L2
namespace L2
open PySem PySem.Spec PyProof.Rows
theorem ers_perm {α : Type} : ∀ {l : List α} {i : Nat} (h : i < l.length), (l[i] :: l.eraseIdx i).Perm l
  | x :: l, 0, _ => .refl _
  | x :: l, i + 1, h => (List.Perm.swap x _ _).trans ((ers_perm (by simpa using h)).cons x)
theorem pick_go {α : Type} (next : Nat → Nat) : ∀ (fuel k : Nat) (left : List α) (out : Array α), left.length = fuel → (pickOrder.go next fuel k left out).toList.Perm (out.toList ++ left)
  | 0, k, left, out, h => by
    have : left = [] := List.eq_nil_of_length_eq_zero h
    subst this
    unfold pickOrder.go
    rw [List.append_nil]
  | fuel + 1, k, left, out, h => by
    have lt : next k % left.length < left.length := Nat.mod_lt _ (by omega)
    unfold pickOrder.go
    rw [List.getElem?_eq_getElem lt]
    dsimp only
    refine (pick_go next fuel (k + 1) _ _ (by rw [List.length_eraseIdx_of_lt lt]; omega)).trans ?_
    rw [Array.toList_push, List.append_assoc]
    exact (List.Perm.refl _).append (ers_perm lt)
theorem pick_perm {α : Type} (next : Nat → Nat) (xs : Array α) : (pickOrder next xs).toList.Perm xs.toList := pick_go next _ 0 _ _ (by simp)
section
variable {P : Program} {w : World} {A : Around} {E : Value → Shared → Prop} {s : Shared}
theorem any_choose {src : Source} {n : Nat} {Q : Nat → Shared → Prop} (hn : 0 < n) (h : ∀ i d, i < n → Q i { s with drawn := d }) : wpAny (model P w) A (choose src n) Q E s := fun Γ p _ => ⟨by omega, h _ _ (Nat.mod_lt _ hn)⟩
theorem draw_perm {α : Type} : ∀ (n : Nat) (xs : List α) {s : Shared} {Q : List α → Shared → Prop}, xs.length = n → (∀ ys d, ys.Perm xs → Q ys { s with drawn := d }) → wpAny (model P w) A (drawOrder n xs) Q E s
  | 0, xs, s, Q, h, q => by
    have : xs = [] := List.eq_nil_of_length_eq_zero h
    subst this
    unfold drawOrder
    exact wpAny_pure (q [] s.drawn (.refl _))
  | n + 1, [], s, Q, h, q => by cases h
  | n + 1, x :: xs, s, Q, h, q => by
    unfold drawOrder
    refine wpAny_bind (any_choose (by simp) fun i d lt => ?_)
    rw [List.getElem?_eq_getElem lt]
    dsimp only
    refine wpAny_bind (draw_perm n ((x :: xs).eraseIdx i) (by rw [List.length_eraseIdx_of_lt lt]; omega) fun ys d' pm => ?_)
    exact wpAny_pure (q _ d' ((pm.cons _).trans (ers_perm lt)))
abbrev sIt (first : Value) (i : Nat) (a : Addr) (n ep : Nat) : Obj := { cls := .type "set_iterator", data := .fields #[first, rawInt i, .ref a, rawInt n, rawInt ep] }
theorem next_set {it a : Addr} {S : Str → Bool} {n i ep f g : Nat} {es : Array (Int × Value)} {t : SetTable} {x : Value} {Q : Option Value → Shared → Prop} (T : SetT P w s.heap a S n es ep t) (hit : s.heap.get? it = some (sIt (rawInt f) i a n ep))
    (hn : ∀ {A' : Around} {E' : Value → Shared → Prop} {Q' : Option (Value × Nat) → Shared → Prop}, Q' (some (x, g)) s → wpAny (model P w) A' (setNext a f i ep) Q' E' s)
    (hQ : ∀ h', h'.get? it = some (sIt (rawInt g) (i + 1) a n ep) → Heap.SameBut it s.heap h' → Q (some x) { s with heap := h' }) : wpAny (model P w) A (pyNext (.ref it)) Q E s := by
  have hT : s.TypeIs (.ref it) "set_iterator" := ⟨_, hit, rfl⟩
  obtain ⟨o, ho, hx, hd⟩ := T.at_
  unfold pyNext
  refine wpAny_bind (wpAny_attempt (wpAny_callSpecial?_slot (name := Str.ofString "__next__") hT slot_setiter_next (wpAny_call_entry slot_setiter_next hT entry_setiter_next ?_ (args_setiter_next _))))
  show wpAny _ _ (fieldsOf (.ref it) >>= _) _ _ s
  refine wpAny_bind (wpAny_fieldsOf hit rfl ?_)
  show wpAny _ _ (setEntries a >>= _) _ _ s
  refine wpAny_bind (wpAny_setEntries_of ho hd T.fit ?_)
  rw [T.size]
  rw [if_neg (show ¬ (((n : Nat) : Int) != ((n : Nat) : Int)) = true by simp)]
  refine wpAny_bind (hn ?_)
  show wpAny _ _ (setField (.ref it) 0 (rawInt g) >>= _) _ _ s
  refine wpAny_bind (wpAny_setField hit rfl (by simp) ?_)
  have h1 : (s.heap.update it (Obj.mapFields (·.setIfInBounds 0 (rawInt g)))).get? it = some (sIt (rawInt g) i a n ep) := by
    have := Heap.get?_update_self (Obj.mapFields (·.setIfInBounds 0 (rawInt g))) hit rfl
    exact this
  show wpAny _ _ (setField (.ref it) 1 (rawInt ((i : Int) + 1)) >>= _) _ _ _
  refine wpAny_bind (wpAny_setField h1 rfl (by simp) (wpAny_pure ⟨x, rfl, wpAny_pure (hQ _ ?_ ((Heap.SameBut.update ..).trans (Heap.SameBut.update ..)))⟩))
  exact Heap.get?_update_self (Obj.mapFields (·.setIfInBounds 1 (rawInt ((i : Int) + 1)))) h1 rfl
theorem stop_any {it : Addr} {Q : Option Value → Shared → Prop} {h0 : Heap} (hh : A.handled = none) (hQ : ∀ h', Heap.ExtBut it h0 h' → Q none { s with heap := h' }) (sb : Heap.ExtBut it h0 s.heap) :
    wpAny (model P w) A.in1 (newExc (.type "StopIteration") [] >>= fun e => (raiseNew e : Sem PySem.Fin)) (fun fin s' => ∃ v, fin = .done (.ret v) ∧ wpAny (model P w) A (pure (some v)) Q E s') (fun e s' => wpAny (model P w) A (isInstance e (.type "StopIteration") >>= fun b => if b = true then pure none else throw e) Q E s') s := by
  refine wpAny_bind ?_
  simp only [newExc, newTuple]
  refine wpAny_bind (wpAny_newObj_type ?_ (by size_fits))
  refine wpAny_bind (m := firstArgMember _ _) (wpAny_of_eq (a := Value.none) (by first | rfl | (simp only [firstArgMember]; rfl)) ?_)
  refine wpAny_newObj_type ?_ (by size_fits)
  simp only [raiseNew]
  refine wpAny_bind (wpAny_handled ?_)
  rw [show A.in1.handled = none from hh]
  refine wpAny_bind (wpAny_pure (wpAny_throw ?_))
  refine wpAny_bind (wpAny_isInstance (T := "StopIteration") (b := true) ⟨_, Heap.get?_push_size _ rfl, rfl⟩ isSubtype_stop ?_)
  exact wpAny_pure (hQ _ ((sb.push _).push _))
theorem end_set {it a : Addr} {S : Str → Bool} {n i ep f : Nat} {es : Array (Int × Value)} {t : SetTable} {Q : Option Value → Shared → Prop} (hh : A.handled = none) (T : SetT P w s.heap a S n es ep t) (hit : s.heap.get? it = some (sIt (rawInt f) i a n ep))
    (hn : ∀ {A' : Around} {E' : Value → Shared → Prop} {Q' : Option (Value × Nat) → Shared → Prop}, Q' none s → wpAny (model P w) A' (setNext a f i ep) Q' E' s)
    (hQ : ∀ h', Heap.ExtBut it s.heap h' → Q none { s with heap := h' }) : wpAny (model P w) A (pyNext (.ref it)) Q E s := by
  have hT : s.TypeIs (.ref it) "set_iterator" := ⟨_, hit, rfl⟩
  obtain ⟨o, ho, hx, hd⟩ := T.at_
  unfold pyNext
  refine wpAny_bind (wpAny_attempt (wpAny_callSpecial?_slot (name := Str.ofString "__next__") hT slot_setiter_next (wpAny_call_entry slot_setiter_next hT entry_setiter_next ?_ (args_setiter_next _))))
  show wpAny _ _ (fieldsOf (.ref it) >>= _) _ _ s
  refine wpAny_bind (wpAny_fieldsOf hit rfl ?_)
  show wpAny _ _ (setEntries a >>= _) _ _ s
  refine wpAny_bind (wpAny_setEntries_of ho hd T.fit ?_)
  rw [T.size]
  rw [if_neg (show ¬ (((n : Nat) : Int) != ((n : Nat) : Int)) = true by simp)]
  refine wpAny_bind (hn ?_)
  show wpAny _ _ (setField (.ref it) 2 .none >>= _) _ _ s
  refine wpAny_bind (wpAny_setField hit rfl (by simp) ?_)
  exact stop_any (it := it) (h0 := s.heap) hh hQ (Heap.SameBut.update ..).extBut
theorem next_drawn {it a tp : Addr} {S : Str → Bool} {n i ep j : Nat} {es : Array (Int × Value)} {t : SetTable} {pl : Array Value} {tn : Nat} {ot : Obj} {e : Int × Value} {Q : Option Value → Shared → Prop} (T : SetT P w s.heap a S n es ep t) (hit : s.heap.get? it = some (sIt (.ref tp) i a n ep)) (htp : s.heap.get? tp = some ot) (hot : ot.data = .seq pl tn)
    (hj : pl[i]? = some (rawInt j)) (he : es[j]? = some e)
    (hQ : ∀ h', h'.get? it = some (sIt (.ref tp) (i + 1) a n ep) → Heap.SameBut it s.heap h' → Q (some e.2) { s with heap := h' }) : wpAny (model P w) A (pyNext (.ref it)) Q E s := by
  have hT : s.TypeIs (.ref it) "set_iterator" := ⟨_, hit, rfl⟩
  obtain ⟨o, ho, hx, hd⟩ := T.at_
  unfold pyNext
  refine wpAny_bind (wpAny_attempt (wpAny_callSpecial?_slot (name := Str.ofString "__next__") hT slot_setiter_next (wpAny_call_entry slot_setiter_next hT entry_setiter_next ?_ (args_setiter_next _))))
  show wpAny _ _ (fieldsOf (.ref it) >>= _) _ _ s
  refine wpAny_bind (wpAny_fieldsOf hit rfl ?_)
  show wpAny _ _ (setEntries a >>= _) _ _ s
  refine wpAny_bind (wpAny_setEntries_of ho hd T.fit ?_)
  rw [T.size]
  rw [if_neg (show ¬ (((n : Nat) : Int) != ((n : Nat) : Int)) = true by simp)]
  refine wpAny_bind (wpAny_seqItems htp hot ?_)
  dsimp only
  rw [Int.toNat_natCast, hj]
  show wpAny _ _ (setNextDrawn a (Int.toNat j) (Int.toNat ep) >>= _) _ _ s
  unfold setNextDrawn
  refine wpAny_bind (wpAny_bind (wpAny_setState_of ho hd T.fit ?_))
  dsimp only
  rw [Int.toNat_natCast, Int.toNat_natCast, if_neg (show ¬ (ep != ep) = true by simp), he]
  refine wpAny_pure ?_
  show wpAny _ _ (setField (.ref it) 1 (rawInt ((i : Int) + 1)) >>= _) _ _ _
  refine wpAny_bind (wpAny_setField hit rfl (by simp) (wpAny_pure ⟨e.2, rfl, wpAny_pure (hQ _ ?_ (Heap.SameBut.update ..))⟩))
  exact Heap.get?_update_self (Obj.mapFields (·.setIfInBounds 1 (rawInt ((i : Int) + 1)))) hit rfl
theorem end_drawn {it a tp : Addr} {S : Str → Bool} {n i ep : Nat} {es : Array (Int × Value)} {t : SetTable} {pl : Array Value} {tn : Nat} {ot : Obj} {Q : Option Value → Shared → Prop} (hh : A.handled = none) (T : SetT P w s.heap a S n es ep t) (hit : s.heap.get? it = some (sIt (.ref tp) i a n ep)) (htp : s.heap.get? tp = some ot) (hot : ot.data = .seq pl tn)
    (hj : pl[i]? = none)
    (hQ : ∀ h', Heap.ExtBut it s.heap h' → Q none { s with heap := h' }) : wpAny (model P w) A (pyNext (.ref it)) Q E s := by
  have hT : s.TypeIs (.ref it) "set_iterator" := ⟨_, hit, rfl⟩
  obtain ⟨o, ho, hx, hd⟩ := T.at_
  unfold pyNext
  refine wpAny_bind (wpAny_attempt (wpAny_callSpecial?_slot (name := Str.ofString "__next__") hT slot_setiter_next (wpAny_call_entry slot_setiter_next hT entry_setiter_next ?_ (args_setiter_next _))))
  show wpAny _ _ (fieldsOf (.ref it) >>= _) _ _ s
  refine wpAny_bind (wpAny_fieldsOf hit rfl ?_)
  show wpAny _ _ (setEntries a >>= _) _ _ s
  refine wpAny_bind (wpAny_setEntries_of ho hd T.fit ?_)
  rw [T.size]
  rw [if_neg (show ¬ (((n : Nat) : Int) != ((n : Nat) : Int)) = true by simp)]
  refine wpAny_bind (wpAny_seqItems htp hot ?_)
  dsimp only
  rw [Int.toNat_natCast, hj]
  show wpAny _ _ (setField (.ref it) 0 (rawInt 0) >>= _) _ _ s
  refine wpAny_bind (wpAny_setField hit rfl (by simp) ?_)
  have h1 : (s.heap.update it (Obj.mapFields (·.setIfInBounds 0 (rawInt 0)))).get? it = some (sIt (rawInt 0) i a n ep) := Heap.get?_update_self (Obj.mapFields (·.setIfInBounds 0 (rawInt 0))) hit rfl
  show wpAny _ _ (setField (.ref it) 2 .none >>= _) _ _ _
  refine wpAny_bind (wpAny_setField h1 rfl (by simp) ?_)
  exact stop_any (it := it) (h0 := s.heap) hh hQ ((Heap.SameBut.update ..).trans (Heap.SameBut.update ..)).extBut
end
end L2
namespace L2
open PySem PySem.Spec PyProof.Rows
section
variable {P : Program} {w : World} {A : Around} {E : Value → Shared → Prop} {s : Shared}
theorem byText_any {Q : Bool → Shared → Prop} (h : Q (byT w) s) : wpAny (model P w) A setsByText Q E s := by
  unfold setsByText
  exact wpAny_bind (wpAny_askSetting (wpAny_pure h))
theorem iter_set {a : Addr} {S : Str → Bool} {n ep : Nat} {es : Array (Int × Value)} {t : SetTable} {Q : Value → Shared → Prop} (T : SetT P w s.heap a S n es ep t) (hz : n ≤ sizeLine)
    (h1 : (byT w = true ∨ n ≤ 1) → Q (.ref s.heap.objs.size) { s with heap := s.heap.push (sIt (rawInt 0) 0 a n ep) })
    (h2 : ∀ (pl : List Nat) d, pl.Perm (List.range n) → byT w = false → 2 ≤ n → Q (.ref (s.heap.objs.size + 1)) { s with heap := (s.heap.push { cls := .type "tuple", data := .seq (pl.map fun (i : Nat) => rawInt i).toArray }).push (sIt (.ref s.heap.objs.size) 0 a n ep), drawn := d }) :
    wpAny (model P w) A (pyIter (.ref a)) Q E s := by
  obtain ⟨o, ho, hx, hd⟩ := id T.at_
  have hT : s.TypeIs (.ref a) "set" := ⟨o, ho, hx.1⟩
  refine wpAny_pyIter_slot hT slot_set_iter (wpAny_call_entry slot_set_iter hT entry_set_iter ?_ (args_set_iter _))
  show wpAny _ _ (Builtin.Frozenset.sizeOf a >>= _) _ _ s
  unfold Builtin.Frozenset.sizeOf
  refine wpAny_bind (wpAny_bind (wpAny_setEntries_of ho hd T.fit (wpAny_pure ?_)))
  rw [T.size]
  refine wpAny_bind ?_
  refine wpAny_bind (wpAny_setState_of ho hd T.fit ?_)
  dsimp only
  refine wpAny_bind (byText_any (wpAny_pure ?_))
  show wpAny _ _ (if (!byT w && (!t.plain && decide (es.size > 1))) = true then _ else _) _ _ s
  have fin : ∀ (first : Value) {s' : Shared}, SetT P w s'.heap a S n es ep t → Q (.ref s'.heap.objs.size) { s' with heap := s'.heap.push (sIt first 0 a n ep) } → wpAny (model P w) A.in1 (do
      let __do_lift ← setEpoch a
      let __do_lift ← newFields "set_iterator" [first, rawInt 0, .ref a, rawInt (n : Int), rawInt (__do_lift : Int)]
      ret __do_lift) (fun fin s'' => ∃ v, fin = .done (.ret v) ∧ ∃ T' r, s''.TypeIs v T' ∧ typeLookup (.type T') "__next__" = pure (some r) ∧ Q v s'') E s' := fun first s' T' hq => by
    obtain ⟨o', ho', hx', hd'⟩ := T'.at_
    refine wpAny_bind (wpAny_setEpoch_of ho' hd' T'.fit ?_)
    exact wpAny_bind (wpAny_newObj_type (wpAny_pure ⟨_, rfl, "set_iterator", _, ⟨_, Heap.get?_push_size _ rfl, rfl⟩, slot_setiter_next.lookup, hq⟩))
  by_cases c : (!byT w && (!t.plain && decide (es.size > 1))) = true
  · rw [if_pos c]
    have c1 : byT w = false := by cases h : byT w with | false => rfl | true => rw [h] at c; cases c
    have c2 : 2 ≤ n := by
      rw [Bool.and_eq_true, Bool.and_eq_true] at c
      have := of_decide_eq_true c.2.2
      have := T.size
      omega
    refine wpAny_bind (draw_perm n (List.range n) List.length_range fun pl d pm => ?_)
    have lp : pl.length = n := by rw [pm.length_eq, List.length_range]
    refine wpAny_bind (wpAny_newObj_type ?_ (by show (pl.map fun (i : Nat) => rawInt i).toArray.size ≤ sizeLine; simpa [lp] using hz))
    refine fin _ (s' := { s with heap := s.heap.push { cls := .type "tuple", data := .seq (pl.map fun (i : Nat) => rawInt i).toArray }, drawn := d }) (T.keep fun o e => Heap.get?_push_of_some _ e) ?_
    have e : (s.heap.push { cls := .type "tuple", data := .seq (pl.map fun (i : Nat) => rawInt i).toArray }).objs.size = s.heap.objs.size + 1 := Heap.size_push ..
    have y := h2 pl d pm c1 c2
    rw [← e] at y
    exact y
  · rw [if_neg c]
    refine wpAny_bind (wpAny_pure ?_)
    refine fin _ T (h1 ?_)
    cases hb : byT w with
    | true => exact .inl rfl
    | false =>
      refine .inr ?_
      rcases Nat.lt_or_ge 1 n with z | z
      · have pf := T.plain (by omega)
        exact absurd (by rw [hb, pf, decide_eq_true (show es.size > 1 by have := T.size; omega)]; rfl) c
      · exact z
theorem next_text {a : Addr} {S : Str → Bool} {n f i ep : Nat} {es : Array (Int × Value)} {t : SetTable} {Q : Option (Value × Nat) → Shared → Prop} (T : SetT P w s.heap a S n es ep t) (hb : byT w = true) (h : Q (((pickOrder (w.params.setOrder a ep) es)[i]?).map fun e => (e.2, f)) s) : wpAny (model P w) A (setNext a f i ep) Q E s := by
  obtain ⟨o, ho, hx, hd⟩ := id T.at_
  unfold setNext
  refine wpAny_bind (wpAny_setState_of ho hd T.fit ?_)
  dsimp only
  refine wpAny_bind (byText_any ?_)
  rw [if_pos hb, if_neg (show ¬ (ep != ep) = true by simp)]
  refine wpAny_bind ?_
  unfold setWalk
  refine wpAny_bind (wpAny_setState_of ho hd T.fit ?_)
  dsimp only
  refine wpAny_bind (byText_any ?_)
  rw [if_pos hb]
  refine wpAny_bind (wpAny_askSetting (wpAny_pure ?_))
  exact wpAny_pure h
theorem next_one {a : Addr} {S : Str → Bool} {n f i ep : Nat} {es : Array (Int × Value)} {t : SetTable} {Q : Option (Value × Nat) → Shared → Prop} (T : SetT P w s.heap a S n es ep t) (hb : byT w = false) (h1 : n ≤ 1) (h : Q (match es[SetTable.below t.place f]?, t.place[SetTable.below t.place f]? with | some (_, x), some j => some (x, j + 1) | _, _ => none) s) : wpAny (model P w) A (setNext a f i ep) Q E s := by
  obtain ⟨o, ho, hx, hd⟩ := id T.at_
  unfold setNext
  refine wpAny_bind (wpAny_setState_of ho hd T.fit ?_)
  dsimp only
  refine wpAny_bind (byText_any ?_)
  rw [if_neg (by rw [hb]; exact Bool.false_ne_true)]
  show wpAny _ _ (if (!t.plain && decide (es.size > 1)) = true then _ else _) _ _ s
  have es1 : decide (es.size > 1) = false := decide_eq_false (by have := T.size; omega)
  rw [es1, Bool.and_false, if_neg Bool.false_ne_true]
  refine wpAny_bind ?_
  show wpAny _ _ (if (!t.led && !es.isEmpty) = true then _ else _) _ _ s
  have ld : t.led = true := by rw [T.led, hb]; rfl
  rw [ld]
  rw [show (!true && !es.isEmpty) = false from rfl, if_neg Bool.false_ne_true]
  exact wpAny_pure (wpAny_pure h)
end
end L2
namespace L2
open PySem PySem.Spec PyProof.Rows
section
variable {P : Program} {w : World} {A : Around} {E : Value → Shared → Prop} {s : Shared}
theorem iter_self {I a : Addr} {first : Value} {i n ep : Nat} {Q : Value → Shared → Prop} (hit : s.heap.get? I = some (sIt first i a n ep)) (h : Q (.ref I) s) : wpAny (model P w) A (pyIter (.ref I)) Q E s := by
  have hT : s.TypeIs (.ref I) "set_iterator" := ⟨_, hit, rfl⟩
  refine wpAny_pyIter_slot hT slot_setiter_iter (wpAny_call_entry slot_setiter_iter hT entry_setiter_iter ?_ (args_setiter_iter _))
  show wpAny _ _ (ret (.ref I)) _ _ s
  exact wpAny_pure ⟨_, rfl, "set_iterator", _, hT, slot_setiter_next.lookup, h⟩
theorem walk_text {I a : Addr} {S : Str → Bool} {n ep : Nat} {es : Array (Int × Value)} {t : SetTable} (hh : A.handled = none) (hne : a ≠ I) (hb : byT w = true) (hn : es.size = n) :
    Walks P w A I [I, a] [I] n (fun i v => ((pickOrder (w.params.setOrder a ep) es).toList.map (·.2))[i]? = some v) (fun i h => h.get? I = some (sIt (rawInt 0) i a n ep) ∧ SetT P w h a S n es ep t) where
  sub := fun b hb => by simp at hb; simp [hb]
  frame := fun _ _ _ st hk => ⟨hk I (by simp) _ st.1, st.2.keep fun o e => hk a (by simp) o e⟩
  item := fun i s Q E hi st hQ => by
    have len : (pickOrder (w.params.setOrder a ep) es).size = n := by rw [← Array.length_toList, (pick_perm _ es).length_eq, Array.length_toList, hn]
    obtain ⟨e, he⟩ : ∃ e, (pickOrder (w.params.setOrder a ep) es)[i]? = some e := ⟨_, Array.getElem?_eq_getElem (by omega)⟩
    refine next_set (g := 0) (x := e.2) st.2 st.1 (fun q => next_text st.2 hb (by rw [he]; exact q)) fun h' h1 sb => ?_
    refine hQ _ h' s.toks ?_ ⟨h1, st.2.keep fun o e => sb.extBut a o hne e⟩ fun b o hb e => sb.extBut b o (fun z => hb (by simp [z])) e
    rw [List.getElem?_map, Array.getElem?_toList, he]
    rfl
  done := fun s Q E st hQ => by
    have len : (pickOrder (w.params.setOrder a ep) es).size = n := by rw [← Array.length_toList, (pick_perm _ es).length_eq, Array.length_toList, hn]
    refine end_set hh st.2 st.1 (fun q => next_text st.2 hb (by rw [Array.getElem?_eq_none (by omega)]; exact q)) fun h' eb => hQ h' s.toks fun b o hb e => eb b o (fun z => hb (by simp [z])) e
  self := fun _ _ _ _ st hQ => iter_self st.1 hQ
theorem walk_drawn {I a tp : Addr} {S : Str → Bool} {n ep : Nat} {es : Array (Int × Value)} {t : SetTable} {pl : List Nat} (hh : A.handled = none) (hne : a ≠ I) (htn : tp ≠ I) (hn : es.size = n) (pm : pl.Perm (List.range n)) :
    Walks P w A I [I, a, tp] [I] n (fun i v => (pl.map fun j => ((es[j]?).map (·.2)).getD .none)[i]? = some v) (fun i h => h.get? I = some (sIt (.ref tp) i a n ep) ∧ SetT P w h a S n es ep t ∧ h.get? tp = some { cls := .type "tuple", data := .seq (pl.map fun (i : Nat) => rawInt i).toArray }) where
  sub := fun b hb => by simp at hb; simp [hb]
  frame := fun _ _ _ st hk => ⟨hk I (by simp) _ st.1, st.2.1.keep fun o e => hk a (by simp) o e, hk tp (by simp) _ st.2.2⟩
  item := fun i s Q E hi st hQ => by
    have len : pl.length = n := by rw [pm.length_eq, List.length_range]
    obtain ⟨j, hj⟩ : ∃ j, pl[i]? = some j := ⟨_, List.getElem?_eq_getElem (by omega)⟩
    have jn : j < n := List.mem_range.mp (pm.mem_iff.mp (List.mem_of_getElem? hj))
    obtain ⟨e, he⟩ : ∃ e, es[j]? = some e := ⟨_, Array.getElem?_eq_getElem (by omega)⟩
    refine next_drawn (j := j) st.2.1 st.1 st.2.2 rfl (by rw [List.getElem?_toArray, List.getElem?_map, hj]; rfl) he fun h' h1 sb => ?_
    refine hQ _ h' s.toks ?_ ⟨h1, st.2.1.keep fun o e => sb.extBut a o hne e, sb.extBut tp _ htn st.2.2⟩ fun b o hb e => sb.extBut b o (fun z => hb (by simp [z])) e
    rw [List.getElem?_map, hj]
    show some (((es[j]?).map (·.2)).getD .none) = _
    rw [he]
    rfl
  done := fun s Q E st hQ => by
    have len : pl.length = n := by rw [pm.length_eq, List.length_range]
    refine end_drawn hh st.2.1 st.1 st.2.2 rfl (by rw [List.getElem?_toArray]; exact List.getElem?_eq_none (by rw [List.length_map]; omega)) fun h' eb => hQ h' s.toks fun b o hb e => eb b o (fun z => hb (by simp [z])) e
  self := fun _ _ _ _ st hQ => iter_self st.1 hQ
theorem below_zero {xs : Array Nat} (h : xs.size ≤ 1) : SetTable.below xs 0 = 0 := by
  unfold SetTable.below
  rcases (by omega : xs.size = 0 ∨ xs.size = 1) with e | e <;> rw [e]
  · rfl
  · unfold SetTable.below.go
    simp [SetTable.below.go]
theorem below_next {xs : Array Nat} {j : Nat} (h : xs.size = 1) (e : xs[0]? = some j) : SetTable.below xs (j + 1) = 1 := by
  unfold SetTable.below
  rw [h]
  unfold SetTable.below.go
  simp [SetTable.below.go, Array.getD_eq_getD_getElem?, e]
theorem walk_one {I a : Addr} {S : Str → Bool} {n ep : Nat} {es : Array (Int × Value)} {t : SetTable} (hh : A.handled = none) (hne : a ≠ I) (hb : byT w = false) (h1 : n ≤ 1) (hn : es.size = n) (hf : t.fits es.size = true) :
    Walks P w A I [I, a] [I] n (fun i v => (es.toList.map (·.2))[i]? = some v) (fun i h => (∃ f : Nat, h.get? I = some (sIt (rawInt f) i a n ep) ∧ SetTable.below t.place f = i) ∧ SetT P w h a S n es ep t) where
  sub := fun b hb => by simp at hb; simp [hb]
  frame := fun _ _ _ st hk => ⟨let ⟨f, x, y⟩ := st.1; ⟨f, hk I (by simp) _ x, y⟩, st.2.keep fun o e => hk a (by simp) o e⟩
  item := fun i s Q E hi st hQ => by
    obtain ⟨⟨f, st1, hbl⟩, st2⟩ := st
    have ei : i = 0 := by omega
    subst ei
    have ps : t.place.size = 1 := by
      have hf' := hf
      unfold SetTable.fits at hf'
      rw [Bool.and_eq_true, beq_iff_eq] at hf'
      omega
    obtain ⟨e, he⟩ : ∃ e, es[0]? = some e := ⟨_, Array.getElem?_eq_getElem (by omega)⟩
    obtain ⟨j, hj⟩ : ∃ j, t.place[0]? = some j := ⟨_, Array.getElem?_eq_getElem (by omega)⟩
    refine next_set (g := j + 1) (x := e.2) st2 st1 (fun q => next_one st2 hb h1 (by rw [hbl, he, hj]; exact q)) fun h' h1 sb => ?_
    refine hQ _ h' s.toks ?_ ⟨⟨j + 1, h1, below_next ps hj⟩, st2.keep fun o e => sb.extBut a o hne e⟩ fun b o hb e => sb.extBut b o (fun z => hb (by simp [z])) e
    rw [List.getElem?_map, Array.getElem?_toList, he]
    rfl
  done := fun s Q E st hQ => by
    obtain ⟨⟨f, st1, hbl⟩, st2⟩ := st
    refine end_set hh st2 st1 (fun q => next_one st2 hb h1 (by rw [hbl, Array.getElem?_eq_none (by omega)]; exact q)) fun h' eb => hQ h' s.toks fun b o hb e => eb b o (fun z => hb (by simp [z])) e
  self := fun _ _ _ _ st hQ => let ⟨f, x, _⟩ := st.1; iter_self x hQ
end
end L2
namespace L2
open PySem PySem.Spec PyProof.Rows
section
variable {P : Program} {w : World} {A : Around} {E : Value → Shared → Prop} {s : Shared}
def Wk (P : Program) (w : World) (A : Around) (I : Addr) (n : Nat) (vs : List Value) (h : Heap) (lo : Nat) (a : Addr) : Prop := ∃ (fp : List Addr) (St : Nat → Heap → Prop), Walks P w A I fp [I] n (fun i v => vs[i]? = some v) St ∧ St 0 h ∧ ∀ b ∈ fp, b = a ∨ lo ≤ b
theorem iter_pack {B : Around} {a : Addr} {S : Str → Bool} {n ep : Nat} {es : Array (Int × Value)} {t : SetTable} {Q : Value → Shared → Prop} (T : SetT P w s.heap a S n es ep t) (hz : n ≤ sizeLine) (hh : A.handled = none)
    (q : ∀ I h d vs, (∀ b o, s.heap.get? b = some o → h.get? b = some o) → vs.Perm (es.toList.map (·.2)) → s.heap.objs.size ≤ I → Wk P w A I n vs h s.heap.objs.size a → Q (.ref I) { s with heap := h, drawn := d }) :
    wpAny (model P w) B (pyIter (.ref a)) Q E s := by
  have la : a < s.heap.objs.size := by
    obtain ⟨o, ho, _⟩ := T.at_
    exact Heap.lt_size ho
  refine iter_set T hz (fun c => ?_) fun pl d pm c1 c2 => ?_
  · have k : ∀ b o, s.heap.get? b = some o → (s.heap.push (sIt (rawInt 0) 0 a n ep)).get? b = some o := fun b o e => Heap.get?_push_of_some _ e
    have gI : (s.heap.push (sIt (rawInt 0) 0 a n ep)).get? s.heap.objs.size = some (sIt (rawInt 0) 0 a n ep) := Heap.get?_push_size _ rfl
    have T' := T.keep (h' := s.heap.push (sIt (rawInt 0) 0 a n ep)) fun o e => k a o e
    have near : ∀ b ∈ [s.heap.objs.size, a], b = a ∨ s.heap.objs.size ≤ b := fun b hb => by
      rcases List.mem_cons.mp hb with z | z
      · exact .inr (Nat.le_of_eq z.symm)
      · exact .inl (List.mem_singleton.mp z)
    cases hb : byT w with
    | true => exact q s.heap.objs.size (s.heap.push (sIt (rawInt 0) 0 a n ep)) s.drawn _ k ((pick_perm (w.params.setOrder a ep) es).map _) (Nat.le_refl _) ⟨_, _, walk_text hh (Nat.ne_of_lt la) hb T.size, ⟨gI, T'⟩, near⟩
    | false =>
      have h1 : n ≤ 1 := c.elim (fun z => by rw [hb] at z; cases z) id
      have ps : t.place.size ≤ 1 := by
        have hf' := T.fit
        unfold SetTable.fits at hf'
        rw [Bool.and_eq_true, beq_iff_eq] at hf'
        have := T.size
        omega
      exact q s.heap.objs.size (s.heap.push (sIt (rawInt 0) 0 a n ep)) s.drawn _ k (.refl _) (Nat.le_refl _) ⟨_, _, walk_one hh (Nat.ne_of_lt la) hb h1 T.size T.fit, ⟨⟨0, gI, below_zero ps⟩, T'⟩, near⟩
  · have e1 : (s.heap.push { cls := .type "tuple", data := .seq (pl.map fun (i : Nat) => rawInt i).toArray }).objs.size = s.heap.objs.size + 1 := Heap.size_push ..
    have k : ∀ b o, s.heap.get? b = some o → ((s.heap.push { cls := .type "tuple", data := .seq (pl.map fun (i : Nat) => rawInt i).toArray }).push (sIt (.ref s.heap.objs.size) 0 a n ep)).get? b = some o := fun b o e => Heap.get?_push_of_some _ (Heap.get?_push_of_some _ e)
    have gI : ((s.heap.push { cls := .type "tuple", data := .seq (pl.map fun (i : Nat) => rawInt i).toArray }).push (sIt (.ref s.heap.objs.size) 0 a n ep)).get? (s.heap.objs.size + 1) = some (sIt (.ref s.heap.objs.size) 0 a n ep) := by
      rw [← e1]
      exact Heap.get?_push_size _ rfl
    have gt : ((s.heap.push { cls := .type "tuple", data := .seq (pl.map fun (i : Nat) => rawInt i).toArray }).push (sIt (.ref s.heap.objs.size) 0 a n ep)).get? s.heap.objs.size = some { cls := .type "tuple", data := .seq (pl.map fun (i : Nat) => rawInt i).toArray } := Heap.get?_push_of_some _ (Heap.get?_push_size _ rfl)
    refine q (s.heap.objs.size + 1) _ d (pl.map fun j => ((es[j]?).map (·.2)).getD .none) k ?_ (Nat.le_succ _) ⟨_, _, walk_drawn (tp := s.heap.objs.size) hh (Nat.ne_of_lt (Nat.lt_succ_of_lt la)) (Nat.ne_of_lt (Nat.lt_succ_self _)) T.size pm, ⟨gI, T.keep fun o e => k a o e, gt⟩, fun b hb => ?_⟩
    · refine (pm.map _).trans ?_
      refine List.Perm.of_eq ?_
      refine List.ext_getElem? fun i => ?_
      have this := T.size
      have er : (es.toList.map (·.2))[i]? = (es[i]?).map (·.2) := by rw [List.getElem?_map, Array.getElem?_toList]
      rw [er, List.getElem?_map]
      by_cases hi : i < n
      · rw [List.getElem?_range hi, Array.getElem?_eq_getElem (by omega)]
        show some (((es[i]?).map (·.2)).getD .none) = _
        rw [Array.getElem?_eq_getElem (by omega)]
        rfl
      · rw [List.getElem?_eq_none (by simp; omega), Array.getElem?_eq_none (by omega)]
        rfl
    · rcases List.mem_cons.mp hb with z | z
      · right; rw [z]; exact Nat.le_succ _
      · rcases List.mem_cons.mp z with z | z
        · exact .inl z
        · right; rw [List.mem_singleton.mp z]; exact Nat.le_refl _
theorem hint_set {a : Addr} {Q : Bool → Shared → Prop} (hT : s.TypeIs (.ref a) "set") (h : Q false s) : wpAny (model P w) A (Builtin.List.listLengthHint (.ref a)) Q E s := by
  unfold Builtin.List.listLengthHint
  refine wpAny_bind (wpAny_specialOf hT PySem.F.slot_set_len.lookup ?_)
  generalize hid : ("set.__len__" : String) = id0
  wp_delta
  rw [show splitId id0 = some ("set", "__len__") from by subst hid; decide +kernel]
  subst hid
  refine wpAny_bind (wpAny_isInstance (T := "set") (b := true) hT (by rw [isSubtype_type]; kernel_rfl) ?_)
  refine wpAny_ite_split (fun hab => absurd hab (by decide)) (fun _ => ?_)
  refine wpAny_ite_split (fun _ => ?_) (fun hab => absurd (by decide +kernel) hab)
  refine wpAny_bind (wpAny_typeOf hT ?_)
  exact wpAny_pure h
theorem set_collect {a : Addr} {S : Str → Bool} {n ep : Nat} {es : Array (Int × Value)} {t : SetTable} {R : List Value → Shared → Prop} (T : SetT P w s.heap a S n es ep t) (hh : A.handled = none) (hz : n ≤ sizeLine)
    (h : ∀ (h' : Heap) (d : Drawn) (tk : Nat) (vs : List Value), (∀ b o, s.heap.get? b = some o → h'.get? b = some o) → vs.Perm (es.toList.map (·.2)) → R vs { s with heap := h', drawn := d, toks := tk }) :
    wpAny (model P w) A (collect (.ref a)) R E s := by
  have la : a < s.heap.objs.size := by
    obtain ⟨o, ho, _⟩ := T.at_
    exact Heap.lt_size ho
  unfold collect
  refine wpAny_bind (wpAny_runValue (codeAny_builtin entry_proto_collect' ?_))
  rw [Around.under_plainId PySem.F.plain_proto_collect _]
  show wpAny _ A.in1 (newList [] >>= fun l => again (.builtin "list.__iadd__" ⟨[l, .ref a], []⟩)) _ _ s
  refine wpAny_bind (wpAny_newObj_type ?_)
  refine wpAny_pure ⟨plainId_quiet PySem.F.plain_list_iadd _, codeAny_builtin entry_list_iadd' ?_⟩
  rw [Around.under_plainId PySem.F.plain_list_iadd _]
  have gL : (s.heap.push { cls := .type "list", data := .seq ([] : List Value).toArray }).get? s.heap.objs.size = some { cls := .type "list", data := .seq #[] } := Heap.get?_push_size _ rfl
  have kL : ∀ b o, s.heap.get? b = some o → (s.heap.push { cls := .type "list", data := .seq ([] : List Value).toArray }).get? b = some o := fun b o e => Heap.get?_push_of_some _ e
  have sL : (s.heap.push { cls := .type "list", data := .seq ([] : List Value).toArray }).objs.size = s.heap.objs.size + 1 := Heap.size_push ..
  have T1 := T.keep (h' := s.heap.push { cls := .type "list", data := .seq ([] : List Value).toArray }) fun o e => kL a o e
  show wpAny _ A.in1 (Builtin.List.listExtendWith (.ref s.heap.objs.size) (.ref a) (.ref s.heap.objs.size)) _ _ _
  generalize s.heap.push { cls := .type "list", data := .seq ([] : List Value).toArray } = h1 at gL kL sL T1 ⊢
  obtain ⟨o, ho, hx, hd⟩ := id T1.at_
  have hT : Shared.TypeIs { s with heap := h1 } (.ref a) "set" := ⟨o, ho, hx.1⟩
  unfold Builtin.List.listExtendWith
  refine wpAny_bind (wpAny_typeOf (T := "set") hT ?_)
  have c1 : Builtin.List.listSameRef (.ref s.heap.objs.size) (.ref a) = false := by simp [Builtin.List.listSameRef, Nat.ne_of_gt la]
  have c2 : (Value.type "set" == Value.type "list") = false := by decide
  have c3 : (Value.type "set" == Value.type "tuple") = false := by decide
  simp only [c1, c2, c3, Bool.or_false, Bool.false_eq_true, if_false]
  refine wpAny_bind (iter_pack (A := A.in1) (s := { s with heap := h1 }) T1 hz (by simpa using hh) fun I h2 d vs k2 pm hI W => ?_)
  obtain ⟨fp, St, W, st, near⟩ := W
  have nL : s.heap.objs.size ∉ fp := fun m => by
    rcases near _ m with z | z
    · exact absurd z (Nat.ne_of_gt la)
    · have z' : h1.objs.size ≤ s.heap.objs.size := z
      omega
  have lv : vs.length = n := by rw [pm.length_eq, List.length_map, Array.length_toList, T.size]
  have key : ∀ (h3 : Heap) (c tk : Nat), St 0 h3 → (∀ b o, b ≠ s.heap.objs.size → h2.get? b = some o → h3.get? b = some o) → h3.get? s.heap.objs.size = some { cls := .type "list", data := .seq #[] c } →
      ∀ (R' : Result → Shared → Prop), (∀ h' tk' acc c', (∀ b o, s.heap.get? b = some o → h'.get? b = some o) → h'.get? s.heap.objs.size = some { cls := .type "list", dict := none, data := .seq acc c', slots := #[] } → acc.toList = vs → R' (.ok (.ret (.ref s.heap.objs.size))) { s with heap := h', drawn := d, toks := tk' }) →
      codeAny (model P w) A (.builtin "list.extend.loop" ⟨[.ref s.heap.objs.size, .ref I, .ref s.heap.objs.size], []⟩) R' { s with heap := h3, drawn := d, toks := tk } := fun h3 c tk st3 k3 g3 R' hR => by
    refine codeAny_extend_loopS W.toS hz s.heap.objs.size nL _ n 0 _ #[] c rfl (Nat.zero_le _) st3 g3 (ItemsOf.nil _) fun s' acc c' hm hS' hacc => ?_
    rw [Moved.eq_with hm]
    refine hR s'.heap s'.toks acc c' (fun b o e => ?_) hS' ?_
    · have nb : b ≠ s.heap.objs.size := Nat.ne_of_lt (Heap.lt_size e)
      refine hm.heap b o (fun hmem => ?_) (k3 b o nb (k2 b o (kL b o e)))
      rcases List.mem_cons.mp hmem with z | z
      · exact nb z
      · have z' := List.mem_singleton.mp z
        have l1 := Heap.lt_size e
        have l2 : h1.objs.size ≤ I := hI
        have l3 : b < h1.objs.size := by rw [sL]; exact Nat.lt_succ_of_lt l1
        rw [z'] at l3
        exact absurd (Nat.lt_of_lt_of_le l3 l2) (Nat.lt_irrefl _)
    · refine List.ext_getElem? fun i => ?_
      have sz := hacc.1
      rw [Array.getElem?_toList]
      by_cases hi : i < n
      · rw [Array.getElem?_eq_getElem (by omega)]
        exact (hacc.2 i _ (Array.getElem?_eq_getElem (by omega))).symm
      · rw [Array.getElem?_eq_none (by omega), List.getElem?_eq_none (by omega)]
  refine wpAny_bind (wpAny_holding (hint_set (s := { s with heap := h2, drawn := d }) ⟨o, k2 a o ho, hx.1⟩ ?_))
  have g2 := k2 _ _ gL
  have last : ∀ h' tk' (acc : Array Value) c', (∀ b o, s.heap.get? b = some o → h'.get? b = some o) → h'.get? s.heap.objs.size = some { cls := .type "list", dict := none, data := .seq acc c', slots := #[] } → acc.toList = vs → wpAny (model P w) A (load s.heap.objs.size >>= fun o => match o.data with | .seq items _ => pure items.toList | _ => unsupported "internal:collect") R E { s with heap := h', drawn := d, toks := tk' } := fun h' tk' acc c' kk hS' ea => by
    refine wpAny_bind (wpAny_load hS' ?_)
    show wpAny _ _ (pure acc.toList) _ _ _
    rw [ea]
    exact wpAny_pure (h h' d tk' vs kk pm)
  refine wpAny_ite_split (fun _ => ?_) (fun _ => wpAny_pure ⟨plainId_quiet PySem.F.plain_extend_loop _, key h2 _ _ st (fun b o _ e => e) g2 _ fun h' tk' acc c' kk hS' ea => ?_⟩)
  · refine wpAny_bind (wpAny_rule ?_)
    refine wpAny_bind ?_
    show wpAny _ _ (updateSeq s.heap.objs.size (·.push .none) >>= fun _ => updateSeq s.heap.objs.size (·.pop)) _ _ _
    refine wpAny_bind (wpAny_updateSeq g2 rfl ?_)
    have g3 := Heap.get?_update_self (Obj.mapSeq (·.push Value.none)) g2 rfl
    refine wpAny_updateSeq (hz := by seq_fits) g3 rfl ?_
    have g4 := Heap.get?_update_self (Obj.mapSeq (·.pop)) g3 rfl
    have oth : ∀ b o, b ≠ s.heap.objs.size → h2.get? b = some o → ((h2.update s.heap.objs.size (Obj.mapSeq (·.push Value.none))).update s.heap.objs.size (Obj.mapSeq (·.pop))).get? b = some o := fun b o nb e => (Heap.get?_update_other _ _ (Ne.symm nb)).trans ((Heap.get?_update_other _ _ (Ne.symm nb)).trans e)
    refine wpAny_pure ⟨plainId_quiet PySem.F.plain_extend_loop _, key _ _ _ (W.frame 0 _ _ st fun b hb o e => oth b o (fun z => nL (z ▸ hb)) e) oth g4 _ fun h' tk' acc c' kk hS' ea => ?_⟩
    exact last h' tk' acc c' kk hS' ea
  · exact last h' tk' acc c' kk hS' ea
end
end L2
namespace L2
open PySem PySem.Spec PyProof.Rows
theorem dd_nd (xs : List Str) : (dd xs).Nodup := by
  suffices h : ∀ acc : List Str, acc.Nodup → (xs.foldl met acc).Nodup from h [] List.nodup_nil
  induction xs with
  | nil => exact fun acc h => h
  | cons x r ih =>
    intro acc h
    refine ih _ ?_
    unfold met
    split
    · exact h
    · rename_i c
      refine List.nodup_append.mpr ⟨h, by simp, fun a ha b hb e => c ?_⟩
      have eb : b = x := by simpa using hb
      rw [List.any_eq_true]
      exact ⟨a, ha, by rw [e, eb]; simp⟩
theorem dd_mem {xs : List Str} {k : Str} : k ∈ dd xs ↔ k ∈ xs := by
  have := dd_any xs k
  constructor
  · intro h
    have h1 : (dd xs).any (· == k) = true := List.any_eq_true.mpr ⟨k, h, by simp⟩
    rw [this] at h1
    obtain ⟨y, hy, e⟩ := List.any_eq_true.mp h1
    rw [← eq_of_beq e]; exact hy
  · intro h
    have h1 : xs.any (· == k) = true := List.any_eq_true.mpr ⟨k, h, by simp⟩
    rw [← this] at h1
    obtain ⟨y, hy, e⟩ := List.any_eq_true.mp h1
    rw [← eq_of_beq e]; exact hy
theorem perm_sub {α : Type} [BEq α] [LawfulBEq α] : ∀ {xs ys : List α}, xs.Nodup → (∀ x ∈ xs, x ∈ ys) → ys.length = xs.length → ys.Perm xs
  | [], ys, _, _, hl => by rw [List.eq_nil_of_length_eq_zero hl]
  | x :: xs, ys, nd, hs, hl => by
    have hx := hs x List.mem_cons_self
    obtain ⟨n1, n2⟩ := List.nodup_cons.mp nd
    refine (List.perm_cons_erase hx).trans ?_
    refine (perm_sub n2 (fun y hy => ?_) ?_).cons x
    · exact (List.mem_erase_of_ne (fun e : y = x => n1 (e ▸ hy))).mpr (hs y (List.mem_cons_of_mem _ hy))
    · rw [List.length_erase_of_mem hx, hl]; rfl
def txt : Value → Str
  | .str k _ => k
  | _ => ""
section
variable {P : Program} {w : World}
theorem SetT.keys {h : Heap} {a : Addr} {ts : List Str} {n ep : Nat} {es : Array (Int × Value)} {t : SetTable} (T : SetT P w h a (fun q => (dd ts).any (· == q)) n es ep t) (hn : n = (dd ts).length) {vs : List Value} (pm : vs.Perm (es.toList.map (·.2))) : StrsAre vs (vs.map txt) ∧ (vs.map txt).Perm (dd ts) := by
  have isS : ∀ v ∈ vs, ∃ k t, v = .str k t := fun v hv => by
    obtain ⟨e, he, rfl⟩ := List.mem_map.mp (pm.mem_iff.mp hv)
    obtain ⟨⟨k, hk, _⟩, _⟩ := T.el e he
    obtain ⟨t, et⟩ := Value.isStrOf_shape hk
    exact ⟨k, t, et⟩
  constructor
  · clear pm
    induction vs with
    | nil => exact .nil
    | cons v vs ih =>
      obtain ⟨k, t, rfl⟩ := isS v List.mem_cons_self
      exact .cons _ _ (ih fun v hv => isS v (List.mem_cons_of_mem _ hv))
  · refine perm_sub (dd_nd ts) (fun k hk => ?_) ?_
    · obtain ⟨e, he, hp⟩ := (T.mem k).mp (List.any_eq_true.mpr ⟨k, hk, by simp⟩)
      obtain ⟨t, et⟩ := Value.isStrOf_shape hp
      refine List.mem_map.mpr ⟨e.2, pm.mem_iff.mpr (List.mem_map.mpr ⟨e, he, rfl⟩), ?_⟩
      rw [et]; rfl
    · rw [List.length_map, pm.length_eq, List.length_map, Array.length_toList, T.size, hn]
end
section
variable {P : Program} {w : World} {A : Around} {E : Value → Shared → Prop} {s : Shared}
theorem sort_strs64 {a : Addr} {vs : List Value} {ns : List Str} {n : Nat} {Q : PySem.Fin → Shared → Prop} (ho : s.heap.get? a = some (seqObj "list" vs.toArray n)) (hI : StrsAre vs ns) (hz : vs.length < 64)
    (h : ∀ (out : Array Value) (ms : List Str), StrsAre out.toList ms → ms.Perm ns → sortedS ms = true → Q (.done (.ret .none)) { s with heap := sortedHeap s.heap a vs out }) : wpAny (model P w) A (Builtin.«list.sort» ⟨[.ref a], []⟩) Q E s := by
  refine list_sort_treeK strKind_oneLt ho hI.keysOf (fun v₁ v₂ rest e => keyKind_strs (by rw [← e]; exact hI)) hz fun st' hp hs => ?_
  obtain ⟨ms, h1, h2, h3⟩ := sorted_out_str hI hp hs
  exact h _ ms h1 h2 h3
end
section
variable {X : Cx}
theorem Inv.draws {pins : List (Addr × Obj)} {σ : List (Option V)} {H : Hp} {s : Shared} {d : Drawn} (I : Inv X pins σ H s) : Inv X pins σ H { s with drawn := d } := ⟨I.ok, I.os, I.bare, I.base, I.loc, I.cell, I.free, I.freeC, I.pin, I.hok, I.len⟩
def SetX (P : Program) (w : World) (a : Addr) (ts : List Str) : HO := .ext fun h => SetTx P w h a (fun q => (dd ts).any (· == q)) (dd ts).length
theorem call_setT (hc : X.calm = true) : CallR X (.type "set") (fun xs H Q => ∃ (p : Addr) (ts : List Str), xs = [.ref p] ∧ SqL X.K H p (ts.map V.str) ∧ ts.length ≤ 1000 ∧ ∀ q, H q = none → Q (.ref q) (upd H q (SetX X.prog X.w q ts))) := by
  intro pins s σ H xs us Q I r h
  obtain ⟨p, ts, rfl, hq, h100, q⟩ := h
  obtain ⟨u, rfl, rx⟩ := vals1 r
  cases rx
  obtain ⟨its, r', pl, hz⟩ := I.list hq
  refine set_strsT (I.ok.hd hc) pl.isList r' (Nat.lt_of_le_of_lt (Nat.add_le_add_right h100 1) (by decide)) fun h' tk hS hk => ?_
  refine ⟨.ref s.heap.objs.size, _, I.laid hk (Nat.le_refl _) (o := SetX X.prog X.w s.heap.objs.size ts) ?_, rfl, q _ (I.hok.fresh (Nat.le_refl _))⟩
  refine ⟨hS, ?_, ?_⟩
  · obtain ⟨es, ep, t, T⟩ := hS
    obtain ⟨o, ho, _⟩ := T.at_
    exact ⟨o, ho⟩
  · intro h1 h2 z k
    exact z.keep fun o e => k o e
theorem call_sorted_setD (hc : X.calm = true) : CallR X (.builtin "sorted") (fun xs H Q => ∃ (p : Addr) (ts : List Str), xs = [.ref p] ∧ H p = some (SetX X.prog X.w p ts) ∧ (dd ts).length < 64 ∧ ∀ (l : Addr) (ms : List Str), H l = none → ms.Perm (dd ts) → sortedS ms = true → Q (.ref l) (upd H l (.lst (ms.map V.str)))) := by
  intro pins s σ H xs us Q I r h
  obtain ⟨p, ts, rfl, hp, h1000, q⟩ := h
  obtain ⟨u, rfl, rx⟩ := vals1 r
  cases rx
  obtain ⟨⟨es, ep, t, T⟩, _⟩ := (show SetTx X.prog X.w s.heap p (fun q => (dd ts).any (· == q)) (dd ts).length ∧ _ from I.hok p _ hp)
  refine Calls.call_function_entry kind_sorted plain_sorted entry_sorted (args_sorted1 _) ?_
  unfold Builtin.«sorted»
  refine wpAny_bind (m := checkCount "sorted" 1 1 _) (wpAny_pure ?_)
  refine wpAny_bind (set_collect T (I.ok.hd hc) (Nat.le_of_lt (small1000 (by omega))) fun h' d tk vs hk pm => ?_)
  obtain ⟨hS, pk⟩ := T.keys rfl pm
  have lv : vs.length = (dd ts).length := by have := pk.length_eq; rw [List.length_map] at this; exact this
  have hoL : (h'.push (seqObj "list" vs.toArray 0)).get? h'.objs.size = some (seqObj "list" vs.toArray 0) := Heap.get?_push_size _ rfl
  refine wpAny_bind (wpAny_newList ?_ (hsz := by rw [lv]; exact Nat.le_of_lt (small1000 (by omega))))
  show wpAny _ _ _ _ _ { s with heap := h'.push (seqObj "list" vs.toArray 0), drawn := d, toks := tk }
  refine wpAny_bind (wpAny_holding (wpAny_call_entry slot_list_sort ⟨_, hoL, rfl⟩ entry_list_sort (sort_strs64 hoL hS (by omega) fun out ms a1 a2 a3 => ⟨_, rfl, ?_⟩) (args_list_sort _)))
  refine wpAny_pure ⟨_, rfl, ?_⟩
  have I1 : Inv X pins σ H { s with heap := h', drawn := d, toks := tk } := (I.kept (t' := tk) hk).draws
  obtain ⟨e, he⟩ := sortedHeap_at (vs := vs) (out := out) hoL
  have hf : H h'.objs.size = none := I1.hok.fresh (Nat.le_refl _)
  have hlm := (a2.trans pk).length_eq
  have s64 := small1000 (n := ms.length) (by omega)
  refine ⟨.ref h'.objs.size, _, I1.laid (t' := tk) (o := .lst (ms.map V.str)) (fun b o e => ?_) (Nat.le_refl _) ?_, rfl, q _ ms hf (a2.trans pk) a3⟩
  · have lb := Heap.lt_size e
    rw [sortedHeap_old (Nat.ne_of_lt lb) (by rw [size_push']; exact Nat.lt_succ_of_lt lb)]
    exact Heap.get?_push_of_some _ e
  · refine ⟨by rw [List.length_map]; exact Nat.le_of_lt s64, out.toList, e, vals_strs a1, ?_⟩
    simpa using he
end
end L2
namespace Sen
open PySem L2
inductive Tr
  | s (x : Str)
  | e
  | c (h t : Tr)
def Tr.tup : Tr → Bool
  | .s _ => false
  | _ => true
def Tr.items : Tr → List Tr
  | .c h t => h :: t.items
  | _ => []
def atT (H : Hp) : Tr → (V → Prop) × (List V → Prop)
  | .s x => (fun v => v = .str x, fun _ => False)
  | .e => (fun v => ∃ p, v = .ref p ∧ H p = some (.tup []), fun vs => vs = [])
  | .c h t => (fun v => ∃ p vs, v = .ref p ∧ H p = some (.tup vs) ∧ ∃ x xs, vs = x :: xs ∧ (atT H h).1 x ∧ (atT H t).2 xs, fun vs => ∃ x xs, vs = x :: xs ∧ (atT H h).1 x ∧ (atT H t).2 xs)
def IsT (H : Hp) (t : Tr) (v : V) : Prop := (atT H t).1 v
theorem atT_mono {H H' : Hp} (g : Tups H H') : ∀ t, (∀ v, (atT H t).1 v → (atT H' t).1 v) ∧ (∀ vs, (atT H t).2 vs → (atT H' t).2 vs)
  | .s x => ⟨fun _ h => h, fun _ h => h⟩
  | .e => ⟨fun _ ⟨p, e, h⟩ => ⟨p, e, g _ _ h⟩, fun _ h => h⟩
  | .c h t => ⟨fun _ ⟨p, vs, e, h1, x, xs, e2, h2, h3⟩ => ⟨p, vs, e, g _ _ h1, x, xs, e2, (atT_mono g h).1 _ h2, (atT_mono g t).2 _ h3⟩, fun _ ⟨x, xs, e2, h2, h3⟩ => ⟨x, xs, e2, (atT_mono g h).1 _ h2, (atT_mono g t).2 _ h3⟩⟩
theorem IsT.mono {H H' : Hp} {t : Tr} {v : V} (h : IsT H t v) (g : Tups H H') : IsT H' t v := (atT_mono g t).1 v h
theorem atT_items {H : Hp} : ∀ {t : Tr} {vs : List V}, (atT H t).2 vs → Paired (IsT H) t.items vs
  | .s _, _, h => h.elim
  | .e, _, h => by cases h; exact .nil
  | .c a t, _, ⟨x, xs, e, h1, h2⟩ => by subst e; exact .cons h1 (atT_items h2)
theorem IsT.cut {H : Hp} {t : Tr} {p : Addr} (h : IsT H t (.ref p)) : ∃ vs, H p = some (.tup vs) ∧ Paired (IsT H) t.items vs := by
  cases t with
  | s x => cases h
  | e => obtain ⟨q, e, h⟩ := h; cases e; exact ⟨_, h, .nil⟩
  | c a t => obtain ⟨q, vs, e, h1, h2⟩ := h; cases e; exact ⟨vs, h1, atT_items (t := .c a t) h2⟩
theorem IsT.tup {H : Hp} {t : Tr} {v : V} (h : IsT H t v) (e : t.tup = true) : ∃ p, v = .ref p := by
  cases t with
  | s x => cases e
  | e => obtain ⟨q, e, h⟩ := h; exact ⟨q, e⟩
  | c a t => obtain ⟨q, vs, e, h1, h2⟩ := h; exact ⟨q, e⟩
theorem IsT.str {H : Hp} {t : Tr} {v : V} (h : IsT H t v) (e : t.tup = false) : ∃ x, t = .s x ∧ v = .str x := by
  cases t with
  | s x => exact ⟨x, rfl, h⟩
  | e => cases e
  | c a t => cases e
section
variable {α β : Type} {R : α → β → Prop}
theorem pdTake : ∀ {xs : List α} {ys : List β} (i : Nat), Paired R xs ys → Paired R (xs.take i) (ys.take i)
  | [], [], _, .nil => by simp only [List.take_nil]; exact .nil
  | x :: xs, y :: ys, 0, .cons _ t => .nil
  | x :: xs, y :: ys, i + 1, .cons h t => .cons h (pdTake i t)
theorem pdDrop : ∀ {xs : List α} {ys : List β} (i : Nat), Paired R xs ys → Paired R (xs.drop i) (ys.drop i)
  | [], [], _, .nil => by simp only [List.drop_nil]; exact .nil
  | x :: xs, y :: ys, 0, .cons h t => .cons h t
  | x :: xs, y :: ys, i + 1, .cons h t => pdDrop i t
end
def lk (x : Str) : Option (Nat × Nat) := (tb_SHAPES.find? fun e => decide (e.1 = x)).map fun e => (e.2.1.toNat, e.2.2.toNat)
theorem lk_some {x : Str} {m n : Nat} (h : lk x = some (m, n)) : (x, (m : Int), (n : Int)) ∈ tb_SHAPES ∧ m ≤ 1 ∧ n ≤ 2 := by
  rw [lk, Option.map_eq_some_iff] at h
  obtain ⟨e, h1, h2⟩ := h
  have m1 := List.mem_of_find?_eq_some h1
  have m3 := List.find?_some h1
  have m2 : e.1 = x := of_decide_eq_true m3
  have z : ∀ e ∈ tb_SHAPES, 0 ≤ e.2.1 ∧ 0 ≤ e.2.2 ∧ e.2.1 ≤ 1 ∧ e.2.2 ≤ 2 := by decide +kernel
  obtain ⟨z1, z2, z3, z4⟩ := z e m1
  cases h2
  subst m2
  rw [Int.toNat_of_nonneg z1, Int.toNat_of_nonneg z2]
  exact ⟨m1, by omega, by omega⟩
theorem lk_none {x : Str} (h : lk x = none) : ∀ e ∈ tb_SHAPES, e.1 ≠ x := by
  rw [lk, Option.map_eq_none_iff, List.find?_eq_none] at h
  exact fun e he z => h e he (decide_eq_true z)
def isMk : Tr → Bool
  | .s x => decide (x ∈ letts)
  | _ => false
def shp (t : Tr) : Bool :=
  match t.items with
  | .s x :: r => match lk x with
    | some (m, n) => decide (r.length = m + n) && (r.take m).all isMk && (r.drop m).all Tr.tup
    | none => false
  | _ => false
def pts (t : Tr) : List Tr :=
  match t.items with
  | .s x :: r => match lk x with
    | some (m, _) => r.drop m
    | none => []
  | _ => []
def lev : Nat → Nat → List Tr → Bool
  | 0, _, ts => ts.isEmpty
  | f + 1, t, ts => ts.isEmpty || (decide (t + ts.length ≤ 200) && ts.all shp && lev f (t + ts.length) (ts.flatMap pts))
theorem shp_cut {t : Tr} (h : shp t = true) : ∃ x m n r, t.items = .s x :: r ∧ lk x = some (m, n) ∧ r.length = m + n ∧ (r.take m).all isMk = true ∧ (r.drop m).all Tr.tup = true ∧ pts t = r.drop m := by
  unfold shp at h
  unfold pts
  split at h
  · rename_i x r e
    split at h
    · rename_i m n e2
      rw [Bool.and_eq_true, Bool.and_eq_true] at h
      refine ⟨x, m, n, r, e, e2, of_decide_eq_true h.1.1, h.1.2, h.2, rfl⟩
    · cases h
  · cases h
inductive spMarkX (vs : List V) (H : Hp) (Q : VK) (E9 : XK) : Prop
  | mk (t : Tr) (v : V) (_ : vs = [v]) (_ : IsT H t v) (_ : Q (.bl (isMk t)) H) : spMarkX vs H Q E9
theorem mono_markX : SpMono spMarkX := fun vs H Q Q' E h ⟨t, v, e, h1, q⟩ => ⟨t, v, e, h1, h _ _ q⟩
inductive spShapedX (vs : List V) (H : Hp) (Q : VK) (E9 : XK) : Prop
  | mk (p : Addr) (t : Tr) (_ : vs = [.ref p]) (_ : IsT H t (.ref p)) (_ : ∀ H', Same H H' → Q (.bl (shp t)) H') : spShapedX vs H Q E9
theorem mono_shapedX : SpMono spShapedX := fun vs H Q Q' E h ⟨p, t, e, h1, q⟩ => ⟨p, t, e, h1, fun H' g => h _ _ (q H' g)⟩
inductive spPartsAllX (K : PySem.W.Frag) (vs : List V) (H : Hp) (Q : VK) (E9 : XK) : Prop
  | mk (l : Addr) (ts : List Tr) (ps : List Addr) (_ : vs = [.ref l]) (_ : SqL K H l (ps.map V.ref)) (_ : Paired (fun t p => IsT H t (.ref p)) ts ps) (_ : ts.all shp = true) (_ : ts.length ≤ 200)
    (_ : ∀ (l' : Addr) H' (qs : List Addr), Same H H' → H l' = none → H' l' = some (.lst (qs.map V.ref)) → Paired (fun t p => IsT H' t (.ref p)) (ts.flatMap pts) qs → Q (.ref l') H') : spPartsAllX K vs H Q E9
inductive spIsSenX (vs : List V) (H : Hp) (Q : VK) (E9 : XK) : Prop
  | mk (p : Addr) (t : Tr) (_ : vs = [.ref p]) (_ : IsT H t (.ref p)) (_ : ∀ H', Same H H' → Q (.bl (lev 24 0 [t])) H') : spIsSenX vs H Q E9
def mkV : V → Bool
  | .str x => decide (x ∈ letts)
  | _ => false
def tuV : V → Bool
  | .ref _ => true
  | _ => false
theorem IsT.mk {H : Hp} {t : Tr} {v : V} (h : IsT H t v) : isMk t = mkV v := by
  cases t with
  | s x => cases h; rfl
  | e => obtain ⟨q, e, h⟩ := h; subst e; rfl
  | c a t => obtain ⟨q, vs, e, h1, h2⟩ := h; subst e; rfl
theorem IsT.tu {H : Hp} {t : Tr} {v : V} (h : IsT H t v) : t.tup = tuV v := by
  cases t with
  | s x => cases h; rfl
  | e => obtain ⟨q, e, h⟩ := h; subst e; rfl
  | c a t => obtain ⟨q, vs, e, h1, h2⟩ := h; subst e; rfl
theorem pd_all {α β : Type} {R : α → β → Prop} {f : α → Bool} {g : β → Bool} (h : ∀ a b, R a b → f a = g b) : ∀ {xs : List α} {ys : List β}, Paired R xs ys → xs.all f = ys.all g
  | _, _, .nil => rfl
  | _, _, .cons r t => by rw [List.all_cons, List.all_cons, h _ _ r, pd_all h t]
theorem all_bl (f : V → Bool) (xs : List V) : (xs.map f).all id = xs.all f := by
  rw [List.all_map]; rfl
theorem pd_refs {H : Hp} : ∀ {ts : List Tr} {vs : List V}, Paired (IsT H) ts vs → ts.all Tr.tup = true → ∃ ps : List Addr, vs = ps.map V.ref ∧ Paired (fun t p => IsT H t (.ref p)) ts ps
  | _, _, .nil, _ => ⟨[], rfl, .nil⟩
  | _, _, .cons r t, e => by
    rw [List.all_cons, Bool.and_eq_true] at e
    obtain ⟨p, e1⟩ := r.tup e.1
    obtain ⟨ps, e2, h⟩ := pd_refs t e.2
    subst e1 e2
    exact ⟨p :: ps, rfl, .cons r h⟩
theorem not_mark (xs : List V) : (xs.any fun _ => false) = false := by
  rw [List.any_eq_false]; exact fun _ _ => Bool.false_ne_true
end Sen
namespace L2
open PySem PySem.Spec PyProof PyProof.Rows PySem.Builtin PySem.Builtin.Str
section
variable {X : Cx}
def rAddT (K : PySem.W.Frag) : R2 := fun x y H Q => ∃ p q xs ys, x = .ref p ∧ y = .ref q ∧ SqT K H p xs ∧ SqT K H q ys ∧ xs ≠ [] ∧ xs.length + ys.length ≤ sizeLine ∧ (ys = [] → Q (.ref p) H) ∧ (ys ≠ [] → ∀ l, H l = none → Q (.ref l) (upd H l (.tup (xs ++ ys))))
theorem op_addT {K : PySem.W.Frag} (hK : X.K = K) : OpR X (binaryOp .Add) (rAddT K) := by
  subst hK
  intro pins s σ H x y v u Q I rx ry h
  obtain ⟨p, q, xs, ys, rfl, rfl, hp, hq, ne, hz, h1, h2⟩ := h
  cases rx
  cases ry
  obtain ⟨its1, rv1, pl1, hz1⟩ := I.tuple hp
  obtain ⟨its2, rv2, pl2, hz2⟩ := I.tuple hq
  obtain ⟨⟨cls, dd, data, sl⟩, ho, hc, n, hd⟩ := id pl1
  obtain ⟨⟨cls2, dd2, data2, sl2⟩, ho2, hc2, n2, hd2⟩ := id pl2
  simp only at hc hd hc2 hd2
  subst hc hd hc2 hd2
  have l1 := rv1.length
  have l2 := rv2.length
  have e : its1.toArray ++ its2.toArray = (its1 ++ its2).toArray := by simp
  have n1 : its1 ≠ [] := fun z => ne (List.length_eq_zero_iff.mp (by rw [l1, z]; rfl))
  by_cases hw : ys = []
  · have w0 : its2 = [] := List.length_eq_zero_iff.mp (by rw [← l2, hw]; rfl)
    exact concat_meets ⟨_, ho, rfl⟩ ⟨_, ho2, rfl⟩ noFill_tuple_add seq_tuple_add PySem.F.slot_tuple_add PySem.F.entry_tuple_add (PySem.F.args_tuple_add_2 _ _)
      (tuple_addW1 p q its1.toArray its2.toArray n n2 dd dd2 sl sl2 (by simpa using n1) (by simp [w0])) ⟨ho, ho2, .ref p, H, I, rfl, h1 hw⟩
  · have w0 : its2 ≠ [] := fun z => hw (List.length_eq_zero_iff.mp (by rw [l2, z]; rfl))
    refine concat_meets ⟨_, ho, rfl⟩ ⟨_, ho2, rfl⟩ noFill_tuple_add seq_tuple_add PySem.F.slot_tuple_add PySem.F.entry_tuple_add (PySem.F.args_tuple_add_2 _ _)
      (tuple_addW2 p q its1.toArray its2.toArray n n2 dd dd2 sl sl2 (by simpa using n1) (by simpa using w0) (by rw [List.size_toArray, List.size_toArray, ← l1, ← l2]; exact hz)) ⟨ho, ho2, ?_⟩
    rw [e]
    refine ⟨.ref s.heap.objs.size, _, I.laid (t' := s.toks) (o := .tup (xs ++ ys)) (fun b o e => Heap.get?_push_of_some _ e) (Nat.le_refl _) ?_, rfl, h2 hw _ (I.hok.fresh (Nat.le_refl _))⟩
    exact ⟨by rw [List.length_append]; exact hz, its1 ++ its2, rv1.append rv2, _, Heap.get?_push_size _ rfl, rfl, 0, rfl⟩
variable {e v₁ v₂ : Expr} {es rest : List Expr} {t : TXg} {u : TXs} {te : TE} {pos : Pos}
end
end L2
namespace Sen
open PySem L2
theorem part_count {s t : Sn} (h : t ∈ s.parts) : t.count ≤ s.count := by
  cases s with
  | c0 y => cases h
  | mk x => cases h
  | nt s => rw [List.mem_singleton.mp h]; show s.count ≤ 1 + s.count; omega
  | b2 o a b =>
    show t.count ≤ 1 + (a.count + b.count)
    rcases List.mem_cons.mp h with h | h
    · rw [h]; omega
    · rw [List.mem_singleton.mp h]; omega
  | q1 o x s => rw [List.mem_singleton.mp h]; show s.count ≤ 1 + s.count; omega
inductive spWordsN (vs : List V) (H : Hp) (Q : VK) (E9 : XK) : Prop
  | mk (p : Addr) (s : Sn) (_ : vs = [.ref p]) (_ : IsS H s p) (_ : s.inO letts) (_ : s.count ≤ 200) (_ : s.depth ≤ 24) (_ : ∀ H', Same H H' → Q (.int (s.count : Nat)) H') : spWordsN vs H Q E9
inductive spMarksOf (vs : List V) (H : Hp) (Q : VK) (E9 : XK) : Prop
  | mk (p : Addr) (s : Sn) (_ : vs = [.ref p]) (_ : IsS H s p) (_ : s.inO letts) (_ : s.count ≤ 200) (_ : s.depth ≤ 24) (_ : ∀ (l : Addr) H' (ms : List Str), Same H H' → H l = none → H' l = some (.lst (ms.map V.str)) → ms.Nodup → (∀ x, x ∈ ms ↔ x ∈ s.all) → PyProof.Rows.sortedS ms = true → Q (.ref l) H') : spMarksOf vs H Q E9
theorem dd_few {ts : List Str} (h : ∀ x ∈ ts, x ∈ letts) : (dd ts).length < 64 :=
  Nat.lt_of_le_of_lt (nodup_le (ys := letts) (dd_nd ts) fun x hx => h x (dd_mem.mp hx)) (by decide)
end Sen
namespace L2
open PySem PySem.Spec PyProof.Rows
inductive Dt
  | s (x : Str)
  | n (i : Int)
  | q (l : Bool) (d : Dt)
  | e
  | c (h t : Dt)
def sqO (l : Bool) (xs : List V) : HO := bif l then .lst xs else .tup xs
def atD (H : Hp) : Dt → (V → Prop) × (List V → Prop)
  | .s x => (fun v => v = .str x, fun _ => False)
  | .n i => (fun v => v = .int i, fun _ => False)
  | .q l d => (fun v => ∃ p vs, v = .ref p ∧ H p = some (sqO l vs) ∧ (atD H d).2 vs, fun _ => False)
  | .e => (fun _ => False, fun vs => vs = [])
  | .c h t => (fun _ => False, fun vs => ∃ x xs, vs = x :: xs ∧ (atD H h).1 x ∧ (atD H t).2 xs)
def IsW (H : Hp) (d : Dt) (v : V) : Prop := (atD H d).1 v
theorem atD_mono {H H' : Hp} (g : Same H H') : ∀ d, (∀ v, (atD H d).1 v → (atD H' d).1 v) ∧ (∀ vs, (atD H d).2 vs → (atD H' d).2 vs)
  | .s x => ⟨fun _ h => h, fun _ h => h⟩
  | .n x => ⟨fun _ h => h, fun _ h => h⟩
  | .q l d => ⟨fun _ ⟨p, vs, e, h1, h2⟩ => ⟨p, vs, e, g _ _ h1, (atD_mono g d).2 _ h2⟩, fun _ h => h⟩
  | .e => ⟨fun _ h => h, fun _ h => h⟩
  | .c h t => ⟨fun _ h => h, fun _ ⟨x, xs, e2, h2, h3⟩ => ⟨x, xs, e2, (atD_mono g h).1 _ h2, (atD_mono g t).2 _ h3⟩⟩
theorem IsW.mono {H H' : Hp} {d : Dt} {v : V} (h : IsW H d v) (g : Same H H') : IsW H' d v := (atD_mono g d).1 v h
def Dt.len : Dt → Nat
  | .c _ t => t.len + 1
  | _ => 0
theorem atD_len {H : Hp} : ∀ {d : Dt} {vs : List V}, (atD H d).2 vs → vs.length = d.len
  | .s _, _, h => h.elim
  | .n _, _, h => h.elim
  | .q _ _, _, h => h.elim
  | .e, _, h => by cases h; rfl
  | .c a t, _, ⟨x, xs, e, _, h2⟩ => by subst e; show xs.length + 1 = t.len + 1; rw [atD_len h2]
def Dt.items : Dt → List Dt
  | .c h t => h :: t.items
  | _ => []
theorem atD_items {H : Hp} : ∀ {d : Dt} {vs : List V}, (atD H d).2 vs → Paired (IsW H) d.items vs
  | .s _, _, h => h.elim
  | .n _, _, h => h.elim
  | .q _ _, _, h => h.elim
  | .e, _, h => by cases h; exact .nil
  | .c a t, _, ⟨x, xs, e, h1, h2⟩ => by subst e; exact .cons h1 (atD_items h2)
def litL (f : Expr → Option Dt) : List Expr → Option Dt
  | [] => some .e
  | e :: r => match f e, litL f r with
    | some a, some b => some (.c a b)
    | _, _ => none
def litE (x : Str) (g : Option Dt) : Nat → Expr → Option Dt
  | 0, _ => none
  | _ + 1, .Constant (.str y) _ _ => some (.s y)
  | _ + 1, .Constant (.int i) _ _ => some (.n i)
  | _ + 1, .Name y _ => if y = x then g else none
  | n + 1, .UnaryOp .USub a _ => match litE x g n a with
    | some (.n i) => some (.n (-i))
    | _ => none
  | n + 1, .BinOp a .Add b _ => match litE x g n a, litE x g n b with
    | some (.n i), some (.n j) => some (.n (i + j))
    | _, _ => none
  | n + 1, .BinOp a .Sub b _ => match litE x g n a, litE x g n b with
    | some (.n i), some (.n j) => some (.n (i - j))
    | _, _ => none
  | n + 1, .Tuple es _ _ => if es.length ≤ 100 then (litL (litE x g n) es).map (.q false) else none
  | n + 1, .List es _ => if es.length ≤ 100 then (litL (litE x g n) es).map (.q true) else none
  | _ + 1, _ => none
def Hol (i : Nat) (g : Option Dt) (σ : St) (H : Hp) : Prop := ∀ d, g = some d → ∃ v, σ[i]? = some (some v) ∧ IsW H d v
theorem Hol.mono {i : Nat} {g : Option Dt} {σ : St} {H H' : Hp} (h : Hol i g σ H) (s : Same H H') : Hol i g σ H' := fun d e => by
  obtain ⟨v, h1, h2⟩ := h d e
  exact ⟨v, h1, h2.mono s⟩
def tLit (i : Nat) (g : Option Dt) (d : Dt) : TE := fun σ H Q => Hol i g σ H ∧ ∀ v H', Same H H' → IsW H' d v → Q v H'
def tLits (i : Nat) (g : Option Dt) (d : Dt) : TA := fun σ H Q => Hol i g σ H ∧ ∀ vs H', Same H H' → (atD H' d).2 vs → Q vs H'
section
variable {X : Cx} {i : Nat} {x : Str} {g : Option Dt}
theorem lit_star {n : Nat} {e : Expr} {d : Dt} (h : litE x g n e = some d) (es : List Expr) (env : Env) : starEach (e :: es) env = (false, eval e env) :: starEach es env := by
  cases e
  case Starred => cases n <;> cases h
  all_goals rfl
theorem litL_len {f : Expr → Option Dt} : ∀ {es : List Expr} {d : Dt}, litL f es = some d → d.len = es.length
  | [], d, h => by cases h; rfl
  | e :: r, d, h => by
    unfold litL at h
    split at h
    · rename_i a b ha hb
      cases h
      show b.len + 1 = r.length + 1
      rw [litL_len hb]
    · cases h
theorem pa_lit {f : Expr → Option Dt} (hf : ∀ e d, f e = some d → PE X e (tLit i g d)) (hs : ∀ e d, f e = some d → ∀ es env, starEach (e :: es) env = (false, eval e env) :: starEach es env) : ∀ {es : List Expr} {d : Dt}, litL f es = some d → PA X es (tLits i g d)
  | [], d, h => by
    cases h
    intro pos pins s σ H Q I q
    exact pa_nil pos pins s σ H Q I (q.2 [] H (Same.refl _) rfl)
  | e :: r, d, h => by
    unfold litL at h
    split at h
    · rename_i a b ha hb
      cases h
      intro pos pins s σ H Q I q
      refine pa_cons (hf e a ha) (pa_lit hf hs hb) (hs e a ha r X.env) pos pins s σ H Q I ?_
      exact ⟨q.1, fun v H1 g1 hv => ⟨q.1.mono g1, fun vs H2 g2 hvs => q.2 (v :: vs) H2 (g1.trans g2) ⟨v, vs, rfl, IsW.mono hv g2, hvs⟩⟩⟩
    · cases h
theorem pe_lit (hx : g ≠ none → ∀ pos, PE X (.Name x pos) (tVar i)) : ∀ (n : Nat) (e : Expr) (d : Dt), litE x g n e = some d → PE X e (tLit i g d)
  | 0, e, d, h => by cases h
  | n + 1, e, d, h => by
    have ih := pe_lit hx n
    have len_ok : ∀ {H : Hp} {b : Dt} {es : List Expr} {vs : List V}, es.length ≤ 100 → litL (litE x g n) es = some b → (atD H b).2 vs → vs.length ≤ sizeLine := fun {H b es vs} h1 h2 h => by
      rw [atD_len h, litL_len h2]
      exact Nat.le_trans h1 (by decide)
    unfold litE at h
    split at h
    · cases h
    · cases h
      exact fun pins s σ H Q I q => pe_str pins s σ H Q I (q.2 _ H (Same.refl _) rfl)
    · cases h
      exact fun pins s σ H Q I q => pe_int pins s σ H Q I (q.2 _ H (Same.refl _) rfl)
    · rename_i y p e2
      split at h
      · rename_i e3
        subst e3
        intro pins s σ H Q I q
        obtain ⟨v, h1, h2⟩ := q.1 d h
        exact hx (by rw [h]; exact fun z => nomatch z) _ pins s σ H Q I ⟨v, h1, q.2 v H (Same.refl _) h2⟩
      · cases h
    · rename_i n' e2 a p e3
      cases e3
      split at h
      · rename_i j ha
        cases h
        intro pins s σ H Q I q
        refine pe_un un_neg (ih _ _ ha) pins s σ H Q I ⟨q.1, fun v H1 g1 hv => ?_⟩
        exact ⟨j, hv, q.2 _ H1 g1 rfl⟩
      · cases h
    · rename_i n' e2 a b p e3
      cases e3
      split at h
      · rename_i j l ha hb
        cases h
        intro pins s σ H Q I q
        refine pe_op op_add (ih _ _ ha) (ih _ _ hb) pins s σ H Q I ⟨q.1, fun v H1 g1 hv => ⟨q.1.mono g1, fun u H2 g2 hu => ?_⟩⟩
        exact ⟨j, l, hv, hu, q.2 _ H2 (g1.trans g2) rfl⟩
      · cases h
    · rename_i n' e2 a b p e3
      cases e3
      split at h
      · rename_i j l ha hb
        cases h
        intro pins s σ H Q I q
        refine pe_op op_sub (ih _ _ ha) (ih _ _ hb) pins s σ H Q I ⟨q.1, fun v H1 g1 hv => ⟨q.1.mono g1, fun u H2 g2 hu => ?_⟩⟩
        exact ⟨j, l, hv, hu, q.2 _ H2 (g1.trans g2) rfl⟩
      · cases h
    · rename_i n' e2 es k p e3
      cases e3
      split at h
      · rename_i hz
        cases hl : litL (litE x g n) es with
        | none => rw [hl] at h; cases h
        | some b =>
        rw [hl] at h
        cases h
        intro pins s σ H Q I q
        refine pe_tup (pa_lit ih (fun e d h => lit_star h) hl) pins s σ H Q I ⟨q.1, fun vs H1 g1 hv => ⟨len_ok hz hl hv, fun r hr => ?_⟩⟩
        have g2 := Same.new hr (.tup vs)
        exact q.2 _ _ (g1.trans g2) ⟨r, vs, rfl, upd_same, (atD_mono g2 b).2 _ hv⟩
      · cases h
    · rename_i n' e2 es p e3
      cases e3
      split at h
      · rename_i hz
        cases hl : litL (litE x g n) es with
        | none => rw [hl] at h; cases h
        | some b =>
        rw [hl] at h
        cases h
        intro pins s σ H Q I q
        refine pe_lst (pa_lit ih (fun e d h => lit_star h) hl) pins s σ H Q I ⟨q.1, fun vs H1 g1 hv => ⟨len_ok hz hl hv, fun r hr => ?_⟩⟩
        have g2 := Same.new hr (.lst vs)
        exact q.2 _ _ (g1.trans g2) ⟨r, vs, rfl, upd_same, (atD_mono g2 b).2 _ hv⟩
      · cases h
    · cases h
theorem pe_lit0 {e : Expr} {d : Dt} (n : Nat) (h : litE "" none n e = some d) : PE X e (tLit 0 none d) := pe_lit (fun z => absurd rfl z) n e d h
theorem pe_lit1 {e : Expr} {d g : Dt} (n : Nat) (i : Nat) (x : Str) (h : litE x (some g) n e = some d) (hN : X.N[i]? = some x := by rfl) (hv : Vis X.env.scope x := by first | exact Or.inl rfl | exact Or.inr (Or.inl rfl) | exact Or.inr (Or.inr rfl)) (hb : (x == ("__debug__" : Str)) = false := by decide)
    (hcd : (x == ("__classdict__" : Str)) = false := by decide) : PE X e (tLit i (some g) d) := pe_lit (fun _ pos => pv i hN hv hb hcd) n e d h
end
theorem hol0 {i : Nat} {σ : St} {H : Hp} : Hol i none σ H := fun _ h => nomatch h
theorem hol1 {i : Nat} {g : Dt} {σ : St} {H : Hp} {v : V} (h : σ[i]? = some (some v)) (k : IsW H g v) : Hol i (some g) σ H := fun _ e => by cases e; exact ⟨v, h, k⟩
def lsq (ds : List Dt) : Dt := .q true (ds.foldr .c .e)
def tpl (ds : List Dt) : Dt := .q false (ds.foldr .c .e)
theorem items_fold : ∀ ds : List Dt, (ds.foldr Dt.c Dt.e).items = ds
  | [] => rfl
  | d :: r => by show d :: (r.foldr Dt.c Dt.e).items = _; rw [items_fold r]
theorem IsW.lsq {H : Hp} {ds : List Dt} {v : V} (h : IsW H (lsq ds) v) : ∃ p vs, v = .ref p ∧ H p = some (.lst vs) ∧ Paired (IsW H) ds vs := by
  obtain ⟨p, vs, e, h1, h2⟩ := h
  have := atD_items h2
  rw [items_fold] at this
  exact ⟨p, vs, e, h1, this⟩
theorem pd_strs {H : Hp} : ∀ {ns : List Str} {vs : List V}, Paired (IsW H) (ns.map Dt.s) vs → vs = ns.map V.str
  | [], _, .nil => rfl
  | n :: r, _, .cons h t => by rw [pd_strs t, (h : _ = _)]; rfl
end L2
namespace Sen
open PySem L2
def okT : Dt → Bool
  | .s _ => true
  | .n _ => false
  | .q l d => !l && okT d
  | .e => true
  | .c h t => okT h && okT t
def toT : Dt → Tr
  | .s x => .s x
  | .n _ => .e
  | .q _ d => toT d
  | .e => .e
  | .c h t => .c (toT h) (toT t)
theorem atT_of {H : Hp} : ∀ {d : Dt}, okT d = true → (∀ v, (atD H d).1 v → (atT H (toT d)).1 v) ∧ (∀ vs, (atD H d).2 vs → (atT H (toT d)).2 vs)
  | .s x, _ => ⟨fun _ h => h, fun _ h => h⟩
  | .n x, e => nomatch e
  | .q true d, e => nomatch e
  | .q false d, e => by
    have ih := atT_of (H := H) (d := d) e
    refine ⟨fun v ⟨p, vs, e1, h1, h2⟩ => ?_, fun _ h => h.elim⟩
    cases d with
    | s x => exact h2.elim
    | n x => exact h2.elim
    | q l d => exact h2.elim
    | e => cases h2; exact ⟨p, e1, h1⟩
    | c a b => exact ⟨p, vs, e1, h1, ih.2 _ h2⟩
  | .e, _ => ⟨fun _ h => h.elim, fun _ h => h⟩
  | .c a b, e => by
    have e : (okT a && okT b) = true := e
    rw [Bool.and_eq_true] at e
    exact ⟨fun _ h => h.elim, fun _ ⟨x, xs, e2, h2, h3⟩ => ⟨x, xs, e2, (atT_of e.1).1 _ h2, (atT_of e.2).2 _ h3⟩⟩
theorem IsW.tree {H : Hp} {d : Dt} {v : V} (h : IsW H d v) (e : okT d = true) : IsT H (toT d) v := (atT_of e).1 v h
def trS : Sn → Tr
  | .c0 y => .c (.s (Sn.word (.c0 y))) .e
  | .mk x => .c (.s "mark") (.c (.s x) .e)
  | .nt s => .c (.s "not") (.c (trS s) .e)
  | .b2 o s t => .c (.s (w2 o)) (.c (trS s) (.c (trS t) .e))
  | .q1 o x s => .c (.s (if o then "some" else "each")) (.c (.s x) (.c (trS s) .e))
theorem trS_tup (s : Sn) : (trS s).tup = true := by cases s <;> rfl
theorem isS_of {H : Hp} : ∀ {s : Sn} {p : Addr}, IsT H (trS s) (.ref p) → IsS H s p
  | .c0 y, p, ⟨q, vs, e, h1, x, xs, e1, h2, h3⟩ => by
    cases e; cases h2; cases h3; subst e1
    exact h1
  | .mk x, p, ⟨q, vs, e, h1, _, xs, e1, h2, _, ys, e2, h3, h4⟩ => by
    cases e; cases h2; cases h3; cases h4; subst e2; subst e1
    exact h1
  | .nt s, p, ⟨q, vs, e, h1, _, xs, e1, h2, y, ys, e2, h3, h4⟩ => by
    cases e; cases h2; cases h4; subst e2; subst e1
    obtain ⟨r, rfl⟩ := IsT.tup h3 (trS_tup s)
    exact ⟨r, h1, isS_of h3⟩
  | .b2 o s t, p, ⟨q, vs, e, h1, _, xs, e1, h2, y, ys, e2, h3, z, zs, e3, h4, h5⟩ => by
    cases e; cases h2; cases h5; subst e3; subst e2; subst e1
    obtain ⟨r, rfl⟩ := IsT.tup h3 (trS_tup s)
    obtain ⟨r2, rfl⟩ := IsT.tup h4 (trS_tup t)
    exact ⟨r, r2, h1, isS_of h3, isS_of h4⟩
  | .q1 o x s, p, ⟨q, vs, e, h1, _, xs, e1, h2, y, ys, e2, h3, z, zs, e3, h4, h5⟩ => by
    cases e; cases h2; cases h3; cases h5; subst e3; subst e2; subst e1
    obtain ⟨r, rfl⟩ := IsT.tup h4 (trS_tup s)
    exact ⟨r, h1, isS_of h4⟩
end Sen
namespace Sen
open PySem L2
def ordsD (os : List (List Str)) : Dt := lsq (os.map fun o => lsq (o.map .s))
end Sen
namespace Sen
open PySem L2
theorem pd_getW {α β : Type} {R : α → β → Prop} : ∀ {xs : List α} {ys : List β} (j : Nat), Paired R xs ys → j < xs.length → ∃ x y, xs[j]? = some x ∧ ys[j]? = some y ∧ R x y
  | _, _, j, .nil, h => absurd h (Nat.not_lt_zero _)
  | x :: xs, y :: ys, 0, .cons a b, _ => ⟨x, y, rfl, rfl, a⟩
  | x :: xs, y :: ys, j + 1, .cons a b, h => pd_getW j b (Nat.lt_of_succ_lt_succ h)
theorem pick {α : Type} {R : α → V → Prop} {ds : List α} {vs : List V} (h : Paired R ds vs) {i : Int} (h0 : 0 ≤ i) (h1 : i < (ds.length : Nat)) : ∃ (v : V) (d : α) (j : Nat), atI vs i = some v ∧ ds[j]? = some d ∧ d ∈ ds ∧ R d v := by
  obtain ⟨d, v, h2, h3, h4⟩ := pd_getW i.toNat h (by omega)
  have e : ((i.toNat : Nat) : Int) = i := Int.toNat_of_nonneg h0
  refine ⟨v, d, i.toNat, ?_, h2, List.mem_of_getElem? h2, h4⟩
  rw [← e]
  exact atI_nat h3
theorem mod_in (c : Int) {m : Int} (h : 0 < m) : 0 ≤ c % m ∧ c % m < m := ⟨Int.emod_nonneg _ (by omega), Int.emod_lt_of_pos _ h⟩
theorem pd_mapW {α β γ : Type} {R : β → γ → Prop} {f : α → β} : ∀ {xs : List α} {ys : List γ}, Paired R (xs.map f) ys → Paired (fun a y => R (f a) y) xs ys
  | [], [], .nil => .nil
  | x :: xs, y :: ys, .cons a b => .cons a (pd_mapW b)
theorem pdW_mono {H H' : Hp} (g : Same H H') : ∀ {ds : List Dt} {vs : List V}, Paired (IsW H) ds vs → Paired (IsW H') ds vs
  | _, _, .nil => .nil
  | _, _, .cons a b => .cons (IsW.mono a g) (pdW_mono g b)
end Sen
namespace Sen
open PySem L2
theorem eq_nil {K : PySem.W.Frag} {H : Hp} {p q : Addr} {xs : List V} (h1 : SqL K H p xs) (h2 : SqL K H q []) : EqD K H 8 (.ref p) (.ref q) xs.isEmpty := by
  cases xs with
  | nil => exact EqD.ll (n := 7) (e := fun _ => true) h1 h2 rfl (fun j x y h => nomatch h)
  | cons x r => exact EqD.ln (n := 7) h1 h2 (fun z => nomatch z)
end Sen
namespace Sen
open PySem L2
def cn : Tr → Nat × Nat
  | .s _ => (0, 0)
  | .e => (1, 0)
  | .c h t => (1 + (cn t).2, (cn h).1 + (cn t).2)
def dp : Tr → Nat × Nat
  | .s _ => (0, 0)
  | .e => (1, 0)
  | .c h t => (1 + (dp t).2, max (dp h).1 (dp t).2)
def ctT (t : Tr) : Nat := (cn t).1
def dpT (t : Tr) : Nat := (dp t).1
def sumC (ts : List Tr) : Nat := (ts.map ctT).foldr (· + ·) 0
def maxD (ts : List Tr) : Nat := (ts.map dpT).foldr max 0
theorem sumC_cons (t : Tr) (ts : List Tr) : sumC (t :: ts) = ctT t + sumC ts := rfl
theorem maxD_cons (t : Tr) (ts : List Tr) : maxD (t :: ts) = max (dpT t) (maxD ts) := rfl
theorem sumC_app (ts us : List Tr) : sumC (ts ++ us) = sumC ts + sumC us := by
  induction ts with
  | nil => simp [sumC]
  | cons t r ih => rw [List.cons_append, sumC_cons, sumC_cons, ih]; omega
theorem maxD_app (ts us : List Tr) : maxD (ts ++ us) = max (maxD ts) (maxD us) := by
  induction ts with
  | nil => simp [maxD]
  | cons t r ih => rw [List.cons_append, maxD_cons, maxD_cons, ih]; omega
theorem cn_items : ∀ t : Tr, (cn t).2 = sumC t.items
  | .s _ => rfl
  | .e => rfl
  | .c h t => by show (cn h).1 + (cn t).2 = ctT h + sumC t.items; rw [cn_items t]; rfl
theorem dp_items : ∀ t : Tr, (dp t).2 = maxD t.items
  | .s _ => rfl
  | .e => rfl
  | .c h t => by show max (dp h).1 (dp t).2 = max (dpT h) (maxD t.items); rw [dp_items t]; rfl
theorem ctT_cons {t : Tr} {u : Tr} {r : List Tr} (h : t.items = u :: r) : ctT t = 1 + sumC r := by
  cases t with
  | s x => cases h
  | e => cases h
  | c a b =>
    have h : a :: b.items = u :: r := h
    cases h
    show 1 + (cn b).2 = _
    rw [cn_items]
theorem dpT_cons {t : Tr} {u : Tr} {r : List Tr} (h : t.items = u :: r) : dpT t = 1 + maxD r := by
  cases t with
  | s x => cases h
  | e => cases h
  | c a b =>
    have h : a :: b.items = u :: r := h
    cases h
    show 1 + (dp b).2 = _
    rw [dp_items]
def lm : Tr → Nat
  | .s x => ((lk x).map Prod.fst).getD 0
  | _ => 0
def gs : Tr → Bool × List Bool
  | .s _ => (false, [])
  | .e => (false, [])
  | .c h t => (shp (.c h t) && ((gs t).2.drop (lm h)).all id, (gs h).1 :: (gs t).2)
def gdT (t : Tr) : Bool := (gs t).1
theorem gs_items : ∀ t : Tr, (gs t).2 = t.items.map gdT
  | .s _ => rfl
  | .e => rfl
  | .c h t => by show (gs h).1 :: (gs t).2 = gdT h :: t.items.map gdT; rw [gs_items t]; rfl
theorem good_eq (t : Tr) : gdT t = (shp t && (pts t).all gdT) := by
  cases t with
  | s x => rfl
  | e => rfl
  | c h t =>
    show (shp (.c h t) && ((gs t).2.drop (lm h)).all id) = _
    rw [gs_items, ← List.map_drop, List.all_map]
    cases hs : shp (.c h t) with
    | false => rfl
    | true =>
      obtain ⟨x, m, n, r, e1, e2, e3, e4, e5, e6⟩ := shp_cut hs
      have e1 : h :: t.items = .s x :: r := e1
      cases e1
      rw [e6]
      have : lm (.s x) = m := by show ((lk x).map Prod.fst).getD 0 = m; rw [e2]; rfl
      rw [this]
      rfl
theorem mk_zero {t : Tr} (h : isMk t = true) : ctT t = 0 ∧ dpT t = 0 := by
  cases t with
  | s x => exact ⟨rfl, rfl⟩
  | e => cases h
  | c a b => cases h
theorem mks_zero : ∀ {ts : List Tr}, ts.all isMk = true → sumC ts = 0 ∧ maxD ts = 0
  | [], _ => ⟨rfl, rfl⟩
  | t :: r, h => by
    rw [List.all_cons, Bool.and_eq_true] at h
    obtain ⟨a, b⟩ := mk_zero h.1
    obtain ⟨c, d⟩ := mks_zero h.2
    rw [sumC_cons, maxD_cons, a, b, c, d]
    exact ⟨rfl, rfl⟩
theorem shp_meas {t : Tr} (h : shp t = true) : ctT t = 1 + sumC (pts t) ∧ dpT t = 1 + maxD (pts t) := by
  obtain ⟨x, m, n, r, e1, e2, e3, e4, e5, e6⟩ := shp_cut h
  rw [ctT_cons e1, dpT_cons e1, e6]
  obtain ⟨a, b⟩ := mks_zero e4
  have s := sumC_app (r.take m) (r.drop m)
  have d := maxD_app (r.take m) (r.drop m)
  rw [List.take_append_drop] at s d
  rw [s, d, a, b]
  exact ⟨by omega, by omega⟩
theorem sums_meas : ∀ {ts : List Tr}, ts.all shp = true → sumC ts = ts.length + sumC (ts.flatMap pts) ∧ (ts ≠ [] → maxD ts = 1 + maxD (ts.flatMap pts))
  | [], _ => ⟨rfl, fun h => absurd rfl h⟩
  | t :: r, h => by
    rw [List.all_cons, Bool.and_eq_true] at h
    obtain ⟨a, b⟩ := shp_meas h.1
    obtain ⟨c, d⟩ := sums_meas h.2
    rw [List.flatMap_cons, sumC_app, maxD_app, sumC_cons, maxD_cons, a, b, c, List.length_cons]
    refine ⟨by omega, fun _ => ?_⟩
    cases r with
    | nil => simp [maxD]
    | cons u r => rw [d (fun z => nomatch z)]; omega
theorem all_good {ts : List Tr} (h : ts.all shp = true) : ts.all gdT = (ts.flatMap pts).all gdT := by
  induction ts with
  | nil => rfl
  | cons t r ih =>
    rw [List.all_cons, Bool.and_eq_true] at h
    rw [List.all_cons, List.flatMap_cons, List.all_append, ih h.2, good_eq t, h.1, Bool.true_and]
theorem good_shp {ts : List Tr} (h : ts.all gdT = true) : ts.all shp = true := by
  rw [List.all_eq_true] at h ⊢
  intro t ht
  have := h t ht
  rw [good_eq, Bool.and_eq_true] at this
  exact this.1
theorem lev_eq : ∀ (f c : Nat) (ts : List Tr), c ≤ 200 → lev f c ts = (ts.all gdT && decide (c + sumC ts ≤ 200) && decide (maxD ts ≤ f))
  | 0, c, ts, hc => by
    cases ts with
    | nil =>
      show true = _
      have : c + sumC [] ≤ 200 := hc
      have h2 : maxD [] ≤ 0 := Nat.le_refl _
      rw [decide_eq_true this, decide_eq_true h2]; rfl
    | cons t r =>
      show false = _
      cases hg : (t :: r).all gdT with
      | false => rfl
      | true =>
        have hs := good_shp hg
        have := (sums_meas hs).2 (fun z => nomatch z)
        rw [decide_eq_false (show ¬ maxD (t :: r) ≤ 0 by omega), Bool.and_false]
  | f + 1, c, ts, hc => by
    cases ts with
    | nil =>
      show true = _
      have : c + sumC [] ≤ 200 := hc
      have h2 : maxD [] ≤ f + 1 := Nat.zero_le _
      rw [decide_eq_true this, decide_eq_true h2]; rfl
    | cons t r =>
      show (decide (c + (t :: r).length ≤ 200) && (t :: r).all shp && lev f (c + (t :: r).length) ((t :: r).flatMap pts)) = _
      generalize hts : t :: r = ts
      have hne : ts ≠ [] := by rw [← hts]; exact fun z => nomatch z
      cases hs : ts.all shp with
      | false =>
        rw [Bool.and_false, Bool.false_and]
        cases hg : ts.all gdT with
        | false => rfl
        | true => rw [good_shp hg] at hs; cases hs
      | true =>
        obtain ⟨a, b⟩ := sums_meas hs
        have b := b hne
        rw [Bool.and_true]
        by_cases hl : c + ts.length ≤ 200
        · rw [decide_eq_true hl, Bool.true_and, lev_eq f _ _ hl, ← all_good hs]
          have e1 : (c + ts.length + sumC (ts.flatMap pts) ≤ 200) = (c + sumC ts ≤ 200) := by rw [a]; exact propext ⟨fun h => by omega, fun h => by omega⟩
          have e2 : (maxD (ts.flatMap pts) ≤ f) = (maxD ts ≤ f + 1) := by rw [b]; exact propext ⟨fun h => by omega, fun h => by omega⟩
          simp only [e1, e2]
        · rw [decide_eq_false hl, Bool.false_and, decide_eq_false (show ¬ c + sumC ts ≤ 200 by omega), Bool.and_false, Bool.false_and]
theorem lev_top (t : Tr) : lev 24 0 [t] = (gdT t && decide (ctT t ≤ 200) && decide (dpT t ≤ 24)) := by
  rw [lev_eq 24 0 [t] (by decide)]
  have e1 : 0 + sumC [t] = ctT t := by show 0 + (ctT t + 0) = _; omega
  have e2 : maxD [t] = dpT t := by show max (dpT t) 0 = _; omega
  rw [e1, e2, List.all_cons, List.all_nil, Bool.and_true]
theorem lk_word {x : Str} {m n : Nat} (h : lk x = some (m, n)) : ((x = "yes" ∨ x = "no") ∧ m = 0 ∧ n = 0) ∨ (x = "mark" ∧ m = 1 ∧ n = 0) ∨ (x = "not" ∧ m = 0 ∧ n = 1) ∨ ((∃ o : Fin 4, x = w2 o) ∧ m = 0 ∧ n = 2) ∨ ((∃ o : Bool, x = (if o then ("some" : Str) else "each")) ∧ m = 1 ∧ n = 1) := by
  obtain ⟨h1, _, _⟩ := lk_some h
  have z : ∀ e ∈ tb_SHAPES, ((e.1 = "yes" ∨ e.1 = "no") ∧ e.2.1 = 0 ∧ e.2.2 = 0) ∨ (e.1 = "mark" ∧ e.2.1 = 1 ∧ e.2.2 = 0) ∨ (e.1 = "not" ∧ e.2.1 = 0 ∧ e.2.2 = 1) ∨ ((e.1 = "and" ∨ e.1 = "or" ∨ e.1 = "either" ∨ e.1 = "if") ∧ e.2.1 = 0 ∧ e.2.2 = 2) ∨ ((e.1 = "some" ∨ e.1 = "each") ∧ e.2.1 = 1 ∧ e.2.2 = 1) := by decide +kernel
  have z := z _ h1
  dsimp only at z
  rcases z with ⟨a, b, c⟩ | ⟨a, b, c⟩ | ⟨a, b, c⟩ | ⟨a, b, c⟩ | ⟨a, b, c⟩
  · exact .inl ⟨a, by omega, by omega⟩
  · exact .inr (.inl ⟨a, by omega, by omega⟩)
  · exact .inr (.inr (.inl ⟨a, by omega, by omega⟩))
  · refine .inr (.inr (.inr (.inl ⟨?_, by omega, by omega⟩)))
    rcases a with a | a | a | a
    · exact ⟨0, a⟩
    · exact ⟨1, a⟩
    · exact ⟨2, a⟩
    · exact ⟨3, a⟩
  · refine .inr (.inr (.inr (.inr ⟨?_, by omega, by omega⟩)))
    rcases a with a | a
    · exact ⟨true, a⟩
    · exact ⟨false, a⟩
theorem good_sen {H : Hp} : ∀ (n : Nat) (t : Tr) (p : Addr), dpT t ≤ n → gdT t = true → IsT H t (.ref p) → ∃ s : Sn, IsS H s p ∧ s.inO letts ∧ s.count = ctT t ∧ s.depth = dpT t
  | n, t, p, hd, hg, ht => by
    rw [good_eq, Bool.and_eq_true] at hg
    obtain ⟨hs, hg⟩ := hg
    obtain ⟨m1, m2⟩ := shp_meas hs
    match n, hd with
    | 0, hd => omega
    | n + 1, hd =>
    obtain ⟨x, m, k, r, e1, e2, e3, e4, e5, e6⟩ := shp_cut hs
    obtain ⟨vs, h1, h2⟩ := ht.cut
    rw [e1] at h2
    cases h2 with
    | cons hx hr =>
    rename_i ws
    rw [m1, m2]
    rw [m2] at hd
    have IH : ∀ u ∈ pts t, ∀ q, IsT H u (.ref q) → ∃ s : Sn, IsS H s q ∧ s.inO letts ∧ s.count = ctT u ∧ s.depth = dpT u := fun u hu q hq => by
      refine good_sen n u q ?_ (List.all_eq_true.mp hg u hu) hq
      have : ∀ {us : List Tr}, u ∈ us → dpT u ≤ maxD us := fun {us} h => by
        induction us with
        | nil => cases h
        | cons a b ih =>
          rw [maxD_cons]
          rcases List.mem_cons.mp h with rfl | h
          · omega
          · have := ih h; omega
      have := this hu
      omega
    rw [e6] at IH ⊢
    cases hx
    rcases lk_word e2 with ⟨a, rfl, rfl⟩ | ⟨rfl, rfl, rfl⟩ | ⟨rfl, rfl, rfl⟩ | ⟨⟨o, rfl⟩, rfl, rfl⟩ | ⟨⟨o, rfl⟩, rfl, rfl⟩
    · have : r = [] := List.eq_nil_of_length_eq_zero e3
      subst this
      cases hr
      rcases a with rfl | rfl
      · exact ⟨.c0 true, h1, trivial, rfl, rfl⟩
      · exact ⟨.c0 false, h1, trivial, rfl, rfl⟩
    · match r, e3 with
      | [u], _ =>
        cases hr with
        | cons hu hn =>
        cases hn
        have e4 : ([u] : List Tr).all isMk = true := e4
        cases u with
        | s y =>
          cases hu
          refine ⟨.mk y, h1, ?_, rfl, rfl⟩
          rw [List.all_cons, Bool.and_eq_true] at e4
          exact (show y ∈ letts from of_decide_eq_true e4.1)
        | e => cases e4
        | c a b => cases e4
    · match r, e3 with
      | [u], _ =>
        cases hr with
        | cons hu hn =>
        cases hn
        have e5 : ([u] : List Tr).all Tr.tup = true := e5
        rw [List.all_cons, Bool.and_eq_true] at e5
        obtain ⟨q, rfl⟩ := IsT.tup hu e5.1
        obtain ⟨s, s1, s2, s3, s4⟩ := IH u (by simp) q hu
        refine ⟨.nt s, ⟨q, h1, s1⟩, s2, ?_, ?_⟩
        · show 1 + s.count = 1 + (ctT u + 0); omega
        · show 1 + s.depth = 1 + max (dpT u) 0; omega
    · match r, e3 with
      | [u, v], _ =>
        cases hr with
        | cons hu hn =>
        cases hn with
        | cons hv hn =>
        cases hn
        have e5 : ([u, v] : List Tr).all Tr.tup = true := e5
        rw [List.all_cons, List.all_cons, Bool.and_eq_true, Bool.and_eq_true] at e5
        obtain ⟨q, rfl⟩ := IsT.tup hu e5.1
        obtain ⟨q2, rfl⟩ := IsT.tup hv e5.2.1
        obtain ⟨s, s1, s2, s3, s4⟩ := IH u (by simp) q hu
        obtain ⟨s', s1', s2', s3', s4'⟩ := IH v (by simp) q2 hv
        refine ⟨.b2 o s s', ⟨q, q2, h1, s1, s1'⟩, ⟨s2, s2'⟩, ?_, ?_⟩
        · show 1 + (s.count + s'.count) = 1 + (ctT u + (ctT v + 0)); omega
        · show 1 + max s.depth s'.depth = 1 + max (dpT u) (max (dpT v) 0); omega
    · match r, e3 with
      | [u, v], _ =>
        cases hr with
        | cons hu hn =>
        cases hn with
        | cons hv hn =>
        cases hn
        have e4 : ([u] : List Tr).all isMk = true := e4
        have e5 : ([v] : List Tr).all Tr.tup = true := e5
        rw [List.all_cons, Bool.and_eq_true] at e4 e5
        obtain ⟨q2, rfl⟩ := IsT.tup hv e5.1
        obtain ⟨s', s1', s2', s3', s4'⟩ := IH v (by simp) q2 hv
        cases u with
        | s y =>
          cases hu
          refine ⟨.q1 o y s', ⟨q2, h1, s1'⟩, ⟨(show y ∈ letts from of_decide_eq_true e4.1), s2'⟩, ?_, ?_⟩
          · show 1 + s'.count = 1 + (ctT v + 0); omega
          · show 1 + s'.depth = 1 + max (dpT v) 0; omega
        | e => cases e4.1
        | c a b => cases e4.1
theorem sen_tree {H : Hp} : ∀ {s : Sn} {p : Addr}, IsS H s p → IsT H (trS s) (.ref p)
  | .c0 y, p, h => ⟨p, _, rfl, h, _, _, rfl, rfl, rfl⟩
  | .mk x, p, h => ⟨p, _, rfl, h, _, _, rfl, rfl, _, _, rfl, rfl, rfl⟩
  | .nt s, p, ⟨q, h, k⟩ => ⟨p, _, rfl, h, _, _, rfl, rfl, _, _, rfl, sen_tree k, rfl⟩
  | .b2 o s t, p, ⟨q, r, h, k, l⟩ => ⟨p, _, rfl, h, _, _, rfl, rfl, _, _, rfl, sen_tree k, _, _, rfl, sen_tree l, rfl⟩
  | .q1 o x s, p, ⟨q, h, k⟩ => ⟨p, _, rfl, h, _, _, rfl, rfl, _, _, rfl, rfl, _, _, rfl, sen_tree k, rfl⟩
theorem trS_meas : ∀ s : Sn, ctT (trS s) = s.count ∧ dpT (trS s) = s.depth
  | .c0 y => ⟨rfl, rfl⟩
  | .mk x => ⟨rfl, rfl⟩
  | .nt s => by
    obtain ⟨a, b⟩ := trS_meas s
    refine ⟨?_, ?_⟩
    · show 1 + (ctT (trS s) + 0) = 1 + s.count; omega
    · show 1 + max (dpT (trS s)) 0 = 1 + s.depth; omega
  | .b2 o s t => by
    obtain ⟨a, b⟩ := trS_meas s
    obtain ⟨c, d⟩ := trS_meas t
    refine ⟨?_, ?_⟩
    · show 1 + (ctT (trS s) + (ctT (trS t) + 0)) = 1 + (s.count + t.count); omega
    · show 1 + max (dpT (trS s)) (max (dpT (trS t)) 0) = 1 + max s.depth t.depth; omega
  | .q1 o x s => by
    obtain ⟨a, b⟩ := trS_meas s
    refine ⟨?_, ?_⟩
    · show 1 + (0 + (ctT (trS s) + 0)) = 1 + s.count; omega
    · show 1 + max 0 (max (dpT (trS s)) 0) = 1 + s.depth; omega
end Sen
namespace L2
open PySem PySem.Spec PyProof.Rows
def CmpAtM (P : Program) (w : World) (A : Around) (G : Shared → Prop) (V : Nat → Value → Prop) (bt : Nat → Nat → Bool) : Prop :=
  ∀ i j vi vj (s : Shared) (Q : Value → Shared → Prop) (E : Value → Shared → Prop), V i vi → V j vj → G s → Q (.bool (bt i j)) s → wpAny (model P w) A (richCompare .Gt vi vj) Q E s
section
variable {prog : Program} {w : World} {A : Around} {R : Result → Shared → Prop} {I : Addr} {fp wr : List Addr} {n : Nat} {V : Nat → Value → Prop} {St : Nat → Heap → Prop} {G : Shared → Prop} {kw : List (Str × Value)}
theorem max_loopG (W : Walks prog w A.in1 I fp wr n V St) (bt : Nat → Nat → Bool) (S : Addr) (hcmp : CmpAtM prog w A.in1 G V bt) (hG : ∀ (s : Shared) (h' : Heap) (tk : Tok), (∀ b o, b ∉ wr → b ≠ S → s.heap.get? b = some o → h'.get? b = some o) → G s → G { s with heap := h', toks := tk }) (hSf : S ∉ fp) :
    ∀ (k j : Nat) (s : Shared) (vb : Value) (c : Nat), n - (j + 1) = k → j + 1 ≤ n → St (j + 1) s.heap → G s → V (argBest bt j) vb →
    s.heap.get? S = some { cls := .type "list", dict := none, data := .seq #[vb, vb] c, slots := #[] } →
    (∀ v h' tk, V (argBest bt (n - 1)) v → (∀ b o, b ∉ wr → b ≠ S → s.heap.get? b = some o → h'.get? b = some o) → R (.ok (.ret v)) { s with heap := h', toks := tk }) →
    codeAny (model prog w) A (.builtin "max.loop" ⟨[.ref I, .none, .ref S], kw⟩) R s := by
  have hSw : S ∉ wr := fun h => hSf (W.sub _ h)
  have hname : (toString "max" ++ toString ".loop" : String) = "max.loop" := by decide
  intro k
  induction k with
  | zero =>
    intro j s vb c hk hj hst hg hPb hS hR
    have hin : j + 1 = n := by omega
    refine codeAny_builtin F.entry_max_loop ?_
    rw [Around.under_plainId F.plain_max_loop _]
    show wpAny _ A.in1 (seqItems? (.ref S) >>= _) _ _ s
    refine wpAny_bind (wpAny_seqItems hS rfl ?_)
    show wpAny _ A.in1 (tryCatch (pyNext (.ref I)) _ >>= _) _ _ s
    refine wpAny_bind (wpAny_tryCatch (W.done s _ _ (hin ▸ hst) fun h' tk hk' => ?_))
    have hS' := hk' S _ hSw hS
    show wpAny _ A.in1 (updateSeq S (fun _ => #[]) >>= _) _ _ _
    refine wpAny_bind ?_
    refine wpAny_updateSeq hS' rfl (wpAny_bind (wpAny_letGo (wpAny_pure ?_)))
    refine hR vb _ tk (by rw [← hin]; exact hPb) fun b o hbw hbS e => (Heap.get?_update_other _ _ (Ne.symm hbS)).trans (hk' b o hbw e)
  | succ k ih =>
    intro j s vb c hk hj hst hg hPb hS hR
    have hlt : j + 1 < n := by omega
    refine codeAny_builtin F.entry_max_loop ?_
    rw [Around.under_plainId F.plain_max_loop _]
    show wpAny _ A.in1 (seqItems? (.ref S) >>= _) _ _ s
    refine wpAny_bind (wpAny_seqItems hS rfl ?_)
    show wpAny _ A.in1 (tryCatch (pyNext (.ref I)) _ >>= _) _ _ s
    refine wpAny_bind (wpAny_tryCatch (W.item (j + 1) s _ _ hlt hst fun v h' tk hP hst' hk' => ?_))
    have hS' := hk' S _ hSw hS
    have hg' : G { s with heap := h', toks := tk } := hG _ _ _ (fun b o hbw _ e => hk' b o hbw e) hg
    show wpAny _ A.in1 (tryCatch (holding [v, v] (richCompare .Gt v vb >>= _)) _ >>= _) _ _ _
    refine wpAny_bind (wpAny_tryCatch (wpAny_holding (wpAny_bind (hcmp (j + 1) (argBest bt j) v vb _ _ _ hP hPb hg' ?_))))
    refine wpAny_bind (wpAny_holding (wpAny_truthy_bool ?_))
    refine wpAny_bind (wpAny_letGo (wpAny_pure ?_))
    cases hb : bt (j + 1) (argBest bt j) with
    | true =>
      simp only [if_true]
      refine wpAny_bind ?_
      refine wpAny_updateSeq hS' rfl (wpAny_bind (wpAny_letGo ?_))
      rw [hname]
      refine wpAny_pure ⟨plainId_quiet F.plain_max_loop _, ih (j + 1) _ v _ (by omega) hlt (W.frame _ _ _ hst' fun b hbf o e => ?_) (hG _ _ _ (fun b o _ hbS e => (Heap.get?_update_other _ _ (Ne.symm hbS)).trans e) hg') (by simp only [argBest, hb, if_true]; exact hP) (Heap.get?_update_self _ hS' rfl)
        fun v' h'' tk'' hP' hk'' => ?_⟩
      · exact (Heap.get?_update_other _ _ (fun h : S = b => hSf (by rw [h]; exact hbf))).trans e
      · exact hR v' h'' tk'' hP' fun b o hbw hbS e => hk'' b o hbw hbS ((Heap.get?_update_other _ _ (Ne.symm hbS)).trans (hk' b o hbw e))
    | false =>
      simp only [Bool.false_eq_true, if_false]
      refine wpAny_bind (wpAny_letGo ?_)
      rw [hname]
      refine wpAny_pure ⟨plainId_quiet F.plain_max_loop _, ih (j + 1) _ vb c (by omega) hlt hst' hg' (by simp only [argBest, hb, Bool.false_eq_true, if_false]; exact hPb) hS' fun v' h'' tk'' hP' hk'' => ?_⟩
      exact hR v' h'' tk'' hP' fun b o hbw hbS e => hk'' b o hbw hbS (hk' b o hbw e)
theorem max_firstG (W : Walks prog w A.in1 I fp wr n V St) (bt : Nat → Nat → Bool) (S : Addr) (hcmp : CmpAtM prog w A.in1 G V bt) (hG : ∀ (s : Shared) (h' : Heap) (tk : Tok), (∀ b o, b ∉ wr → b ≠ S → s.heap.get? b = some o → h'.get? b = some o) → G s → G { s with heap := h', toks := tk }) (hSf : S ∉ fp) (hn : 0 < n) {s : Shared} {c : Nat} (hst : St 0 s.heap) (hg : G s)
    (hS : s.heap.get? S = some { cls := .type "list", dict := none, data := .seq #[] c, slots := #[] })
    (hR : ∀ v h' tk, V (argBest bt (n - 1)) v → (∀ b o, b ∉ wr → b ≠ S → s.heap.get? b = some o → h'.get? b = some o) → R (.ok (.ret v)) { s with heap := h', toks := tk }) :
    codeAny (model prog w) A (.builtin "max.loop" ⟨[.ref I, .none, .ref S], kw⟩) R s := by
  have hSw : S ∉ wr := fun h => hSf (W.sub _ h)
  have hname : (toString "max" ++ toString ".loop" : String) = "max.loop" := by decide
  refine codeAny_builtin F.entry_max_loop ?_
  rw [Around.under_plainId F.plain_max_loop _]
  show wpAny _ A.in1 (seqItems? (.ref S) >>= _) _ _ s
  refine wpAny_bind (wpAny_seqItems hS rfl ?_)
  show wpAny _ A.in1 (tryCatch (pyNext (.ref I)) _ >>= _) _ _ s
  refine wpAny_bind (wpAny_tryCatch (W.item 0 s _ _ hn hst fun v h' tk hP hst' hk' => ?_))
  have hS' := hk' S _ hSw hS
  have hg' : G { s with heap := h', toks := tk } := hG _ _ _ (fun b o hbw _ e => hk' b o hbw e) hg
  show wpAny _ A.in1 (updateSeq S (fun _ => #[v, v]) >>= _) _ _ _
  refine wpAny_bind ?_
  refine wpAny_updateSeq hS' rfl ?_
  rw [hname]
  refine wpAny_pure ⟨plainId_quiet F.plain_max_loop _, max_loopG W bt S hcmp hG hSf _ 0 _ v _ rfl hn (W.frame _ _ _ hst' fun b hbf o e => ?_) (hG _ _ _ (fun b o _ hbS e => (Heap.get?_update_other _ _ (Ne.symm hbS)).trans e) hg') hP (Heap.get?_update_self _ hS' rfl) fun v' h'' tk'' hP' hk'' => ?_⟩
  · exact (Heap.get?_update_other _ _ (fun h : S = b => hSf (by rw [h]; exact hbf))).trans e
  · exact hR v' h'' tk'' hP' fun b o hbw hbS e => hk'' b o hbw hbS ((Heap.get?_update_other _ _ (Ne.symm hbS)).trans (hk' b o hbw e))
theorem max_none (W : Walks prog w A.in1 I fp wr 0 V St) (S : Addr) (hSf : S ∉ fp) {s : Shared} {c : Nat} {d : Value} (hst : St 0 s.heap)
    (hS : s.heap.get? S = some { cls := .type "list", dict := none, data := .seq #[] c, slots := #[] })
    (hR : ∀ h' tk, (∀ b o, b ∉ wr → s.heap.get? b = some o → h'.get? b = some o) → R (.ok (.ret d)) { s with heap := h', toks := tk }) :
    codeAny (model prog w) A (.builtin "max.loop" ⟨[.ref I, .none, .ref S], [(Str.ofString "default", d)]⟩) R s := by
  refine codeAny_builtin F.entry_max_loop ?_
  rw [Around.under_plainId F.plain_max_loop _]
  show wpAny _ A.in1 (seqItems? (.ref S) >>= _) _ _ s
  refine wpAny_bind (wpAny_seqItems hS rfl ?_)
  show wpAny _ A.in1 (tryCatch (pyNext (.ref I)) _ >>= _) _ _ s
  refine wpAny_bind (wpAny_tryCatch (W.done s _ _ hst fun h' tk hk' => ?_))
  exact wpAny_bind (wpAny_rule (wpAny_pure (hR h' tk hk')))
end
theorem args_max_def (a v : Value) : argsOk "max" ⟨[a], [(Str.ofString "default", v)]⟩ := by unfold argsOk; kernel_rfl
section
variable {X : Cx} {pins : List (Addr × Obj)} {σ : St} {H : Hp} {s : Shared}
theorem max_list {p : Addr} {ns : List Int} {kw : List (Str × Value)} {Q : VK} {E : Value → Shared → Prop} (I : Inv X pins σ H s) (hc : X.calm = true) (hkw : kw = [] ∨ ∃ d, kw = [(Str.ofString "default", d)]) (hq : SqL X.K H p (ns.map V.int)) (h0 : 0 < ns.length)
    (q : ∀ M, M ∈ ns → (∀ a, a ∈ ns → a ≤ M) → Q (.int M) H) :
    wpAny (model X.prog X.w) X.A (call (.builtin "max") [.ref p] kw) (EP X pins σ Q) E s := by
  have hname : (toString "max" ++ toString ".loop" : String) = "max.loop" := by decide
  obtain ⟨its, r', pl, hz⟩ := I.list hq
  have hlen := r'.length
  rw [List.length_map] at hlen
  have hlt : p < s.heap.objs.size := by obtain ⟨_, e, _⟩ := pl.isList; exact Heap.lt_size e
  have ha : argsOk "max" ⟨[.ref p], kw⟩ := by
    rcases hkw with rfl | ⟨d, rfl⟩
    · exact F.args_max1 _
    · exact args_max_def _ _
  have hb : ∃ d, Builtin.Builtins.bindParams "max" ["key", "default"] 0 ⟨[], kw⟩ = pure [none, d] ∧ (d.toList.map fun d => (Str.ofString "default", d)) = kw := by
    rcases hkw with rfl | ⟨d, rfl⟩
    · exact ⟨none, rfl, rfl⟩
    · exact ⟨some d, rfl, rfl⟩
  obtain ⟨d, hb, ekw⟩ := hb
  refine kmk_tree F.kind_max F.plain_max F.entry_max ha ?_
  show wpAny _ X.A.in1 (Builtin.Builtins.bindParams "max" ["key", "default"] 0 ⟨[], kw⟩ >>= _) _ _ s
  refine wpAny_bind (wpAny_of_eq hb ?_)
  refine wpAny_bind (wpAny_pure ?_)
  refine wpAny_bind (wpAny_pyIter_list pl.isList ?_)
  refine wpAny_bind (wpAny_newObj_type ?_)
  rw [hname]
  refine wpAny_pure ⟨plainId_quiet F.plain_max_loop _, ?_⟩
  show codeAny _ _ (.builtin "max.loop" ⟨[.ref s.heap.objs.size, .none, .ref _], d.toList.map fun d => (Str.ofString "default", d)⟩) _ _
  rw [ekw]
  have szI : (s.heap.push { cls := .type "list_iterator", data := .fields #[.ref p, .int 0 0] }).objs.size = s.heap.objs.size + 1 := Heap.size_push _ _
  have back : ∀ (i : Nat) (v : Value), its.toArray[i]? = some v → ∃ x, (ns.map V.int)[i]? = some x ∧ RelV x v := fun i v e => by
    obtain ⟨hi, e'⟩ := Array.getElem?_eq_some_iff.mp e
    obtain ⟨x, hx, rx⟩ := item_at r' hi
    rw [e'] at rx
    exact ⟨x, hx, rx⟩
  have kpS : ∀ b o, s.heap.get? b = some o → b ≠ s.heap.objs.size ∧ b ≠ s.heap.objs.size + 1 := fun b o e => by
    have := Heap.lt_size e
    exact ⟨fun z => by rw [z] at this; exact Nat.lt_irrefl _ this, fun z => by rw [z] at this; exact Nat.lt_irrefl _ (Nat.lt_of_succ_lt this)⟩
  refine max_firstG (G := fun s' => ∃ h tk, s' = { s with heap := h, toks := tk } ∧ ∀ b o, s.heap.get? b = some o → h.get? b = some o) (Walks.list (A := X.A.in1) (I.ok.hd hc) s.heap.objs.size p (Nat.ne_of_lt hlt) its.toArray) (fun i j => decide (ns.getD i 0 > ns.getD j 0)) _ ?_ ?_ ?_ ?_ ⟨?_, ?_⟩ ?_ (Heap.get?_push_size _ rfl) ?_
  · rintro i j vi vj s' Q' E' hi hj _ hQ
    refine CmpOf.ints_gt (P := fun i v => its.toArray[i]? = some v) (fun i => ns.getD i 0) (fun i v e => ?_) i j vi vj s' Q' E' hi hj hQ
    obtain ⟨x, hx, rx⟩ := back i v e
    rw [List.getElem?_map, Option.map_eq_some_iff] at hx
    obtain ⟨n, hn, rfl⟩ := hx
    obtain ⟨t, rfl⟩ := rx
    exact ⟨t, by rw [List.getD_eq_getElem?_getD, hn]; rfl⟩
  · rintro s' h' tk hk ⟨h, tk2, rfl, kp⟩
    refine ⟨h', tk, rfl, fun b o e => hk b o ?_ ?_ (kp b o e)⟩
    · rw [List.mem_singleton]; exact (kpS b o e).1
    · intro z
      rw [z] at e
      have := Heap.lt_size e
      rw [szI] at this
      exact Nat.lt_irrefl _ (Nat.lt_of_succ_lt this)
  · intro hm
    have z : (s.heap.push { cls := .type "list_iterator", data := .fields #[.ref p, .int 0 0] }).objs.size = s.heap.objs.size ∨ (s.heap.push { cls := .type "list_iterator", data := .fields #[.ref p, .int 0 0] }).objs.size = p := by simpa using hm
    rw [szI] at z
    rcases z with z | z
    · exact absurd z (Nat.succ_ne_self _)
    · rw [← z] at hlt; exact Nat.lt_irrefl _ (Nat.lt_of_succ_lt hlt)
  · rw [List.size_toArray]; omega
  · exact ⟨_, Heap.get?_push_of_some _ (Heap.get?_push_size _ rfl), rfl, rfl⟩
  · exact (pl.isList.push _).push _
  · exact ⟨_, _, rfl, fun b o e => Heap.get?_push_of_some _ (Heap.get?_push_of_some _ e)⟩
  · intro v h' tk hP hk
    obtain ⟨x, hx, rx⟩ := back _ v hP
    have kp : ∀ b o, s.heap.get? b = some o → h'.get? b = some o := fun b o e => hk b o (by rw [List.mem_singleton]; exact (kpS b o e).1) (fun z => by
      rw [z] at e
      have := Heap.lt_size e
      rw [szI] at this
      exact Nat.lt_irrefl _ (Nat.lt_of_succ_lt this)) (Heap.get?_push_of_some _ (Heap.get?_push_of_some _ e))
    rw [List.size_toArray, ← hlen] at hx
    obtain ⟨h1, h2⟩ := argBest_gt (fun i => ns.getD i 0) (ns.length - 1)
    generalize argBest (fun i j => decide (ns.getD i 0 > ns.getD j 0)) (ns.length - 1) = m at hx h1 h2
    rw [List.getElem?_map, Option.map_eq_some_iff] at hx
    obtain ⟨n, hn, rfl⟩ := hx
    refine ⟨.int n, H, I.kept kp, rx, q n (List.mem_of_getElem? hn) fun a ha => ?_⟩
    obtain ⟨j, hj⟩ := List.getElem?_of_mem ha
    have hjl : j < ns.length := (List.getElem?_eq_some_iff.mp hj).1
    have := h2 j (by omega)
    rw [List.getD_eq_getElem?_getD, List.getD_eq_getElem?_getD, hn, hj] at this
    exact this
theorem max_empty {p : Addr} {d : Value} {dv : V} {Q : VK} {E : Value → Shared → Prop} (I : Inv X pins σ H s) (hc : X.calm = true) (hq : SqL X.K H p []) (rd : RelV dv d) (q : Q dv H) :
    wpAny (model X.prog X.w) X.A (call (.builtin "max") [.ref p] [(Str.ofString "default", d)]) (EP X pins σ Q) E s := by
  have hname : (toString "max" ++ toString ".loop" : String) = "max.loop" := by decide
  obtain ⟨its, r', pl, hz⟩ := I.list hq
  have hits : its = [] := List.length_eq_zero_iff.mp r'.length.symm
  subst hits
  have hlt : p < s.heap.objs.size := by obtain ⟨_, e, _⟩ := pl.isList; exact Heap.lt_size e
  refine kmk_tree F.kind_max F.plain_max F.entry_max (args_max_def _ _) ?_
  show wpAny _ X.A.in1 (Builtin.Builtins.bindParams "max" ["key", "default"] 0 ⟨[], [(Str.ofString "default", d)]⟩ >>= _) _ _ s
  refine wpAny_bind (wpAny_of_eq (show Builtin.Builtins.bindParams "max" ["key", "default"] 0 ⟨[], [(Str.ofString "default", d)]⟩ = pure [none, some d] from rfl) ?_)
  refine wpAny_bind (wpAny_pure ?_)
  refine wpAny_bind (wpAny_pyIter_list pl.isList ?_)
  refine wpAny_bind (wpAny_newObj_type ?_)
  rw [hname]
  refine wpAny_pure ⟨plainId_quiet F.plain_max_loop _, ?_⟩
  have szI : (s.heap.push { cls := .type "list_iterator", data := .fields #[.ref p, .int 0 0] }).objs.size = s.heap.objs.size + 1 := Heap.size_push _ _
  refine max_none (Walks.list (A := X.A.in1) (I.ok.hd hc) s.heap.objs.size p (Nat.ne_of_lt hlt) ([] : List Value).toArray) _ ?_ ⟨?_, ?_⟩ (Heap.get?_push_size _ rfl) ?_
  · intro hm
    have z : (s.heap.push { cls := .type "list_iterator", data := .fields #[.ref p, .int 0 0] }).objs.size = s.heap.objs.size ∨ (s.heap.push { cls := .type "list_iterator", data := .fields #[.ref p, .int 0 0] }).objs.size = p := by simpa using hm
    rw [szI] at z
    rcases z with z | z
    · exact absurd z (Nat.succ_ne_self _)
    · rw [← z] at hlt; exact Nat.lt_irrefl _ (Nat.lt_of_succ_lt hlt)
  · exact ⟨_, Heap.get?_push_of_some _ (Heap.get?_push_size _ rfl), rfl, rfl⟩
  · exact (pl.isList.push _).push _
  · intro h' tk hk
    have kp : ∀ b o, s.heap.get? b = some o → h'.get? b = some o := fun b o e => hk b o (fun hm => by
      rw [List.mem_singleton.mp hm] at e
      exact Nat.lt_irrefl _ (Heap.lt_size e)) (Heap.get?_push_of_some _ (Heap.get?_push_of_some _ e))
    exact ⟨dv, H, I.kept kp, rd, q⟩
end
def tMaxDef (K : PySem.W.Frag) (t : TA) (td : TE) : TE := fun σ H Q => t σ H fun xs H1 => tCons td tNil σ H1 fun zs H2 => ∃ (p : Addr) (ns : List Int) (dv : V), xs = [.ref p] ∧ zs = [dv] ∧ SqL K H2 p (ns.map V.int) ∧
  ((ns = [] ∧ Q dv H2) ∨ (0 < ns.length ∧ ∀ M, M ∈ ns → (∀ a, a ∈ ns → a ≤ M) → Q (.int M) H2))
section
variable {X : Cx} {x : Str} {p pos kpos : Pos} {e d : Expr} {t : TA} {td : TE}
theorem pe_maxDef {K : PySem.W.Frag} (hK : X.K = K) (hc : X.calm = true) (hg : Gl X x) (hm : X.mg x = none) (hv : bootBuiltins x = some (.builtin "max")) (ha : PA X [e] t) (hd : PE X d td) (hn : x ≠ "__name__" := by decide) (hdb : (x == ("__debug__" : Str)) = false := by decide)
    (he : backTo pos (starEach [e] X.env) = (false, eval e X.env) :: backTo pos (starEach [] X.env) := by rfl) (hpl : (backTo pos (starEach [e] X.env)).any (·.1) = false := by rfl)
    (hks : (backToKw pos (keywordEach [⟨some "default", d, kpos⟩] X.env)).filterMap (·.1) = [Str.ofString "default"] := by rfl) :
    PE X (.Call (.Name x p) [e] [⟨some "default", d, kpos⟩] pos) (tMaxDef K t td) := by
  subst hK
  intro pins s σ H Q I h
  refine wpAny_Call_Name_kw (ld_blt I hg hm hv ?_ hn hdb)
  refine callWith_kw (thn (ha pos pins s σ H _ I h) fun us s1 ⟨vs, H1, I1, r1, q1⟩ => ?_) he hpl
  refine thn ((pk_cons (nm := some "default") (kpos := kpos) hd pk_nil) pos pins s1 σ H1 _ I1 q1) fun ws s2 ⟨zs, H2, I2, rz, q2⟩ => ?_
  rw [hks]
  obtain ⟨pp, ns, dv, rfl, rfl, hq, hh⟩ := q2
  obtain ⟨u, rfl, rx⟩ := vals1 r1
  cases rx
  obtain ⟨z, rfl, rz'⟩ := vals1 rz
  rcases hh with ⟨rfl, qd⟩ | ⟨h0, q⟩
  · exact max_empty I2 hc hq rz' qd
  · exact max_list I2 hc (.inr ⟨z, rfl⟩) hq h0 q
end
end L2
namespace Sen
open PySem L2
def dS : Sn → Dt
  | .c0 y => tpl [.s (Sn.word (.c0 y))]
  | .mk x => tpl [.s "mark", .s x]
  | .nt s => tpl [.s "not", dS s]
  | .b2 o s t => tpl [.s (w2 o), dS s, dS t]
  | .q1 o x s => tpl [.s (if o then "some" else "each"), .s x, dS s]
theorem dS_ok : ∀ s : Sn, okT (dS s) = true ∧ toT (dS s) = trS s
  | .c0 y => ⟨rfl, rfl⟩
  | .mk x => ⟨rfl, rfl⟩
  | .nt s => by
    obtain ⟨a, b⟩ := dS_ok s
    refine ⟨?_, ?_⟩
    · show (!false && (true && (okT (dS s) && true))) = true; rw [a]; rfl
    · show Tr.c (.s "not") (.c (toT (dS s)) .e) = _; rw [b]; rfl
  | .b2 o s t => by
    obtain ⟨a, b⟩ := dS_ok s
    obtain ⟨c, d⟩ := dS_ok t
    refine ⟨?_, ?_⟩
    · show (!false && (true && (okT (dS s) && (okT (dS t) && true)))) = true; rw [a, c]; rfl
    · show Tr.c (.s (w2 o)) (.c (toT (dS s)) (.c (toT (dS t)) .e)) = _; rw [b, d]; rfl
  | .q1 o x s => by
    obtain ⟨a, b⟩ := dS_ok s
    refine ⟨?_, ?_⟩
    · show (!false && (true && (true && (okT (dS s) && true)))) = true; rw [a]; rfl
    · show Tr.c (.s _) (.c (.s x) (.c (toT (dS s)) .e)) = _; rw [b]; rfl
theorem dS_is {H : Hp} : ∀ {s : Sn} {p : Addr}, IsS H s p → IsW H (dS s) (.ref p)
  | .c0 y, p, h => ⟨p, _, rfl, h, _, _, rfl, rfl, rfl⟩
  | .mk x, p, h => ⟨p, _, rfl, h, _, _, rfl, rfl, _, _, rfl, rfl, rfl⟩
  | .nt s, p, ⟨q, h, k⟩ => ⟨p, _, rfl, h, _, _, rfl, rfl, _, _, rfl, dS_is k, rfl⟩
  | .b2 o s t, p, ⟨q, r, h, k, l⟩ => ⟨p, _, rfl, h, _, _, rfl, rfl, _, _, rfl, dS_is k, _, _, rfl, dS_is l, rfl⟩
  | .q1 o x s, p, ⟨q, h, k⟩ => ⟨p, _, rfl, h, _, _, rfl, rfl, _, _, rfl, rfl, _, _, rfl, dS_is k, rfl⟩
def od1 (g : Dt) : List Dt := [tpl [], tpl [.s "yes", .s "yes"], tpl [.s "no", tpl [.s "no"]], tpl [.s "mark"], tpl [.s "mark", .s "i"], tpl [.s "mark", .s "ab"], tpl [.s "mark", g], tpl [.s "not"]]
def od2 (g : Dt) : List Dt := [tpl [.s "not", .s "a"], tpl [.s "and", g], tpl [.s "or", g, g, g], tpl [.s "some", g], tpl [.s "some", .s "a"]]
def od3 (g : Dt) : List Dt := [tpl [.s "each", .s "i", g]]
def od4 (g : Dt) : List Dt := [tpl [.s "some", tpl [.s "mark", .s "a"], g], tpl [.s "if", g, .s "b"], tpl [.s "Yes"], tpl [g], tpl [.s "each", .s "h", g], tpl [.s "mark", .s ""]]
theorem od_ok {g : Dt} {n : Nat} (hg : okT g = true) (h1 : dpT (toT g) ≤ n) (h2 : 1 ≤ n) : ∀ d ∈ od1 g ++ od2 g ++ od3 g ++ od4 g, okT d = true ∧ (toT d).tup = true ∧ dpT (toT d) ≤ n + 2 := by
  intro d hd
  have one : ∀ (ds : List Dt), (ds.all okT) = true → okT (tpl ds) = true ∧ (toT (tpl ds)).tup = true := fun ds h => by
    refine ⟨?_, ?_⟩
    · show (!false && okT (ds.foldr Dt.c Dt.e)) = true
      have : ∀ ds : List Dt, (ds.all okT) = true → okT (ds.foldr Dt.c Dt.e) = true := fun ds => by
        induction ds with
        | nil => exact fun _ => rfl
        | cons a r ih =>
          intro h
          rw [List.all_cons, Bool.and_eq_true] at h
          show (okT a && okT (r.foldr Dt.c Dt.e)) = true
          rw [h.1, ih h.2]; rfl
      rw [this ds h]; rfl
    · cases ds <;> rfl
  have dpl : ∀ (ds : List Dt) (m : Nat), (∀ d ∈ ds, dpT (toT d) ≤ m) → dpT (toT (tpl ds)) ≤ m + 1 := fun ds m h => by
    cases ds with
    | nil => exact Nat.le_add_left 1 m
    | cons a r =>
      have : ∀ ds : List Dt, (∀ d ∈ ds, dpT (toT d) ≤ m) → (dp (toT (ds.foldr Dt.c Dt.e))).2 ≤ m := fun ds => by
        induction ds with
        | nil => exact fun _ => Nat.zero_le _
        | cons a r ih =>
          intro h
          show max (dpT (toT a)) (dp (toT (r.foldr Dt.c Dt.e))).2 ≤ m
          have h1 := h a (by simp)
          have h2 := ih fun d hd => h d (List.mem_cons_of_mem _ hd)
          omega
      have := this r fun d hd => h d (List.mem_cons_of_mem _ hd)
      show 1 + (dp (toT (r.foldr Dt.c Dt.e))).2 ≤ m + 1
      omega
  have z : ∀ x : Str, dpT (toT (.s x)) ≤ n + 1 := fun _ => Nat.zero_le _
  have zg : dpT (toT g) ≤ n + 1 := by omega
  have zn : dpT (toT (tpl [.s "no"])) ≤ n + 1 := by show 1 ≤ n + 1; omega
  have zm : dpT (toT (tpl [.s "mark", .s "a"])) ≤ n + 1 := by show 1 ≤ n + 1; omega
  have ks : ∀ x : Str, okT (.s x) = true := fun _ => rfl
  have kn : okT (tpl [.s "no"]) = true := rfl
  have km : okT (tpl [.s "mark", .s "a"]) = true := rfl
  have key : ∀ ds : List Dt, ds.all okT = true → (∀ d ∈ ds, dpT (toT d) ≤ n + 1) → okT (tpl ds) = true ∧ (toT (tpl ds)).tup = true ∧ dpT (toT (tpl ds)) ≤ n + 2 := fun ds h1 h2 => ⟨(one ds h1).1, (one ds h1).2, dpl ds (n + 1) h2⟩
  simp only [od1, od2, od3, od4, List.mem_append, List.mem_cons, List.not_mem_nil, or_false] at hd
  rcases hd with (((h | h | h | h | h | h | h | h) | (h | h | h | h | h)) | h) | (h | h | h | h | h | h) <;> subst h <;> refine key _ ?_ ?_
  all_goals first
    | (simp only [List.all_cons, List.all_nil, ks, kn, km, hg, Bool.and_self]; done)
    | (intro d hd; simp only [List.mem_cons, List.not_mem_nil, or_false] at hd <;> first | (rcases hd with rfl | rfl | rfl | rfl <;> first | exact z _ | exact zg | exact zn | exact zm) | (rcases hd with rfl | rfl | rfl <;> first | exact z _ | exact zg | exact zn | exact zm) | (rcases hd with rfl | rfl <;> first | exact z _ | exact zg | exact zn | exact zm) | (subst hd; first | exact z _ | exact zg) | exact hd.elim)
inductive spGoodT (d : Nat) (vs : List V) (H : Hp) (Q : VK) (E9 : XK) : Prop
  | mk (p : Addr) (t : Tr) (_ : vs = [.ref p]) (_ : IsT H t (.ref p)) (_ : dpT t ≤ d) (_ : ∀ H', Same H H' → Q (.bl (gdT t)) H') : spGoodT d vs H Q E9
theorem mono_goodT (d : Nat) : SpMono (spGoodT d) := fun vs H Q Q' E h ⟨p, t, e, h1, h2, q⟩ => ⟨p, t, e, h1, h2, fun H' g => h _ _ (q H' g)⟩
theorem lk_yes : lk "yes" = some (0, 0) := by decide +kernel
theorem lk_no : lk "no" = some (0, 0) := by decide +kernel
theorem lk_mark : lk "mark" = some (1, 0) := by decide +kernel
theorem lk_some1 : lk "some" = some (1, 1) := by decide +kernel
theorem lk_each : lk "each" = some (1, 1) := by decide +kernel
theorem lk_not : lk "not" = some (0, 1) := by decide +kernel
theorem lk_two : ∀ x ∈ (["and", "or", "either", "if"] : List Str), lk x = some (0, 2) := by decide +kernel
theorem gd_lk {t : Tr} {x : Str} {r : List Tr} {m n : Nat} (e : t.items = .s x :: r) (l : lk x = some (m, n)) : gdT t = (decide (r.length = m + n) && (r.take m).all isMk && (r.drop m).all Tr.tup && (r.drop m).all gdT) := by
  rw [good_eq]
  have e1 : shp t = (decide (r.length = m + n) && (r.take m).all isMk && (r.drop m).all Tr.tup) := by
    unfold shp; rw [e]; show (match lk x with | some (m, n) => _ | none => false) = _; rw [l]
  have e2 : pts t = r.drop m := by
    unfold pts; rw [e]; show (match lk x with | some (m, _) => _ | none => []) = _; rw [l]
  rw [e1, e2]
theorem gd_none {t : Tr} {x : Str} {r : List Tr} (e : t.items = .s x :: r) (l : lk x = none) : gdT t = false := by
  rw [good_eq]
  have e1 : shp t = false := by
    unfold shp; rw [e]; show (match lk x with | some (m, n) => _ | none => false) = _; rw [l]
  rw [e1]; rfl
theorem gd_nil {t : Tr} (e : t.items = []) : gdT t = false := by
  rw [good_eq]
  have e1 : shp t = false := by unfold shp; rw [e]
  rw [e1]; rfl
theorem gd_tup {t u : Tr} {r : List Tr} (e : t.items = u :: r) (h : u.tup = true) : gdT t = false := by
  rw [good_eq]
  have e1 : shp t = false := by
    unfold shp; rw [e]
    cases u with
    | s x => cases h
    | e => rfl
    | c a b => rfl
  rw [e1]; rfl
theorem lk_else {x : Str} (h1 : ¬ (x = "yes" ∨ x = "no")) (h2 : x ≠ "mark") (h3 : ¬ (x = "some" ∨ x = "each")) (h4 : x ∉ (["not", "and", "or", "either", "if"] : List Str)) : lk x = none := by
  cases h : lk x with
  | none => rfl
  | some mn =>
    obtain ⟨m, n⟩ := mn
    simp only [List.mem_cons, List.not_mem_nil, or_false, not_or] at h4
    rcases lk_word h with ⟨a, _, _⟩ | ⟨a, _, _⟩ | ⟨a, _, _⟩ | ⟨⟨o, a⟩, _, _⟩ | ⟨⟨o, a⟩, _, _⟩
    · exact absurd a h1
    · exact absurd a h2
    · exact absurd a h4.1
    · match o, a with
      | 0, a => exact absurd a h4.2.1
      | 1, a => exact absurd a h4.2.2.1
      | 2, a => exact absurd a h4.2.2.2.1
      | 3, a => exact absurd a h4.2.2.2.2
    · cases o with
      | true => exact absurd (.inl a) h3
      | false => exact absurd (.inr a) h3
theorem pos_dp {t : Tr} (h : t.tup = true) : 1 ≤ dpT t := by
  cases t with
  | s x => cases h
  | e => exact Nat.le_refl _
  | c a b => exact Nat.le_add_right _ _
theorem dp_in {u : Tr} {us : List Tr} (h : u ∈ us) : dpT u ≤ maxD us := by
  induction us with
  | nil => cases h
  | cons a b ih =>
    rw [maxD_cons]
    rcases List.mem_cons.mp h with rfl | h
    · omega
    · have := ih h; omega
theorem inL {K : PySem.W.Frag} {H : Hp} {ll : Addr} {v : V} {u : Tr} (h : IsT H u v) (hl : H ll = some (.lst (letts.map V.str))) {Q : VK} (q : Q (.bl (isMk u)) H) : rInD K false v (.ref ll) H Q := by
  cases e : u.tup with
  | false =>
    obtain ⟨x, rfl, rfl⟩ := h.str e
    refine ⟨ll, letts.map V.str, fun z => eqV z (.str x), rfl, .inl (SqL.of hl), fun z hz => .flat (List.all_eq_true.mp (flat_strs _) z hz) rfl, ?_⟩
    show Q (.bl (inV (.str x) (letts.map V.str))) H
    rw [inV_strs]
    exact q
  | true =>
    obtain ⟨p, rfl⟩ := h.tup e
    obtain ⟨vs, hp, _⟩ := h.cut
    refine ⟨ll, letts.map V.str, fun _ => false, rfl, .inl (SqL.of hl), fun z hz => .ft (SqT.of hp) (List.all_eq_true.mp (flat_strs _) z hz), ?_⟩
    show Q (.bl ((letts.map V.str).any fun _ => false)) H
    rw [not_mark]
    rw [h.mk] at q
    exact q
theorem all_two (r : List Tr) : (r.all Tr.tup && r.all gdT) = (r.map fun u => u.tup && gdT u).all id := by
  induction r with
  | nil => rfl
  | cons a b ih =>
    rw [List.map_cons, List.all_cons, List.all_cons, List.all_cons, ← ih]
    show (a.tup && b.all Tr.tup && (gdT a && b.all gdT)) = ((a.tup && gdT a) && (b.all Tr.tup && b.all gdT))
    cases a.tup <;> cases b.all Tr.tup <;> cases gdT a <;> cases b.all gdT <;> rfl
inductive spDeep (d : Nat) (vs : List V) (H : Hp) (Q : VK) (E9 : XK) : Prop
  | mk (p : Addr) (s : Sn) (_ : vs = [.ref p]) (_ : IsS H s p) (_ : s.depth ≤ d) (_ : ∀ H', Same H H' → Q (.int ((s.depth : Nat) : Int)) H') : spDeep d vs H Q E9
theorem mono_deep (d : Nat) : SpMono (spDeep d) := fun vs H Q Q' E h ⟨p, s, e, h1, h2, q⟩ => ⟨p, s, e, h1, h2, fun H' g => h _ _ (q H' g)⟩
theorem deep_none {s : Sn} (h : s.parts = []) : s.depth = 1 := by
  cases s with
  | c0 y => rfl
  | mk x => rfl
  | nt s => cases h
  | b2 o s t => cases h
  | q1 o x s => cases h
theorem deep_max {s : Sn} {M : Int} (h : M ∈ s.parts.map fun t => ((t.depth : Nat) : Int)) (hm : ∀ a, a ∈ (s.parts.map fun t => ((t.depth : Nat) : Int)) → a ≤ M) : 1 + M = ((s.depth : Nat) : Int) := by
  cases s with
  | c0 y => cases h
  | mk x => cases h
  | nt s =>
    have h : M ∈ [((s.depth : Nat) : Int)] := h
    rw [List.mem_singleton.mp h]
    show (1 : Int) + _ = ((1 + s.depth : Nat) : Int)
    omega
  | q1 o x s =>
    have h : M ∈ [((s.depth : Nat) : Int)] := h
    rw [List.mem_singleton.mp h]
    show (1 : Int) + _ = ((1 + s.depth : Nat) : Int)
    omega
  | b2 o s t =>
    have h : M ∈ [((s.depth : Nat) : Int), ((t.depth : Nat) : Int)] := h
    have h1 := hm ((s.depth : Nat) : Int) (by show _ ∈ [((s.depth : Nat) : Int), ((t.depth : Nat) : Int)]; simp)
    have h2 := hm ((t.depth : Nat) : Int) (by show _ ∈ [((s.depth : Nat) : Int), ((t.depth : Nat) : Int)]; simp)
    show (1 : Int) + _ = ((1 + max s.depth t.depth : Nat) : Int)
    simp only [List.mem_cons, List.not_mem_nil, or_false] at h
    omega
def oddO : List (List Str) := [[], ["b", "b"], ["h"], ["a", "b", "c", "d", "e", "f", "g", "h", "a"]]
theorem oddO_len : ∀ o ∈ oddO, o.length ≤ 9 := by decide
inductive spOrderRight (vs : List V) (H : Hp) (Q : VK) (E9 : XK) : Prop
  | mk (c : Int) (_ : vs = [.int c]) (_ : ∀ H', Same H H' → Q (.bl true) H') : spOrderRight vs H Q E9
inductive spOrderF (vs : List V) (H : Hp) (Q : VK) (E9 : XK) : Prop
  | mk (c : Int) (n : Nat) (_ : vs = [.int c, .int n]) (_ : 0 < n) (_ : n ≤ 8) (_ : ∀ (l : Addr) (H' : Hp) (os : List Str), Same H H' → H l = none → H' l = some (.lst (os.map V.str)) → IsOrd os → os.length ≤ n → Q (.ref l) H') : spOrderF vs H Q E9
def insO : List Str := ["a", "i", "", "A", "ab", "h"]
theorem eqStrs8 {K : PySem.W.Frag} {H : Hp} {p q : Addr} {xs : List Str} (h1 : SqL K H p (xs.map V.str)) (h2 : SqL K H q (xs.map V.str)) : EqD K H 8 (.ref p) (.ref q) true := by
  have z := EqD.ll (n := 7) (e := fun _ => true) h1 h2 rfl (fun j x y hx hy => by
    rw [hx] at hy
    cases hy
    rw [List.getElem?_map, Option.map_eq_some_iff] at hx
    obtain ⟨a, _, rfl⟩ := hx
    have := EqD.flat (K := K) (H := H) (n := 7) (x := .str a) (y := .str a) rfl rfl
    rw [eqV_refl rfl] at this
    exact this)
  have e : (List.range (xs.map V.str).length).all (fun _ => true) = true := by
    rw [List.all_eq_true]; exact fun _ _ => rfl
  rw [e] at z
  exact z
def due1 (os : List Str) : Bool := decide (0 < os.length) && decide os.Nodup
theorem due1_ord (os : List Str) : (if due1 os = true then os.all (fun x => decide (x ∈ letts)) else false) = ordB os := by
  unfold due1 ordB
  cases decide (0 < os.length) <;> cases decide os.Nodup <;> cases os.all (fun x => decide (x ∈ letts)) <;> rfl
def mkT (us : List Tr) : Tr := us.foldr Tr.c Tr.e
theorem mkT_at {H : Hp} : ∀ {us : List Tr} {vs : List V}, Paired (IsT H) us vs → (atT H (mkT us)).2 vs
  | [], [], .nil => rfl
  | u :: us, v :: vs, .cons a b => ⟨v, vs, rfl, a, mkT_at b⟩
theorem mkT_is {H : Hp} {us : List Tr} {vs : List V} {l : Addr} (h : Paired (IsT H) us vs) (e : H l = some (.tup vs)) : IsT H (mkT us) (.ref l) := by
  cases h with
  | nil => exact ⟨l, rfl, e⟩
  | cons a b => exact ⟨l, _, rfl, e, _, _, rfl, a, mkT_at b⟩
theorem mkT_items : ∀ us : List Tr, (mkT us).items = us
  | [] => rfl
  | u :: us => by show u :: (mkT us).items = _; rw [mkT_items us]
theorem tr_part {s : Sn} {u : Tr} (h : u ∈ (trS s).items) (e : u.tup = true) : ∃ s' : Sn, u = trS s' ∧ s'.depth + 1 ≤ s.depth := by
  have no : ∀ x : Str, (Tr.s x).tup = true → False := fun x h => nomatch h
  cases s with
  | c0 y =>
    have h : u ∈ [Tr.s (Sn.word (.c0 y))] := h
    rw [List.mem_singleton.mp h] at e; cases e
  | mk x =>
    have h : u ∈ [Tr.s "mark", Tr.s x] := h
    simp only [List.mem_cons, List.not_mem_nil, or_false] at h
    rcases h with rfl | rfl <;> cases e
  | nt s =>
    have h : u ∈ [Tr.s "not", trS s] := h
    simp only [List.mem_cons, List.not_mem_nil, or_false] at h
    rcases h with rfl | rfl
    · cases e
    · exact ⟨s, rfl, by show s.depth + 1 ≤ 1 + s.depth; omega⟩
  | b2 o s t =>
    have h : u ∈ [Tr.s (w2 o), trS s, trS t] := h
    simp only [List.mem_cons, List.not_mem_nil, or_false] at h
    rcases h with rfl | rfl | rfl
    · cases e
    · exact ⟨s, rfl, by show s.depth + 1 ≤ 1 + max s.depth t.depth; omega⟩
    · exact ⟨t, rfl, by show t.depth + 1 ≤ 1 + max s.depth t.depth; omega⟩
  | q1 o x s =>
    have h : u ∈ [Tr.s (if o then "some" else "each"), Tr.s x, trS s] := h
    simp only [List.mem_cons, List.not_mem_nil, or_false] at h
    rcases h with rfl | rfl | rfl
    · cases e
    · cases e
    · exact ⟨s, rfl, by show s.depth + 1 ≤ 1 + s.depth; omega⟩
theorem tr_items (s : Sn) : ∃ r, (trS s).items = .s s.word :: r ∧ r.length ≤ 2 := by
  cases s with
  | c0 y => exact ⟨[], rfl, by decide⟩
  | mk x => exact ⟨[.s x], rfl, by simp⟩
  | nt s => exact ⟨[trS s], rfl, by simp⟩
  | b2 o s t => exact ⟨[trS s, trS t], rfl, by simp⟩
  | q1 o x s => cases o <;> exact ⟨[.s x, trS s], rfl, by simp⟩
theorem maxD_le {us : List Tr} {n : Nat} (h : ∀ u ∈ us, dpT u ≤ n) : maxD us ≤ n := by
  induction us with
  | nil => exact Nat.zero_le _
  | cons a b ih =>
    rw [maxD_cons]
    have h1 := h a (by simp)
    have h2 := ih fun u hu => h u (List.mem_cons_of_mem _ hu)
    omega
inductive spSpoilt (d : Nat) (vs : List V) (H : Hp) (Q : VK) (E9 : XK) : Prop
  | mk (p : Addr) (sn : Sn) (c : Int) (_ : vs = [.ref p, .int c]) (_ : IsS H sn p) (_ : sn.depth ≤ d) (_ : ∀ (p' : Addr) H' (t' : Tr), Same H H' → IsT H' t' (.ref p') → dpT t' ≤ sn.depth + 2 → Q (.ref p') H') : spSpoilt d vs H Q E9
end Sen
namespace L2
open PySem
section
variable {K : PySem.W.Frag} {σ : St} {js : List Nat} {tt : TT} {te : TE} {H : Hp} {Qf : Addr → Hp → List V → Prop}
theorem lc_filtRo {n : Nat} {lo : Int} (p : Nat → Bool) (hz : n ≤ sizeLine) (hte : ∀ x H' Q, Q x H' → te (lcS σ js (some x)) H' Q)
    (hs : ∀ (i : Nat) H' (Q : Bool → Hp → Prop), i < n → Same H H' → (∀ H2, Same H H2 → Q (p i) H2) → tt (lcS σ js (some (.int (lo + i)))) H' Q)
    (hd : ∀ H' l, Same H H' → H' l = none → Qf l H' (((List.range n).filter p).map fun (i : Nat) => V.int (lo + i))) :
    ∃ W : Nat → Nat → List V → Hp → Prop, (∃ m, W 0 m [] H) ∧ ∀ i m ys H, W i m ys H →
      ((Itr lo n).stop i H ∧ ∀ p, H p = none → Qf p H ys) ∨
      ((Itr lo n).go i H ∧ ys.length < sizeLine ∧ ∀ x H', (Itr lo n).yld i H x H' → tt (lcS σ js (some x)) H' fun b H2 =>
        if b = true then te (lcS σ js (some x)) H2 fun v H3 => ∃ m', m' < m ∧ W (i + 1) m' (ys ++ [v]) H3 else ∃ m', m' < m ∧ W (i + 1) m' ys H2) := by
  refine ⟨fun i m ys H' => m = n - i ∧ i ≤ n ∧ Same H H' ∧ ys = ((List.range i).filter p).map fun (i : Nat) => V.int (lo + i), ⟨n, by simp, Nat.zero_le _, Same.refl _, rfl⟩, ?_⟩
  rintro i m ys H1 ⟨rfl, hi, g, rfl⟩
  have hy : (((List.range i).filter p).map fun (i : Nat) => V.int (lo + i)).length ≤ i := by
    have := List.length_filter_le p (List.range i)
    rw [List.length_range] at this
    rw [List.length_map]
    exact this
  by_cases hlt : i < n
  · refine .inr ⟨hlt, by omega, fun x H' y => ?_⟩
    obtain ⟨e, y⟩ := y
    subst e y
    refine hs i _ _ hlt g fun H2 g2 => ?_
    cases e : p i with
    | true =>
      rw [if_pos rfl]
      refine hte _ _ _ ⟨_, Nat.sub_lt_sub_left hlt (Nat.lt_succ_self i), rfl, hlt, g2, ?_⟩
      rw [List.range_succ, List.filter_append, List.filter_cons_of_pos e]
      rw [List.map_append]
      rfl
    | false =>
      rw [if_neg Bool.false_ne_true]
      refine ⟨_, Nat.sub_lt_sub_left hlt (Nat.lt_succ_self i), rfl, hlt, g2, ?_⟩
      rw [List.range_succ, List.filter_append, List.filter_cons_of_neg (by rw [e]; exact Bool.false_ne_true), List.filter_nil, List.append_nil]
  · have e : i = n := by omega
    subst e
    exact .inl ⟨Nat.le_refl _, fun l hl => hd _ l g hl⟩
end
end L2
namespace Sen
open PySem L2
def TrD (H : Hp) (n : Nat) (v : V) : Prop := ∃ (p : Addr) (u : Tr), v = .ref p ∧ IsT H u v ∧ dpT u ≤ n
theorem TrD.mono {H H' : Hp} {n m : Nat} {v : V} (h : TrD H n v) (g : Same H H') (l : n ≤ m) : TrD H' m v := by
  obtain ⟨p, u, e, h1, h2⟩ := h
  exact ⟨p, u, e, h1.mono (Tups.of g), Nat.le_trans h2 l⟩
theorem TrD.two {H : Hp} {n : Nat} {v w : V} {x : Str} {l : Addr} (h : TrD H n v) (k : TrD H n w) (e : H l = some (.tup [.str x, v, w])) : TrD H (n + 1) (.ref l) := by
  obtain ⟨p, u, e1, h1, h2⟩ := h
  obtain ⟨q, t, e2, k1, k2⟩ := k
  refine ⟨l, mkT [.s x, u, t], rfl, mkT_is (.cons rfl (.cons h1 (.cons k1 .nil))) e, ?_⟩
  rw [dpT_cons (mkT_items _)]
  have := maxD_le (us := [u, t]) (n := n) fun y hy => by
    simp only [List.mem_cons, List.not_mem_nil, or_false] at hy
    rcases hy with rfl | rfl <;> assumption
  omega
theorem TrD.one {H : Hp} {n : Nat} {v : V} {x : Str} {l : Addr} (h : TrD H n v) (e : H l = some (.tup [.str x, v])) : TrD H (n + 1) (.ref l) := by
  obtain ⟨p, u, e1, h1, h2⟩ := h
  refine ⟨l, mkT [.s x, u], rfl, mkT_is (.cons rfl (.cons h1 .nil)) e, ?_⟩
  rw [dpT_cons (mkT_items _)]
  have := maxD_le (us := [u]) (n := n) fun y hy => by rw [List.mem_singleton.mp hy]; exact h2
  omega
theorem TrD.some {H : Hp} {n : Nat} {v : V} {x y : Str} {l : Addr} (h : TrD H n v) (e : H l = some (.tup [.str x, .str y, v])) : TrD H (n + 1) (.ref l) := by
  obtain ⟨p, u, e1, h1, h2⟩ := h
  refine ⟨l, mkT [.s x, .s y, u], rfl, mkT_is (.cons rfl (.cons rfl (.cons h1 .nil))) e, ?_⟩
  rw [dpT_cons (mkT_items _)]
  have := maxD_le (us := [.s y, u]) (n := n) fun z hz => by
    simp only [List.mem_cons, List.not_mem_nil, or_false] at hz
    rcases hz with rfl | rfl
    · exact Nat.zero_le _
    · exact h2
  omega
def Row8 (H : Hp) (vs : List V) : Prop := ∃ (E : Nat) (xs ys : List V), vs = xs ++ ys ∧ (xs.length + 2 * ys.length) * 2 ^ E ≤ 128 ∧ 0 < xs.length + ys.length ∧ (∀ v ∈ xs, TrD H (E + 1) v) ∧ (∀ v ∈ ys, TrD H (E + 2) v)
theorem Row8.mono {H H' : Hp} {vs : List V} (h : Row8 H vs) (g : Same H H') : Row8 H' vs := by
  obtain ⟨E, xs, ys, e, h1, h2, h3, h4⟩ := h
  exact ⟨E, xs, ys, e, h1, h2, fun v hv => (h3 v hv).mono g (Nat.le_refl _), fun v hv => (h4 v hv).mono g (Nat.le_refl _)⟩
theorem e_le {n E : Nat} (h : n * 2 ^ E ≤ 128) (p : 0 < n) : E ≤ 7 := by
  apply Nat.le_of_not_lt
  intro z
  have h1 : 2 ^ 8 ≤ 2 ^ E := Nat.pow_le_pow_right (by decide) z
  have h2 : 1 * 2 ^ E ≤ n * 2 ^ E := Nat.mul_le_mul_right _ p
  omega
theorem Row8.end {H : Hp} {v : V} (h : Row8 H [v]) : TrD H 8 v := by
  obtain ⟨E, xs, ys, e, h1, h2, h3, h4⟩ := h
  have hE := e_le h1 (by omega)
  cases xs with
  | nil =>
    have e : [v] = ys := e
    subst e
    have z : (0 + 2 * 1) * 2 ^ E ≤ 128 := h1
    have : E ≤ 6 := by
      apply Nat.le_of_not_lt
      intro y
      have h5 : 2 ^ 7 ≤ 2 ^ E := Nat.pow_le_pow_right (by decide) y
      omega
    exact (h4 v (by simp)).mono (Same.refl _) (by omega)
  | cons a b =>
    have e : [v] = a :: (b ++ ys) := e
    have ev : v = a := by injection e
    exact (h3 v (by rw [ev]; simp)).mono (Same.refl _) (by omega)
theorem Row8.step {H : Hp} {v w : V} {vs : List V} {x : Str} {l : Addr} (h : Row8 H (v :: w :: vs)) (e : H l = some (.tup [.str x, v, w])) : Row8 H (vs ++ [.ref l]) := by
  obtain ⟨E, xs, ys, e0, h1, h2, h3, h4⟩ := h
  have hE := e_le h1 (by omega)
  have up : 2 ^ (E + 1) = 2 * 2 ^ E := by rw [Nat.pow_succ, Nat.mul_comm]
  match xs, e0, h1, h2, h3 with
  | [], e0, h1, h2, h3 =>
    have e0 : v :: w :: vs = ys := e0
    subst e0
    refine ⟨E + 1, vs, [.ref l], rfl, ?_, by simp, fun u hu => h4 u (by simp [hu]), fun u hu => ?_⟩
    · rw [up]
      have h1 : (0 + 2 * (vs.length + 1 + 1)) * 2 ^ E ≤ 128 := h1
      have : (vs.length + 2 * 1) * (2 * 2 ^ E) = (0 + 2 * (vs.length + 1 + 1)) * 2 ^ E := by
        rw [← Nat.mul_assoc]
        congr 1
        omega
      show (vs.length + 2 * 1) * (2 * 2 ^ E) ≤ 128
      omega
    · rw [List.mem_singleton.mp hu]
      exact (h4 v (by simp)).two (h4 w (by simp)) e
  | [a], e0, h1, h2, h3 =>
    have e0 : v :: w :: vs = a :: ys := e0
    cases e0
    refine ⟨E + 1, vs, [.ref l], rfl, ?_, by simp, fun u hu => h4 u (by simp [hu]), fun u hu => ?_⟩
    · have h1 : (1 + 2 * (vs.length + 1)) * 2 ^ E ≤ 128 := h1
      show (vs.length + 2 * 1) * 2 ^ (E + 1) ≤ 128
      match E, hE with
      | 0, _ => omega
      | 1, _ => omega
      | 2, _ => omega
      | 3, _ => omega
      | 4, _ => omega
      | 5, _ => omega
      | 6, _ => omega
      | 7, _ => omega
    · rw [List.mem_singleton.mp hu]
      exact ((h3 v (by simp)).mono (Same.refl _) (by omega)).two (h4 w (by simp)) e
  | a :: b :: r, e0, h1, h2, h3 =>
    have e0 : v :: w :: vs = a :: b :: (r ++ ys) := e0
    cases e0
    refine ⟨E, r, ys ++ [.ref l], by rw [List.append_assoc], ?_, by rw [List.length_append]; show 0 < r.length + (ys.length + 1); omega, fun u hu => h3 u (by simp [hu]), fun u hu => ?_⟩
    · have h1 : (r.length + 1 + 1 + 2 * ys.length) * 2 ^ E ≤ 128 := h1
      rw [List.length_append]
      show (r.length + 2 * (ys.length + 1)) * 2 ^ E ≤ 128
      have : r.length + 2 * (ys.length + 1) = r.length + 1 + 1 + 2 * ys.length := by omega
      rw [this]
      exact h1
    · rcases List.mem_append.mp hu with hu | hu
      · exact h4 u hu
      · rw [List.mem_singleton.mp hu]
        exact (h3 v (by simp)).two (h3 w (by simp)) e
inductive spGreat (vs : List V) (H : Hp) (Q : VK) (E9 : XK) : Prop
  | mk (c : Int) (_ : vs = [.int c]) (_ : ∀ (v : V) H', Same H H' → TrD H' 30 v → Q v H') : spGreat vs H Q E9
inductive spLettersL (d : Nat) (vs : List V) (H : Hp) (Q : VK) (E9 : XK) : Prop
  | mk (p : Addr) (s : Sn) (_ : vs = [.ref p]) (_ : IsS H s p) (_ : s.depth ≤ d) (_ : s.count ≤ 400) (_ : ∀ (l : Addr) H' (xs : List Str), Same H H' → H' l = some (.lst (xs.map V.str)) → (∀ x, x ∈ xs ↔ x ∈ s.all) → xs.length ≤ s.count → Q (.ref l) H') : spLettersL d vs H Q E9
theorem word_letters (s : Sn) : (s.word ∈ (["mark", "some", "each"] : List Str) ∧ ∃ x, s.letters = [x]) ∨ (s.word ∉ (["mark", "some", "each"] : List Str) ∧ s.letters = []) := by
  cases s with
  | c0 y => cases y <;> exact .inr ⟨by decide +kernel, rfl⟩
  | mk x => exact .inl ⟨(by decide +kernel : ("mark" : Str) ∈ (["mark", "some", "each"] : List Str)), x, rfl⟩
  | nt s => exact .inr ⟨(by decide +kernel : ("not" : Str) ∉ (["mark", "some", "each"] : List Str)), rfl⟩
  | b2 o s t =>
    refine .inr ⟨?_, rfl⟩
    have : ∀ o : Fin 4, w2 o ∉ (["mark", "some", "each"] : List Str) := by decide +kernel
    exact this o
  | q1 o x s =>
    refine .inl ⟨?_, x, rfl⟩
    cases o
    · exact (by decide +kernel : ("each" : Str) ∈ (["mark", "some", "each"] : List Str))
    · exact (by decide +kernel : ("some" : Str) ∈ (["mark", "some", "each"] : List Str))
theorem sum_take_le (ss : List Sn) (j : Nat) : ((ss.take j).map Sn.count).sum ≤ (ss.map Sn.count).sum := by
  induction ss generalizing j with
  | nil => simp
  | cons s r ih =>
    cases j with
    | zero => simp
    | succ j =>
      rw [List.take_succ_cons, List.map_cons, List.map_cons, List.sum_cons, List.sum_cons]
      have := ih j
      omega
end Sen
namespace K01
open PySem L2
def top (i : Nat) : Stmt := PySem.Challenge.pw_decidebook_k01_orders_and_sentences.main.body.getD i (.Pass ⟨0, 0, 0, 0⟩)
abbrev S_is_mark : Stmt := top 8
abbrev p_is_mark : List Str := ["letter"]
theorem sc_is_mark : FnScope ["letter"] p_is_mark (defScope S_is_mark) := fsc (by decide +kernel)
abbrev S_is_order : Stmt := top 9
abbrev p_is_order : List Str := ["order"]
theorem sc_is_order : FnScope ["order"] p_is_order (defScope S_is_order) := fsc (by decide +kernel)
abbrev S_letters_of : Stmt := top 10
abbrev p_letters_of : List Str := ["sentence"]
theorem sc_letters_of : FnScope ["sentence"] p_letters_of (defScope S_letters_of) := fsc (by decide +kernel)
abbrev S_parts_of : Stmt := top 11
abbrev p_parts_of : List Str := ["sentence"]
theorem sc_parts_of : FnScope ["sentence"] p_parts_of (defScope S_parts_of) := fsc (by decide +kernel)
abbrev S_parts_of_all : Stmt := top 12
abbrev p_parts_of_all : List Str := ["level"]
theorem sc_parts_of_all : FnScope ["level", "found", "sentence"] p_parts_of_all (defScope S_parts_of_all) := fsc (by decide +kernel)
abbrev S_is_shaped : Stmt := top 13
abbrev p_is_shaped : List Str := ["some"]
theorem sc_is_shaped : FnScope ["some", "shape"] p_is_shaped (defScope S_is_shaped) := fsc (by decide +kernel)
abbrev S_is_sentence : Stmt := top 14
abbrev p_is_sentence : List Str := ["some"]
theorem sc_is_sentence : FnScope ["some", "level", "deep", "tuples"] p_is_sentence (defScope S_is_sentence) := fsc (by decide +kernel)
abbrev S_must_be_sentence : Stmt := top 15
abbrev p_must_be_sentence : List Str := ["some"]
theorem sc_must_be_sentence : FnScope ["some"] p_must_be_sentence (defScope S_must_be_sentence) := fsc (by decide +kernel)
abbrev S_tuples_in : Stmt := top 16
abbrev p_tuples_in : List Str := ["sentence"]
theorem sc_tuples_in : FnScope ["sentence", "found", "level"] p_tuples_in (defScope S_tuples_in) := fsc (by decide +kernel)
abbrev S_words : Stmt := top 17
abbrev p_words : List Str := ["sentence"]
theorem sc_words : FnScope ["sentence"] p_words (defScope S_words) := fsc (by decide +kernel)
abbrev S_letters_in : Stmt := top 18
abbrev p_letters_in : List Str := ["sentence"]
theorem sc_letters_in : FnScope ["sentence", "found", "part"] p_letters_in (defScope S_letters_in) := fsc (by decide +kernel)
abbrev S_marks_of : Stmt := top 19
abbrev p_marks_of : List Str := ["sentence"]
theorem sc_marks_of : FnScope ["sentence"] p_marks_of (defScope S_marks_of) := fsc (by decide +kernel)
abbrev S_x_law_cell_at : Stmt := top 21
abbrev p_x_law_cell_at : List Str := ["script", "k"]
theorem sc_x_law_cell_at : FnScope ["script", "k"] p_x_law_cell_at (defScope S_x_law_cell_at) := fsc (by decide +kernel)
abbrev S_x_law_whole : Stmt := top 22
abbrev p_x_law_whole : List Str := ["found"]
theorem sc_x_law_whole : FnScope ["found"] p_x_law_whole (defScope S_x_law_whole) := fsc (by decide +kernel)
abbrev S_x_law_draw : Stmt := top 23
abbrev p_x_law_draw : List Str := ["cell", "k", "bound"]
theorem sc_x_law_draw : FnScope ["cell", "k", "bound", "stir", "left", "j"] p_x_law_draw (defScope S_x_law_draw) := fsc (by decide +kernel)
abbrev S_x_law_order : Stmt := top 24
abbrev p_x_law_order : List Str := ["cell", "limit"]
theorem sc_x_law_order : FnScope ["cell", "limit", "found", "k"] p_x_law_order (defScope S_x_law_order) := fsc (by decide +kernel)
abbrev S_x_law_sentence : Stmt := top 25
abbrev p_x_law_sentence : List Str := ["script", "at", "many", "order"]
theorem sc_x_law_sentence : FnScope ["script", "at", "many", "order", "kinds", "made", "k", "cell", "kind", "one", "other", "letter"] p_x_law_sentence (defScope S_x_law_sentence) := fsc (by decide +kernel)
abbrev S_x_law_count : Stmt := top 26
abbrev p_x_law_count : List Str := ["some"]
theorem sc_x_law_count : FnScope ["some"] p_x_law_count (defScope S_x_law_count) := fsc (by decide +kernel)
abbrev S_x_law_deep : Stmt := top 27
abbrev p_x_law_deep : List Str := ["some"]
theorem sc_x_law_deep : FnScope ["some"] p_x_law_deep (defScope S_x_law_deep) := fsc (by decide +kernel)
abbrev S_x_law_good : Stmt := top 28
abbrev p_x_law_good : List Str := ["some"]
theorem sc_x_law_good : FnScope ["some", "letters"] p_x_law_good (defScope S_x_law_good) := fsc (by decide +kernel)
abbrev S_x_law_letters : Stmt := top 29
abbrev p_x_law_letters : List Str := ["some"]
theorem sc_x_law_letters : FnScope ["some", "found", "piece"] p_x_law_letters (defScope S_x_law_letters) := fsc (by decide +kernel)
abbrev S_x_law_spoilt : Stmt := top 30
abbrev p_x_law_spoilt : List Str := ["some", "cell"]
theorem sc_x_law_spoilt : FnScope ["some", "cell", "places", "odd", "at"] p_x_law_spoilt (defScope S_x_law_spoilt) := fsc (by decide +kernel)
abbrev S_x_law_great : Stmt := top 31
abbrev p_x_law_great : List Str := ["cell"]
theorem sc_x_law_great : FnScope ["cell", "some", "k", "row"] p_x_law_great (defScope S_x_law_great) := fsc (by decide +kernel)
abbrev S_x_law_order_right : Stmt := top 32
abbrev p_x_law_order_right : List Str := ["cell"]
theorem sc_x_law_order_right : FnScope ["cell", "some", "due", "handed", "found"] p_x_law_order_right (defScope S_x_law_order_right) := fsc (by decide +kernel)
abbrev S_law : Stmt := top 33
abbrev p_law : List Str := ["script"]
theorem sc_law : FnScope ["script", "some", "due", "found", "told", "turn", "letters"] p_law (defScope S_law) := fsc (by decide +kernel)
def tb_SHAPES : List (Str × Int × Int) := [("yes", 0, 0), ("no", 0, 0), ("mark", 1, 0), ("not", 0, 1), ("and", 0, 2), ("or", 0, 2), ("either", 0, 2), ("if", 0, 2), ("some", 1, 1), ("each", 1, 1)]
set_option genInjectivity false in
set_option genSizeOf false in
structure Ad where
  a_is_mark : Addr
  d_is_mark : FuncData
  a_is_order : Addr
  d_is_order : FuncData
  a_letters_of : Addr
  d_letters_of : FuncData
  a_parts_of : Addr
  d_parts_of : FuncData
  a_parts_of_all : Addr
  d_parts_of_all : FuncData
  a_is_shaped : Addr
  d_is_shaped : FuncData
  a_is_sentence : Addr
  d_is_sentence : FuncData
  a_must_be_sentence : Addr
  d_must_be_sentence : FuncData
  a_tuples_in : Addr
  d_tuples_in : FuncData
  a_words : Addr
  d_words : FuncData
  a_letters_in : Addr
  d_letters_in : FuncData
  a_marks_of : Addr
  d_marks_of : FuncData
  a_x_law_cell_at : Addr
  d_x_law_cell_at : FuncData
  a_x_law_whole : Addr
  d_x_law_whole : FuncData
  a_x_law_draw : Addr
  d_x_law_draw : FuncData
  a_x_law_order : Addr
  d_x_law_order : FuncData
  a_x_law_sentence : Addr
  d_x_law_sentence : FuncData
  a_x_law_count : Addr
  d_x_law_count : FuncData
  a_x_law_deep : Addr
  d_x_law_deep : FuncData
  a_x_law_good : Addr
  d_x_law_good : FuncData
  a_x_law_letters : Addr
  d_x_law_letters : FuncData
  a_x_law_spoilt : Addr
  d_x_law_spoilt : FuncData
  a_x_law_great : Addr
  d_x_law_great : FuncData
  a_x_law_order_right : Addr
  d_x_law_order_right : FuncData
  a_law : Addr
  d_law : FuncData
  a_MARKS : Addr
  t_MOST_TUPLES : Tok
  t_MOST_DEEP : Tok
  a_SHAPES : Addr
  kv_SHAPES : List (Str × Value)
structure Txt (P : Program) (w : World) (K : PySem.W.Frag) (mg : Str → Option Value) (a : Ad) : Prop where
  f_is_mark : Df K mg "is_mark" S_is_mark a.a_is_mark a.d_is_mark p_is_mark
  f_is_order : Df K mg "is_order" S_is_order a.a_is_order a.d_is_order p_is_order
  f_letters_of : Df K mg "letters_of" S_letters_of a.a_letters_of a.d_letters_of p_letters_of
  f_parts_of : Df K mg "parts_of" S_parts_of a.a_parts_of a.d_parts_of p_parts_of
  f_parts_of_all : Df K mg "parts_of_all" S_parts_of_all a.a_parts_of_all a.d_parts_of_all p_parts_of_all
  f_is_shaped : Df K mg "is_shaped" S_is_shaped a.a_is_shaped a.d_is_shaped p_is_shaped
  f_is_sentence : Df K mg "is_sentence" S_is_sentence a.a_is_sentence a.d_is_sentence p_is_sentence
  f_must_be_sentence : Df K mg "must_be_sentence" S_must_be_sentence a.a_must_be_sentence a.d_must_be_sentence p_must_be_sentence
  f_tuples_in : Df K mg "tuples_in" S_tuples_in a.a_tuples_in a.d_tuples_in p_tuples_in
  f_words : Df K mg "words" S_words a.a_words a.d_words p_words
  f_letters_in : Df K mg "letters_in" S_letters_in a.a_letters_in a.d_letters_in p_letters_in
  f_marks_of : Df K mg "marks_of" S_marks_of a.a_marks_of a.d_marks_of p_marks_of
  f_x_law_cell_at : Df K mg "_law_cell_at" S_x_law_cell_at a.a_x_law_cell_at a.d_x_law_cell_at p_x_law_cell_at
  f_x_law_whole : Df K mg "_law_whole" S_x_law_whole a.a_x_law_whole a.d_x_law_whole p_x_law_whole
  f_x_law_draw : Df K mg "_law_draw" S_x_law_draw a.a_x_law_draw a.d_x_law_draw p_x_law_draw
  f_x_law_order : Df K mg "_law_order" S_x_law_order a.a_x_law_order a.d_x_law_order p_x_law_order
  f_x_law_sentence : Df K mg "_law_sentence" S_x_law_sentence a.a_x_law_sentence a.d_x_law_sentence p_x_law_sentence
  f_x_law_count : Df K mg "_law_count" S_x_law_count a.a_x_law_count a.d_x_law_count p_x_law_count
  f_x_law_deep : Df K mg "_law_deep" S_x_law_deep a.a_x_law_deep a.d_x_law_deep p_x_law_deep
  f_x_law_good : Df K mg "_law_good" S_x_law_good a.a_x_law_good a.d_x_law_good p_x_law_good
  f_x_law_letters : Df K mg "_law_letters" S_x_law_letters a.a_x_law_letters a.d_x_law_letters p_x_law_letters
  f_x_law_spoilt : Df K mg "_law_spoilt" S_x_law_spoilt a.a_x_law_spoilt a.d_x_law_spoilt p_x_law_spoilt
  f_x_law_great : Df K mg "_law_great" S_x_law_great a.a_x_law_great a.d_x_law_great p_x_law_great
  f_x_law_order_right : Df K mg "_law_order_right" S_x_law_order_right a.a_x_law_order_right a.d_x_law_order_right p_x_law_order_right
  f_law : Df K mg "law" S_law a.a_law a.d_law p_law
  m_MARKS : mg "MARKS" = some (.ref a.a_MARKS)
  q_MARKS : ∀ H, SqT K H a.a_MARKS ((["a", "b", "c", "d", "e", "f", "g", "h"] : List Str).map V.str)
  m_MOST_TUPLES : mg "MOST_TUPLES" = some (.int 200 a.t_MOST_TUPLES)
  m_MOST_DEEP : mg "MOST_DEEP" = some (.int 24 a.t_MOST_DEEP)
  m_SHAPES : mg "SHAPES" = some (.ref a.a_SHAPES)
  h_SHAPES : Shp K P w a.a_SHAPES a.kv_SHAPES tb_SHAPES
  n_all : mg "all" = none
  n_bool : mg "bool" = none
  n_int : mg "int" = none
  n_isinstance : mg "isinstance" = none
  n_len : mg "len" = none
  n_list : mg "list" = none
  n_max : mg "max" = none
  n_range : mg "range" = none
  n_set : mg "set" = none
  n_sorted : mg "sorted" = none
  n_str : mg "str" = none
  n_sum : mg "sum" = none
  n_tuple : mg "tuple" = none
theorem x_law {K : PySem.W.Frag} {mg : Str → Option Value} {f : Addr} {d : FuncData} (F : Df K mg "law" S_law f d p_law) : ∀ (s : Shared) (u : Value), BindsTo s d ⟨[u], []⟩ [("script", u)] := by
  obtain ⟨_, _, _, _, _, _, _, _, _, rfl, _, _⟩ := F.F.ex
  exact fun s u => .of_eq rfl
theorem ex_mk {P : Program} {w : World} {K : PySem.W.Frag} {mg : Str → Option Value} {x0 x2 x4 x6 x8 x10 x12 x14 x16 x18 x20 x22 x24 x26 x28 x30 x32 x34 x36 x38 x40 x42 x44 x46 x48 x50 x53 : Addr} {x1 x3 x5 x7 x9 x11 x13 x15 x17 x19 x21 x23 x25 x27 x29 x31 x33 x35 x37 x39 x41 x43 x45 x47 x49 : FuncData} {x51 x52 : Tok} {x54 : List (Str × Value)} (t : Txt P w K mg ⟨x0, x1, x2, x3, x4, x5, x6, x7, x8, x9, x10, x11, x12, x13, x14, x15, x16, x17, x18, x19, x20, x21, x22, x23, x24, x25, x26, x27, x28, x29, x30, x31, x32, x33, x34, x35, x36, x37, x38, x39, x40, x41, x42, x43, x44, x45, x46, x47, x48, x49, x50, x51, x52, x53, x54⟩) : ∃ a, Txt P w K mg a := ⟨_, t⟩
end K01
namespace K01
open PySem L2 Sen
section
variable {P : Program} {w : World} {K : PySem.W.Frag} {mg : Str → Option Value} {base : Heap} {a : Ad} {k : Nat}
theorem ok_is_markX (T : Txt P w K mg a) : FnOk P w K mg base CX0 (k + 1) a.a_is_mark a.d_is_mark p_is_mark spMarkX := by
  refine T.f_is_mark.F.ok sc_is_mark (fun vs H Q E h => ?_) (fun cdv A outer s H vs Q E hr h => ?_)
  · obtain ⟨t, v, rfl, _⟩ := h
    rfl
  obtain ⟨t, v, rfl, ht, q⟩ := h
  refine ⟨_, (pss_one (ps_ret (pe_cmpR (op_inD (K := K) rfl (hu9 hr)) (pv 0) (pe_glob (v := .ref a.a_MARKS) rfl T.m_MARKS rfl) (by with_unfolding_all rfl)))), ?_⟩
  cases e : t.tup with
  | false =>
    obtain ⟨x, rfl, rfl⟩ := ht.str e
    refine ⟨_, rfl, a.a_MARKS, letts.map V.str, fun z => eqV z (.str x), rfl, .inr (T.q_MARKS H), fun z hz => .flat (List.all_eq_true.mp (flat_strs _) z hz) rfl, ?_⟩
    show Q (.bl (inV (.str x) (letts.map V.str))) H
    rw [inV_strs]
    exact q
  | true =>
    obtain ⟨p, rfl⟩ := ht.tup e
    obtain ⟨vs, hp, _⟩ := ht.cut
    refine ⟨_, rfl, a.a_MARKS, letts.map V.str, fun _ => false, rfl, .inr (T.q_MARKS H), fun z hz => .ft (SqT.of hp) (List.all_eq_true.mp (flat_strs _) z hz), ?_⟩
    show Q (.bl ((letts.map V.str).any fun _ => false)) H
    rw [not_mark]
    rw [ht.mk] at q
    exact q
theorem ok_letters_of (T : Txt P w K mg a) : FnOk P w K mg base CX0 (k + 1) a.a_letters_of a.d_letters_of p_letters_of spLettersOf := by
  refine T.f_letters_of.F.ok sc_letters_of (fun vs H Q E h => ?_) (fun cdv A outer s H vs Q E hr h => ?_)
  · obtain ⟨p, x, m, n, rest, rfl, _⟩ := h
    rfl
  obtain ⟨p, x, m, n, rest, rfl, hp, hm, hl, q⟩ := h
  refine ⟨_, (pss_one (ps_ret (pe_slice sl_tup (pv 0) (po_some pe_int) (po_some (pe_op op_add pe_int (pe_ix ix_tup (pe_ix (ix_dicK T.h_SHAPES.d) (pe_glob (v := .ref a.a_SHAPES) rfl T.m_SHAPES rfl) (pe_ix ix_tup (pv 0) pe_int (fun _ _ => rfl)) (fun _ _ => rfl)) pe_int (fun _ _ => rfl))))))), ?_⟩
  obtain ⟨pt, hv, hpt⟩ := T.h_SHAPES.y x m n hm
  refine ⟨_, rfl, 1, rfl, _, rfl, p, _, 0, _, rfl, rfl, SqT.of hp, at0, x, .ref pt, .ref pt, rfl, rfl, hv, rfl, pt, _, 0, _, rfl, rfl, hpt H, at0, 1, (m : Int), rfl, rfl, _, rfl, p, _, rfl, SqT.of hp, not_whole1 (by decide), fun z hz => ?_⟩
  rw [cut_fore hl]
  exact q z hz
theorem ok_parts_of (T : Txt P w K mg a) : FnOk P w K mg base CX0 (k + 1) a.a_parts_of a.d_parts_of p_parts_of spPartsOf := by
  refine T.f_parts_of.F.ok sc_parts_of (fun vs H Q E h => ?_) (fun cdv A outer s H vs Q E hr h => ?_)
  · obtain ⟨p, x, m, n, rest, rfl, _⟩ := h
    rfl
  obtain ⟨p, x, m, n, rest, rfl, hp, hm, hl, q⟩ := h
  refine ⟨_, (pss_one (ps_ret (pe_slice sl_tup (pv 0) (po_some (pe_op op_add pe_int (pe_ix ix_tup (pe_ix (ix_dicK T.h_SHAPES.d) (pe_glob (v := .ref a.a_SHAPES) rfl T.m_SHAPES rfl) (pe_ix ix_tup (pv 0) pe_int (fun _ _ => rfl)) (fun _ _ => rfl)) pe_int (fun _ _ => rfl)))) po_none))), ?_⟩
  obtain ⟨pt, hv, hpt⟩ := T.h_SHAPES.y x m n hm
  refine ⟨_, rfl, _, rfl, p, _, 0, _, rfl, rfl, SqT.of hp, at0, x, .ref pt, .ref pt, rfl, rfl, hv, rfl, pt, _, 0, _, rfl, rfl, hpt H, at0, 1, (m : Int), rfl, rfl, _, rfl, p, _, rfl, SqT.of hp, not_whole1 (by omega), fun z hz => ?_⟩
  rw [cut_rear hl]
  exact q z hz
theorem ok_is_shapedX (T : Txt P w K mg a) (G_is_mark : FnOk P w K mg base CX0 k a.a_is_mark a.d_is_mark p_is_mark spMarkX) (G_letters_of : FnOk P w K mg base CX0 k a.a_letters_of a.d_letters_of p_letters_of spLettersOf) (G_parts_of : FnOk P w K mg base CX0 k a.a_parts_of a.d_parts_of p_parts_of spPartsOf) :
    FnOk P w K mg base CX0 (k + 1) a.a_is_shaped a.d_is_shaped p_is_shaped spShapedX := by
  refine T.f_is_shaped.F.ok sc_is_shaped (fun vs H Q E h => ?_) (fun cdv A outer s H vs Q E hr h => ?_)
  · obtain ⟨p, t, rfl, _⟩ := h
    rfl
  obtain ⟨p, t, rfl, ht, q⟩ := h
  refine ⟨_, (pss_cons (ps_if (PW.pt (pw_or (pt_cmpR op_eq (pe_callB call_len_seq rfl T.n_len bt_len (pa_cons (pv 0) pa_nil)) pe_int (nomark _)) (pw_or (pt_not (pt_truth (pe_callB call_isinst rfl T.n_isinstance bt_isinstance (pa_cons (pe_ix ix_tup (pv 0) pe_int (fun _ _ => rfl)) (pa_cons (pe_bltn (v := .ty "str") rfl T.n_str bt_str rfl) pa_nil))) (fun _ => rfl))) (pw_or1 (pt_cmpR (op_notIn_dicK T.h_SHAPES.d) (pe_ix ix_tup (pv 0) pe_int (fun _ _ => rfl)) (pe_glob (v := .ref a.a_SHAPES) rfl T.m_SHAPES rfl) (by with_unfolding_all rfl)))))) (pss_one (ps_ret pe_bl)) pss_nil)
      (pss_cons (ps_setA 1 sc_is_shaped.nd (pe_ix (ix_dicK T.h_SHAPES.d) (pe_glob (v := .ref a.a_SHAPES) rfl T.m_SHAPES rfl) (pe_ix ix_tup (pv 0) pe_int (fun _ _ => rfl)) (fun _ _ => rfl)))
      (pss_cons (ps_if (pt_cmpR op_ne (pe_callB call_len_seq rfl T.n_len bt_len (pa_cons (pv 0) pa_nil)) (pe_op op_add (pe_op op_add pe_int (pe_ix ix_tup (pv 1) pe_int (fun _ _ => rfl))) (pe_ix ix_tup (pv 1) pe_int (fun _ _ => rfl))) (nomark _)) (pss_one (ps_ret pe_bl)) pss_nil)
      (pss_cons (ps_if (pt_not (pt_truth (pe_callB (call_all rfl) rfl T.n_all bt_all (pa_cons (pe_lc0 (osc := defScope S_is_shaped) (js := []) rfl (by show LcOk _ _ "letter" []; exact lco (by decide +kernel)) rfl (pi_tup (pe_callD G_letters_of hr T.f_letters_of (pa_cons (pv 0) pa_nil))) (by show ∀ j ∈ ([] : List Nat), j < 2; decide) (fun cl C s₂ H₂ fp => (pe_callD G_is_mark hr T.f_is_mark (pa_cons (pv 0) pa_nil)))) pa_nil)) (fun _ => rfl))) (pss_one (ps_ret pe_bl)) pss_nil)
      (pss_one (ps_ret (pe_callB (call_all rfl) rfl T.n_all bt_all (pa_cons (pe_lc0 (osc := defScope S_is_shaped) (js := []) rfl (by show LcOk _ _ "part" []; exact lco (by decide +kernel)) rfl (pi_tup (pe_callD G_parts_of hr T.f_parts_of (pa_cons (pv 0) pa_nil))) (by show ∀ j ∈ ([] : List Nat), j < 2; decide) (fun cl C s₂ H₂ fp => (pe_callB (call_isinstK (K := K) rfl) rfl T.n_isinstance bt_isinstance (pa_cons (pv 0) (pa_cons (pe_bltn (v := .ty "tuple") rfl T.n_tuple bt_tuple rfl) pa_nil))))) pa_nil)))))))), ?_⟩
  obtain ⟨vs, c1, c2⟩ := ht.cut
  refine ⟨_, rfl, p, _, rfl, .inr (SqT.of c1), rfl, _, rfl, ?_⟩
  cases ei : t.items with
  | nil =>
    rw [ei] at c2
    cases c2
    refine iteT ?_
    have es : shp t = false := by unfold shp; rw [ei]
    rw [es] at q
    exact q H (Same.refl _)
  | cons t0 r =>
  rw [ei] at c2
  cases c2 with
  | @cons _ v0 _ us h0 c2 =>
  refine iteF ?_
  cases e0 : t0.tup with
  | true =>
    obtain ⟨p0, rfl⟩ := h0.tup e0
    obtain ⟨ws, d1, _⟩ := h0.cut
    refine ⟨_, rfl, p, _, 0, _, rfl, rfl, SqT.of c1, at0, _, _, _, false, rfl, .tup d1, rfl, _, rfl, iteT ?_⟩
    have es : shp t = false := by
      unfold shp; rw [ei]
      cases t0 with
      | s x => cases e0
      | e => rfl
      | c a b => rfl
    rw [es] at q
    exact q H (Same.refl _)
  | false =>
  obtain ⟨x, rfl, rfl⟩ := h0.str e0
  refine ⟨_, rfl, p, _, 0, _, rfl, rfl, SqT.of c1, at0, _, _, _, true, rfl, .str x, rfl, _, rfl, iteF ?_⟩
  refine ⟨_, rfl, p, _, 0, _, rfl, rfl, SqT.of c1, at0, x, rfl, rfl, _, rfl, ?_⟩
  cases el : lk x with
  | none =>
    rw [T.h_SHAPES.z x (lk_none el)]
    refine iteT ?_
    have es : shp t = false := by unfold shp; rw [ei]; show (match lk x with | some (m, n) => _ | none => false) = false; rw [el]
    rw [es] at q
    exact q H (Same.refl _)
  | some mn =>
  obtain ⟨m, n⟩ := mn
  obtain ⟨hs, m1, n2⟩ := lk_some el
  obtain ⟨pt, hv, hpt⟩ := T.h_SHAPES.y _ _ _ hs
  have es : shp t = (decide (r.length = m + n) && (r.take m).all isMk && (r.drop m).all Tr.tup) := by
    unfold shp; rw [ei]; show (match lk x with | some (m, n) => _ | none => false) = _; rw [el]
  rw [hv]
  refine iteF ?_
  have lr := pd_len c2
  refine ⟨_, rfl, p, _, 0, _, rfl, rfl, SqT.of c1, at0, x, .ref pt, .ref pt, rfl, rfl, hv, rfl, ?_⟩
  refine ⟨_, rfl, p, _, rfl, .inr (SqT.of c1), _, rfl, pt, _, 0, _, rfl, rfl, hpt H, at0, 1, _, rfl, rfl, _, rfl, pt, _, 1, _, rfl, rfl, hpt H, at1, _, _, rfl, rfl, rfl, _, rfl, ite2 (fun c => ?_) (fun c => ?_)⟩
  · have nl : r.length ≠ m + n := by
      intro z
      have z2 : V.int ((V.str x :: us).length : Nat) = V.int (1 + (m : Int) + (n : Int)) := by
        congr 1
        rw [List.length_cons, ← lr, z]
        omega
      have c' : (!decide (V.int ((V.str x :: us).length : Nat) = V.int (1 + (m : Int) + (n : Int)))) = true := c
      rw [decide_eq_true z2] at c'
      cases c'
    rw [es, decide_eq_false nl] at q
    exact q H (Same.refl _)
  have zl : r.length = m + n := by
    have c' : ¬ (!decide (V.int ((V.str x :: us).length : Nat) = V.int (1 + (m : Int) + (n : Int)))) = true := c
    cases hd : decide (V.int ((V.str x :: us).length : Nat) = V.int (1 + (m : Int) + (n : Int))) with
    | false => rw [hd] at c'; exact absurd rfl c'
    | true =>
      have := of_decide_eq_true hd
      injection this with this
      rw [List.length_cons, ← lr] at this
      omega
  rw [decide_eq_true zl, Bool.true_and] at es
  have lu : us.length = m + n := lr.symm.trans zl
  refine ⟨_, rfl, p, x, m, n, us, rfl, c1, hs, lu, fun b hb => ?_⟩
  have g1 := Same.new hb (.tup (us.take m))
  have pT := pdTake m c2
  have pD := pdDrop m c2
  refine ⟨b, rfl, ⟨_, SqT.of upd_same⟩, lc_relT (xs := us.take m) (fun z v => v = .bl (mkV z)) (SqT.of upd_same) (by rw [List.length_take]; exact Nat.le_of_lt (small1000 (by omega))) ?_ (mono1 mono_markX) ?_⟩
  · intro i z H' hx g
    obtain ⟨tz, _, iz⟩ := pd_ta pT hx
    exact ⟨_, rfl, tz, z, rfl, iz.mono (Tups.of (g1.trans g)), by rw [iz.mk], g⟩
  intro ys H' p2 hr' g hp2
  have e := pd_map (f := fun z => .bl (mkV z)) hr'
  have e2 : ys = ((us.take m).map mkV).map V.bl := by rw [e, List.map_map]; rfl
  subst e2
  have g2 := Same.new hp2 (.lst (((us.take m).map mkV).map V.bl))
  have gg := (g1.trans g).trans g2
  have ea : ((us.take m).map mkV).all id = (r.take m).all isMk := (all_bl _ _).trans (pd_all (fun _ _ z => z.mk) pT).symm
  refine ⟨p2, _, rfl, SqL.of upd_same, _, rfl, ?_⟩
  rw [ea]
  cases hm : (r.take m).all isMk with
  | false =>
    refine iteT ?_
    rw [es, hm] at q
    exact q _ gg
  | true =>
  refine iteF ?_
  rw [hm, Bool.true_and] at es
  have c1' := gg _ _ c1
  refine ⟨_, rfl, p, x, m, n, us, rfl, c1', hs, lu, fun b3 hb3 => ?_⟩
  have g3 := Same.new hb3 (.tup (us.drop m))
  refine ⟨b3, rfl, ⟨_, SqT.of upd_same⟩, lc_relT (xs := us.drop m) (fun z v => v = .bl (tuV z)) (SqT.of upd_same) (by rw [List.length_drop]; exact Nat.le_of_lt (small1000 (by omega))) ?_ ?_ ?_⟩
  · intro i z H4 hx g4
    obtain ⟨tz, _, iz⟩ := pd_ta pD hx
    cases e5 : tz.tup with
    | true =>
      obtain ⟨pz, rfl⟩ := iz.tup e5
      obtain ⟨ws, d1, _⟩ := iz.cut
      have d1' := ((gg.trans g3).trans g4) _ _ d1
      exact ⟨_, rfl, _, _, _, true, rfl, .tup d1', rfl, rfl, g4⟩
    | false =>
      obtain ⟨y, rfl, rfl⟩ := iz.str e5
      exact ⟨_, rfl, _, _, _, false, rfl, .str y, rfl, rfl, g4⟩
  · rintro σ' H' Q1 Q2 hQ ⟨v, e, x, T', t, b', h1, h2, h3, h4⟩
    exact ⟨v, e, x, T', t, b', h1, h2, h3, hQ _ _ h4⟩
  · intro ys H4 p4 hr4 g4 hp4
    have e := pd_map (f := fun z => .bl (tuV z)) hr4
    have e2 : ys = ((us.drop m).map tuV).map V.bl := by rw [e, List.map_map]; rfl
    subst e2
    have ea : ((us.drop m).map tuV).all id = (r.drop m).all Tr.tup := (all_bl _ _).trans (pd_all (fun _ _ z => z.tu) pD).symm
    refine ⟨p4, _, rfl, SqL.of upd_same, ?_⟩
    rw [ea, ← es]
    exact q _ (((gg.trans g3).trans g4).trans (Same.new hp4 _))
theorem ok_parts_of_allX (T : Txt P w K mg a) (G_parts_of : FnOk P w K mg base CX0 k a.a_parts_of a.d_parts_of p_parts_of spPartsOf) : FnOk P w K mg base CX0 (k + 1) a.a_parts_of_all a.d_parts_of_all p_parts_of_all (spPartsAllX K) := by
  refine T.f_parts_of_all.F.ok sc_parts_of_all (fun vs H Q E h => ?_) (fun cdv A outer s H vs Q E hr h => ?_)
  · obtain ⟨l, ss, ps, rfl, _⟩ := h
    rfl
  obtain ⟨l, ss, ps, rfl, hl, hp, hsh, hz, q⟩ := h
  refine ⟨_, (pss_cons (ps_setA 1 sc_parts_of_all.nd (pe_lst pa_nil))
      (pss_cons (ps_for PassesOwn.never rfl (pi_list (pv 0)) (pg_name (i := 2) sc_parts_of_all.nd rfl (Or.inl rfl)) (pss_one (ps_expr (pe_bm PySem.F.plainAttrs_list PySem.F.slot_list_extend PySem.F.type_list_extend mt_extendT (pv 1) (pa_cons (pe_callD G_parts_of hr T.f_parts_of (pa_cons (pv 2) pa_nil)) pa_nil)))))
      (pss_one (ps_ret (pv 1))))), ?_⟩
  have pl := pd_len hp
  refine ⟨by show 0 ≤ sizeLine; decide, fun f hf => ?_⟩
  have g0 := Same.new hf (.lst [])
  refine ⟨_, rfl, l, rfl, ⟨_, g0.seq hl⟩, ?_⟩
  refine for_list (xs := ps.map V.ref) (fun i σ H' => ∃ (qs : List Addr) (f1 : Option V), Same H H' ∧ H' f = some (.lst (qs.map V.ref)) ∧ Paired (fun t p => IsT H' t (.ref p)) ((ss.take i).flatMap pts) qs ∧ qs.length ≤ 2 * i ∧ i ≤ ss.length ∧ σ = [some (.ref l), some (.ref f), f1])
    ⟨[], _, g0, upd_same, .nil, by simp, Nat.zero_le _, rfl⟩ ?_ ?_ ?_
  · rintro i σ H' _ ⟨qs, f1, g, _⟩
    exact g.seq hl
  · rintro i x σ H' hx ⟨qs, f1, g, hf', hqs, lq, li, rfl⟩
    rw [List.getElem?_map] at hx
    cases ho : ps[i]? with
    | none => rw [ho] at hx; cases hx
    | some p =>
      rw [ho] at hx
      cases hx
      obtain ⟨sn, hsn, isp0⟩ := pd_ta hp ho
      have isp := isp0.mono (Tups.of g)
      have hlt := (List.getElem?_eq_some_iff.mp hsn).1
      obtain ⟨x, m, n, r, ei, el, lr, _, tu, ep⟩ := shp_cut (List.all_eq_true.mp hsh sn (List.mem_of_getElem? hsn))
      obtain ⟨hs, m1, n2⟩ := lk_some el
      obtain ⟨vs, c1, c2⟩ := isp.cut
      rw [ei] at c2
      cases c2 with
      | @cons _ v0 _ us h0 c2 =>
      cases h0
      have lu := pd_len c2
      obtain ⟨zs, ez, pz⟩ := pd_refs (pdDrop m c2) tu
      have lz := pd_len pz
      rw [List.length_drop] at lz
      refine ⟨_, rfl, .inl ⟨rfl, _, SqL.of hf'⟩, _, rfl, p, x, m, n, us, rfl, c1, hs, by omega, fun b hb => ?_⟩
      rw [ez]
      have nfb : f ≠ b := ne_of_none hf' hb
      have hf2 : (upd H' b (.tup (zs.map V.ref))) f = some (.lst (qs.map V.ref)) := by rw [upd_ne nfb]; exact hf'
      refine ⟨f, b, qs.map V.ref, zs.map V.ref, rfl, rfl, hf2, ?_, ?_, ?_⟩
      · exact SqT.of upd_same
      · rw [List.length_map, List.length_map]
        exact Nat.le_of_lt (small1000 (by omega))
      · refine ⟨qs ++ zs, _, (g.trans (Same.new hb _)).over hf _, by rw [upd_same, List.map_append], ?_, ?_, hlt, rfl⟩
        · rw [take_next hsn, List.flatMap_append, List.flatMap_singleton, ep]
          have t1 : Tups H' (upd (upd H' b (.tup (zs.map V.ref))) f (.lst (qs.map V.ref ++ zs.map V.ref))) := (Tups.new hb _).trans (Tups.lst hf2 _)
          exact pd_app (pd_imp (fun _ _ z => z.mono t1) hqs) (pd_imp (fun _ _ z => z.mono t1) pz)
        · rw [List.length_append]; omega
  · rintro σ H' ⟨qs, f1, g, hf', hqs, lq, li, rfl⟩
    rw [List.length_map, ← pl, List.take_length] at hqs
    exact ⟨_, rfl, q f H' qs g hf hf' hqs⟩
theorem ok_is_sentenceX (T : Txt P w K mg a) (G_is_shaped : FnOk P w K mg base CX0 k a.a_is_shaped a.d_is_shaped p_is_shaped spShapedX) (G_parts_of_all : FnOk P w K mg base CX0 k a.a_parts_of_all a.d_parts_of_all p_parts_of_all (spPartsAllX K)) :
    FnOk P w K mg base CX0 (k + 1) a.a_is_sentence a.d_is_sentence p_is_sentence spIsSenX := by
  refine T.f_is_sentence.F.ok sc_is_sentence (fun vs H Q E h => ?_) (fun cdv A outer s H vs Q E hr h => ?_)
  · obtain ⟨p, t, rfl, _⟩ := h
    rfl
  obtain ⟨p, t0, rfl, ht, q⟩ := h
  refine ⟨_, (pss_cons (ps_setA 1 sc_is_sentence.nd (pe_lst (pa_cons (pv 0) pa_nil)))
      (pss_cons (ps_setA 2 sc_is_sentence.nd pe_int)
      (pss_cons (ps_setA 3 sc_is_sentence.nd pe_int)
      (pss_cons (ps_while PassesOwn.never (pt_cmpR op_gt (pe_callB call_len_seq rfl T.n_len bt_len (pa_cons (pv 1) pa_nil)) pe_int (nomark _)) (pss_cons (ps_aug (i := 2) sc_is_sentence.nd rfl (Or.inl rfl) pe_int iop_add)
      (pss_cons (ps_aug (i := 3) sc_is_sentence.nd rfl (Or.inl rfl) (pe_callB call_len_seq rfl T.n_len bt_len (pa_cons (pv 1) pa_nil)) iop_add)
      (pss_cons (ps_if (PW.pt (pw_or (pt_cmpR op_gt (pv 2) (pe_glob (v := .int 24) rfl T.m_MOST_DEEP ⟨_, rfl⟩) (nomark _)) (pw_or1 (pt_cmpR op_gt (pv 3) (pe_glob (v := .int 200) rfl T.m_MOST_TUPLES ⟨_, rfl⟩) (nomark _))))) (pss_one (ps_ret pe_bl)) pss_nil)
      (pss_cons (ps_if (pt_not (pt_truth (pe_callB (call_all rfl) rfl T.n_all bt_all (pa_cons (pe_lc0 (osc := defScope S_is_sentence) (js := []) rfl (by show LcOk _ _ "part" []; exact lco (by decide +kernel)) rfl (pi_list (pv 1)) (by show ∀ j ∈ ([] : List Nat), j < 4; decide) (fun cl C s₂ H₂ fp => (pe_callD G_is_shaped hr T.f_is_shaped (pa_cons (pv 0) pa_nil)))) pa_nil)) (fun _ => rfl))) (pss_one (ps_ret pe_bl)) pss_nil)
      (pss_one (ps_setA 1 sc_is_sentence.nd (pe_callD G_parts_of_all hr T.f_parts_of_all (pa_cons (pv 1) pa_nil)))))))))
      (pss_one (ps_ret pe_bl)))))), ?_⟩
  refine ⟨_, rfl, by show 1 ≤ sizeLine; decide, fun l0 hl0 => ?_⟩
  have g0 := Same.new hl0 (.lst [.ref p])
  refine ⟨fun m σ H' => ∃ (ss : List Tr) (ps : List Addr) (l : Addr) (d t : Nat), d + m = 24 ∧ Same H H' ∧ H' l = some (.lst (ps.map V.ref)) ∧ Paired (fun t p => IsT H' t (.ref p)) ss ps ∧ lev m t ss = lev 24 0 [t0] ∧ σ = [some (.ref p), some (.ref l), some (.int d), some (.int t)],
    ⟨24, [t0], [p], l0, 0, 0, rfl, g0, upd_same, .cons (ht.mono (Tups.of g0)) .nil, rfl, rfl⟩, ?_⟩
  rintro m σ H' ⟨ss, ps, l, d, t, hdm, g, hl, hp, hlv, rfl⟩
  have lp := pd_len hp
  have le : (ps.map V.ref).length = ss.length := by rw [List.length_map]; exact lp.symm
  rw [← hlv] at q
  refine ⟨_, rfl, l, _, rfl, .inl (SqL.of hl), _, _, rfl, rfl, _, rfl, ite2 (fun c => ?_) (fun c => ?_)⟩
  · have c' : 0 < ss.length := by have := of_decide_eq_true c; rw [le] at this; omega
    have ne : ss.isEmpty = false := by cases ss with | nil => exact absurd c' (Nat.lt_irrefl _) | cons _ _ => rfl
    refine ⟨_, fun σ' H2 h => h, ?_⟩
    refine ⟨_, rfl, (d : Int), 1, rfl, rfl, ?_⟩
    refine ⟨_, rfl, _, rfl, l, _, rfl, .inl (SqL.of hl), (t : Int), _, rfl, rfl, ?_⟩
    refine ⟨_, rfl, _, _, rfl, rfl, _, rfl, ite2 (fun c2 => ?_) (fun c2 => ?_)⟩
    · have := of_decide_eq_true c2
      have m0 : m = 0 := by omega
      subst m0
      have z : lev 0 t ss = false := ne
      rw [z] at q
      exact q _ g
    have d24 : ¬ (24 : Int) < (d : Int) + 1 := fun z => c2 (decide_eq_true z)
    obtain ⟨m, rfl⟩ : ∃ m', m = m' + 1 := ⟨m - 1, by omega⟩
    have ev : lev (m + 1) t ss = (decide (t + ss.length ≤ 200) && ss.all shp && lev m (t + ss.length) (ss.flatMap pts)) := by
      show (ss.isEmpty || _) = _
      rw [ne, Bool.false_or]
    refine ⟨_, rfl, _, _, rfl, rfl, _, rfl, ite2 (fun c3 => ?_) (fun c3 => ?_)⟩
    · have := of_decide_eq_true c3
      rw [le] at this
      rw [ev, decide_eq_false (by omega)] at q
      exact q _ g
    have t200 : t + ss.length ≤ 200 := by
      have z : ¬ (200 : Int) < (t : Int) + ((ps.map V.ref).length : Nat) := fun z => c3 (decide_eq_true z)
      rw [le] at z
      omega
    rw [decide_eq_true t200, Bool.true_and] at ev
    refine ⟨_, rfl, l, rfl, ⟨_, SqL.of hl⟩, lc_list (xs := ps.map V.ref) (fun i ys H2 => Same H' H2 ∧ ys = ((ss.take i).map shp).map V.bl) ⟨Same.refl _, rfl⟩ (by rw [le]; exact Nat.le_of_lt (small1000 (by omega))) ?_ ?_ (fun _ _ _ _ h q => h _ _ q) (mono1 mono_shapedX) ?_⟩
    · rintro i ys H2 hi ⟨g2, rfl⟩
      rw [List.length_map, List.length_map, List.length_take]
      exact ⟨g2.seq (SqL.of hl), by omega⟩
    · rintro i x ys H2 hx ⟨g2, rfl⟩
      rw [List.getElem?_map] at hx
      cases ho : ps[i]? with
      | none => rw [ho] at hx; cases hx
      | some y =>
        rw [ho] at hx
        cases hx
        obtain ⟨sy, hsy, iy⟩ := pd_ta hp ho
        refine ⟨_, rfl, y, sy, rfl, iy.mono (Tups.of g2), fun H3 g3 => ⟨g2.trans g3, ?_⟩⟩
        rw [take_next hsy, List.map_append, List.map_append]
        rfl
    rintro ys H2 p2 ⟨g2, rfl⟩ hp2
    have g3 := Same.new hp2 (.lst (((ss.take (ps.map V.ref).length).map shp).map V.bl))
    have ea : ((ss.take (ps.map V.ref).length).map shp).all id = ss.all shp := by rw [le, List.take_length, List.all_map]; rfl
    have gg := g2.trans g3
    refine ⟨p2, _, rfl, SqL.of upd_same, _, rfl, ?_⟩
    rw [ea]
    cases hs : ss.all shp with
    | false =>
      refine iteT ?_
      rw [ev, hs] at q
      exact q _ (g.trans gg)
    | true =>
    refine iteF ?_
    rw [hs, Bool.true_and] at ev
    refine ⟨_, rfl, l, ss, ps, rfl, gg.seq (SqL.of hl), pd_imp (fun _ _ z => z.mono (Tups.of gg)) hp, hs, by omega, fun l' H4 ps' g4 hn hl' hp' => ?_⟩
    refine ⟨m, Nat.lt_succ_self _, ss.flatMap pts, ps', l', d + 1, t + (ps.map V.ref).length, by omega, (g.trans gg).trans g4, hl', hp', ?_, rfl⟩
    rw [le, ← ev]
    exact hlv
  · have e0 : ss = [] := by
      have z : ¬ (0 : Int) < ((ps.map V.ref).length : Nat) := fun z => c (decide_eq_true z)
      rw [le] at z
      exact List.length_eq_zero_iff.mp (by omega)
    subst e0
    have z : lev m t [] = true := by cases m <;> rfl
    rw [z] at q
    exact q _ g
end
end K01
namespace K01
open PySem L2 Sen
section
variable {P : Program} {w : World} {K : PySem.W.Frag} {mg : Str → Option Value} {base : Heap} {a : Ad} {k : Nat}
theorem ok_is_order (T : Txt P w K mg a) (G_is_mark : FnOk P w K mg base CX0 k a.a_is_mark a.d_is_mark p_is_mark spIsMark) : FnOk P w K mg base CX0 (k + 1) a.a_is_order a.d_is_order p_is_order (spIsOrder K) := by
  refine T.f_is_order.F.ok sc_is_order (fun vs H Q E h => ?_) (fun cdv A outer s H vs Q E hr h => ?_)
  · obtain ⟨l, os, rfl, _⟩ := h
    rfl
  obtain ⟨l, os, rfl, hq, h100, q⟩ := h
  refine ⟨_, (pss_one (ps_ret (pe_and (pe_cmpR op_gt (pe_callB call_len_seq rfl T.n_len bt_len (pa_cons (pv 0) pa_nil)) pe_int (nomark _)) (pe_and (pe_callB (call_all rfl) rfl T.n_all bt_all (pa_cons (pe_lc0 (osc := defScope S_is_order) (js := []) rfl (by show LcOk _ _ "letter" []; exact lco (by decide +kernel)) rfl (pi_list (pv 0)) (by show ∀ j ∈ ([] : List Nat), j < 1; decide) (fun cl C s₂ H₂ fp => (pe_callD G_is_mark hr T.f_is_mark (pa_cons (pv 0) pa_nil)))) pa_nil)) (pe_one (pe_cmpR op_eq (pe_callB call_len_set' rfl T.n_len bt_len (pa_cons (pe_callTy (call_set rfl) rfl T.n_set bt_set (pa_cons (pv 0) pa_nil)) pa_nil)) (pe_callB call_len_seq rfl T.n_len bt_len (pa_cons (pv 0) pa_nil)) (nomark _))))))), ?_⟩
  have hlen : (os.map V.str).length = os.length := List.length_map _
  refine ⟨_, rfl, l, _, rfl, .inl hq, _, _, rfl, rfl, _, rfl, ite2 (fun c => ?_) (fun c => ?_)⟩
  · have c' : 0 < os.length := by have := of_decide_eq_true c; rw [hlen] at this; omega
    refine ⟨_, rfl, l, rfl, ⟨_, hq⟩, lc_relL (fun x v => v = (match x with | .str y => .bl (decide (y ∈ letts)) | _ => .non)) hq (by rw [hlen]; exact Nat.le_of_lt (small1000 (by omega))) ?_ (mono1 mono_isMark) ?_⟩
    · intro i x H' hx g
      rw [List.getElem?_map] at hx
      cases ho : os[i]? with
      | none => rw [ho] at hx; cases hx
      | some y =>
        rw [ho] at hx
        cases hx
        exact ⟨_, rfl, y, rfl, rfl, g⟩
    · intro ys H' p hr' g hp
      have e := pd_map (f := fun x => match x with | .str y => .bl (decide (y ∈ letts)) | _ => .non) hr'
      rw [List.map_map] at e
      have e2 : ys = (os.map fun y => decide (y ∈ letts)).map V.bl := by rw [e, List.map_map]; rfl
      subst e2
      have g1 := Same.new hp (.lst ((os.map fun y => decide (y ∈ letts)).map V.bl))
      refine ⟨p, _, rfl, SqL.of upd_same, _, rfl, ite2 (fun c2 => ?_) (fun c2 => ?_)⟩
      · have hq2 := (g.trans g1).seq hq
        refine ⟨_, rfl, l, os, rfl, hq2, h100, fun z hz => ⟨z, _, rfl, upd_same, ?_⟩⟩
        have g2 := Same.new hz (SetN P w z (dd os).length)
        refine ⟨_, rfl, l, _, rfl, .inl (g2.seq hq2), rfl, ?_⟩
        have e3 : decide (V.int ((dd os).length : Nat) = V.int ((os.map V.str).length : Nat)) = ordB os := by
          unfold ordB
          have c2' : os.all (fun x => decide (x ∈ letts)) = true := by rw [List.all_map] at c2; exact c2
          rw [decide_eq_true c', c2', hlen]
          by_cases nd : os.Nodup
          · rw [decide_eq_true nd, dd_nodup nd]; simp
          · have := dd_dup nd
            rw [decide_eq_false nd, decide_eq_false (fun z => by injection z with z; omega)]; rfl
        rw [e3]
        exact q _ ((g.trans g1).trans g2)
      · have e4 : ordB os = false := by
          unfold ordB
          have c2' : os.all (fun x => decide (x ∈ letts)) = false := by
            rw [List.all_map] at c2
            exact Bool.eq_false_iff.mpr c2
          rw [c2', Bool.false_and, Bool.and_false]
        rw [← e4]
        exact q _ (g.trans g1)
  · have e4 : ordB os = false := by
      unfold ordB
      rw [decide_eq_false (fun z => c (decide_eq_true (by rw [hlen]; omega))), Bool.false_and]
    rw [← e4]
    exact q _ (Same.refl _)
theorem ok_parts_of_all (T : Txt P w K mg a) (G_parts_of : FnOk P w K mg base CX0 k a.a_parts_of a.d_parts_of p_parts_of spPartsOf) : FnOk P w K mg base CX0 (k + 1) a.a_parts_of_all a.d_parts_of_all p_parts_of_all (spPartsOfAll K) := by
  refine T.f_parts_of_all.F.ok sc_parts_of_all (fun vs H Q E h => ?_) (fun cdv A outer s H vs Q E hr h => ?_)
  · obtain ⟨l, ss, ps, rfl, _⟩ := h
    rfl
  obtain ⟨l, ss, ps, rfl, hl, hp, hz, q⟩ := h
  refine ⟨_, (pss_cons (ps_setA 1 sc_parts_of_all.nd (pe_lst pa_nil))
      (pss_cons (ps_for PassesOwn.never rfl (pi_list (pv 0)) (pg_name (i := 2) sc_parts_of_all.nd rfl (Or.inl rfl)) (pss_one (ps_expr (pe_bm PySem.F.plainAttrs_list PySem.F.slot_list_extend PySem.F.type_list_extend mt_extendT (pv 1) (pa_cons (pe_callD G_parts_of hr T.f_parts_of (pa_cons (pv 2) pa_nil)) pa_nil)))))
      (pss_one (ps_ret (pv 1))))), ?_⟩
  have pl := pd_len hp
  refine ⟨by show 0 ≤ sizeLine; decide, fun f hf => ?_⟩
  have g0 := Same.new hf (.lst [])
  refine ⟨_, rfl, l, rfl, ⟨_, g0.seq hl⟩, ?_⟩
  refine for_list (xs := ps.map V.ref) (fun i σ H' => ∃ (qs : List Addr) (f1 : Option V), Same H H' ∧ H' f = some (.lst (qs.map V.ref)) ∧ Paired (IsS H') ((ss.take i).flatMap Sn.parts) qs ∧ qs.length ≤ 2 * i ∧ i ≤ ss.length ∧ σ = [some (.ref l), some (.ref f), f1])
    ⟨[], _, g0, upd_same, .nil, by simp, Nat.zero_le _, rfl⟩ ?_ ?_ ?_
  · rintro i σ H' _ ⟨qs, f1, g, _⟩
    exact g.seq hl
  · rintro i x σ H' hx ⟨qs, f1, g, hf', hqs, lq, li, rfl⟩
    rw [List.getElem?_map] at hx
    cases ho : ps[i]? with
    | none => rw [ho] at hx; cases hx
    | some p =>
      rw [ho] at hx
      cases hx
      obtain ⟨sn, hsn, isp⟩ := pd_ta hp ho
      have hlt := (List.getElem?_eq_some_iff.mp hsn).1
      obtain ⟨zs, c1, c2, c3, c4, c5⟩ := sen_cut (isp.mono (Tups.of g))
      have lz := pd_len c2
      have lp2 := Sn.parts_le sn
      refine ⟨_, rfl, .inl ⟨rfl, _, SqL.of hf'⟩, _, rfl, p, sn.word, sn.letters.length, sn.parts.length, _, rfl, c1, shape_in sn, c3, fun b hb => ?_⟩
      rw [c5]
      have nfb : f ≠ b := ne_of_none hf' hb
      have hf2 : (upd H' b (.tup (zs.map V.ref))) f = some (.lst (qs.map V.ref)) := by rw [upd_ne nfb]; exact hf'
      refine ⟨f, b, qs.map V.ref, zs.map V.ref, rfl, rfl, hf2, ?_, ?_, ?_⟩
      · exact SqT.of upd_same
      · rw [List.length_map, List.length_map]
        exact Nat.le_of_lt (small1000 (by omega))
      · refine ⟨qs ++ zs, _, (g.trans (Same.new hb _)).over hf _, by rw [upd_same, List.map_append], ?_, ?_, hlt, rfl⟩
        · rw [take_next hsn, List.flatMap_append, List.flatMap_singleton]
          have t1 : Tups H' (upd (upd H' b (.tup (zs.map V.ref))) f (.lst (qs.map V.ref ++ zs.map V.ref))) := (Tups.new hb _).trans (Tups.lst hf2 _)
          exact pd_app (pd_imp (fun _ _ z => z.mono t1) hqs) (pd_imp (fun _ _ z => z.mono t1) c2)
        · rw [List.length_append]; omega
  · rintro σ H' ⟨qs, f1, g, hf', hqs, lq, li, rfl⟩
    rw [List.length_map, ← pl, List.take_length] at hqs
    exact ⟨_, rfl, q f H' qs g hf hf' hqs⟩
theorem ok_is_shaped (T : Txt P w K mg a) (G_is_mark : FnOk P w K mg base CX0 k a.a_is_mark a.d_is_mark p_is_mark spIsMark) (G_letters_of : FnOk P w K mg base CX0 k a.a_letters_of a.d_letters_of p_letters_of spLettersOf) (G_parts_of : FnOk P w K mg base CX0 k a.a_parts_of a.d_parts_of p_parts_of spPartsOf) :
    FnOk P w K mg base CX0 (k + 1) a.a_is_shaped a.d_is_shaped p_is_shaped spShaped := by
  refine T.f_is_shaped.F.ok sc_is_shaped (fun vs H Q E h => ?_) (fun cdv A outer s H vs Q E hr h => ?_)
  · obtain ⟨p, s, rfl, _⟩ := h
    rfl
  obtain ⟨p, sn, rfl, isp, hle, q⟩ := h
  refine ⟨_, (pss_cons (ps_if (PW.pt (pw_or (pt_cmpR op_eq (pe_callB call_len_seq rfl T.n_len bt_len (pa_cons (pv 0) pa_nil)) pe_int (nomark _)) (pw_or (pt_not (pt_truth (pe_callB call_isinst rfl T.n_isinstance bt_isinstance (pa_cons (pe_ix ix_tup (pv 0) pe_int (fun _ _ => rfl)) (pa_cons (pe_bltn (v := .ty "str") rfl T.n_str bt_str rfl) pa_nil))) (fun _ => rfl))) (pw_or1 (pt_cmpR (op_notIn_dicK T.h_SHAPES.d) (pe_ix ix_tup (pv 0) pe_int (fun _ _ => rfl)) (pe_glob (v := .ref a.a_SHAPES) rfl T.m_SHAPES rfl) (by with_unfolding_all rfl)))))) (pss_one (ps_ret pe_bl)) pss_nil)
      (pss_cons (ps_setA 1 sc_is_shaped.nd (pe_ix (ix_dicK T.h_SHAPES.d) (pe_glob (v := .ref a.a_SHAPES) rfl T.m_SHAPES rfl) (pe_ix ix_tup (pv 0) pe_int (fun _ _ => rfl)) (fun _ _ => rfl)))
      (pss_cons (ps_if (pt_cmpR op_ne (pe_callB call_len_seq rfl T.n_len bt_len (pa_cons (pv 0) pa_nil)) (pe_op op_add (pe_op op_add pe_int (pe_ix ix_tup (pv 1) pe_int (fun _ _ => rfl))) (pe_ix ix_tup (pv 1) pe_int (fun _ _ => rfl))) (nomark _)) (pss_one (ps_ret pe_bl)) pss_nil)
      (pss_cons (ps_if (pt_not (pt_truth (pe_callB (call_all rfl) rfl T.n_all bt_all (pa_cons (pe_lc0 (osc := defScope S_is_shaped) (js := []) rfl (by show LcOk _ _ "letter" []; exact lco (by decide +kernel)) rfl (pi_tup (pe_callD G_letters_of hr T.f_letters_of (pa_cons (pv 0) pa_nil))) (by show ∀ j ∈ ([] : List Nat), j < 2; decide) (fun cl C s₂ H₂ fp => (pe_callD G_is_mark hr T.f_is_mark (pa_cons (pv 0) pa_nil)))) pa_nil)) (fun _ => rfl))) (pss_one (ps_ret pe_bl)) pss_nil)
      (pss_one (ps_ret (pe_callB (call_all rfl) rfl T.n_all bt_all (pa_cons (pe_lc0 (osc := defScope S_is_shaped) (js := []) rfl (by show LcOk _ _ "part" []; exact lco (by decide +kernel)) rfl (pi_tup (pe_callD G_parts_of hr T.f_parts_of (pa_cons (pv 0) pa_nil))) (by show ∀ j ∈ ([] : List Nat), j < 2; decide) (fun cl C s₂ H₂ fp => (pe_callB (call_isinstK (K := K) rfl) rfl T.n_isinstance bt_isinstance (pa_cons (pv 0) (pa_cons (pe_bltn (v := .ty "tuple") rfl T.n_tuple bt_tuple rfl) pa_nil))))) pa_nil)))))))), ?_⟩
  obtain ⟨zs, c1, c2, c3, c4, c5⟩ := sen_cut isp
  have lz := pd_len c2
  obtain ⟨pt, hv, hpt⟩ := T.h_SHAPES.y _ _ _ (shape_in sn)
  have lp2 := Sn.parts_le sn
  have ll1 := Sn.letters_le sn
  refine ⟨_, rfl, p, _, rfl, .inr (SqT.of c1), rfl, _, rfl, ite2 (fun c => ?_) (fun _ => ?_)⟩
  · exfalso
    have := of_decide_eq_true c
    injection this with this
    rw [List.length_cons] at this
    omega
  refine ⟨_, rfl, p, _, 0, _, rfl, rfl, SqT.of c1, at0, _, _, _, true, rfl, .str sn.word, rfl, _, rfl, iteF ?_⟩
  refine ⟨_, rfl, p, _, 0, _, rfl, rfl, SqT.of c1, at0, sn.word, rfl, rfl, _, rfl, ?_⟩
  rw [hv]
  refine iteF ?_
  refine ⟨_, rfl, p, _, 0, _, rfl, rfl, SqT.of c1, at0, sn.word, .ref pt, .ref pt, rfl, rfl, hv, rfl, ?_⟩
  refine ⟨_, rfl, p, _, rfl, .inr (SqT.of c1), _, rfl, pt, _, 0, _, rfl, rfl, hpt H, at0, 1, _, rfl, rfl, _, rfl, pt, _, 1, _, rfl, rfl, hpt H, at1, _, _, rfl, rfl, rfl, _, rfl, ite2 (fun c => ?_) (fun _ => ?_)⟩
  · exfalso
    have z : V.int ((VC sn zs).length : Nat) = V.int (1 + ((sn.letters.length : Nat) : Int) + ((sn.parts.length : Nat) : Int)) := by
      congr 1
      show (((V.str sn.word :: (sn.letters.map V.str ++ zs.map V.ref)).length : Nat) : Int) = _
      rw [List.length_cons, c3]
      omega
    have c' : (!decide (V.int ((VC sn zs).length : Nat) = V.int (1 + ((sn.letters.length : Nat) : Int) + ((sn.parts.length : Nat) : Int)))) = true := c
    rw [decide_eq_true z] at c'
    cases c'
  refine ⟨_, rfl, p, sn.word, sn.letters.length, sn.parts.length, _, rfl, c1, shape_in sn, c3, fun b hb => ?_⟩
  rw [c4]
  have g1 := Same.new hb (.tup (sn.letters.map V.str))
  refine ⟨b, rfl, ⟨_, SqT.of upd_same⟩, lc_relT (xs := sn.letters.map V.str) (fun _ v => v = .bl true) (SqT.of upd_same) (by rw [List.length_map]; exact Nat.le_of_lt (small1000 (by omega))) ?_ (mono1 mono_isMark) ?_⟩
  · intro i x H' hx g
    rw [List.getElem?_map] at hx
    cases ho : sn.letters[i]? with
    | none => rw [ho] at hx; cases hx
    | some y =>
      rw [ho] at hx
      cases hx
      refine ⟨_, rfl, y, rfl, ?_, g⟩
      rw [decide_eq_true (hle y (List.mem_of_getElem? ho))]
  intro ys H' p2 hr' g hp2
  have e := pd_map (f := fun _ => .bl true) hr'
  have e2 : ys = (sn.letters.map fun _ => true).map V.bl := by rw [e, List.map_map, List.map_map]; rfl
  subst e2
  have g2 := Same.new hp2 (.lst ((sn.letters.map fun _ => true).map V.bl))
  have ea : (sn.letters.map fun _ => true).all id = true := by rw [List.all_map, List.all_eq_true]; exact fun _ _ => rfl
  refine ⟨p2, _, rfl, SqL.of upd_same, _, rfl, ?_⟩
  rw [ea]
  refine iteF ?_
  have gg := (g1.trans g).trans g2
  have c1' := gg _ _ c1
  refine ⟨_, rfl, p, sn.word, sn.letters.length, sn.parts.length, _, rfl, c1', shape_in sn, c3, fun b3 hb3 => ?_⟩
  rw [c5]
  have g3 := Same.new hb3 (.tup (zs.map V.ref))
  refine ⟨b3, rfl, ⟨_, SqT.of upd_same⟩, lc_relT (xs := zs.map V.ref) (fun _ v => v = .bl true) (SqT.of upd_same) (by rw [List.length_map]; exact Nat.le_of_lt (small1000 (by omega))) ?_ ?_ ?_⟩
  · intro i x H4 hx g4
    rw [List.getElem?_map] at hx
    cases ho : zs[i]? with
    | none => rw [ho] at hx; cases hx
    | some y =>
      rw [ho] at hx
      cases hx
      obtain ⟨sy, _, iy⟩ := pd_ta c2 ho
      obtain ⟨ws, d1, _⟩ := sen_cut iy
      have d1' := ((gg.trans g3).trans g4) _ _ d1
      exact ⟨_, rfl, _, _, _, true, rfl, .tup d1', rfl, rfl, g4⟩
  · rintro σ' H' Q1 Q2 hQ ⟨v, e, x, T', t, b', h1, h2, h3, h4⟩
    exact ⟨v, e, x, T', t, b', h1, h2, h3, hQ _ _ h4⟩
  · intro ys H4 p4 hr4 g4 hp4
    have e := pd_map (f := fun _ => .bl true) hr4
    have e2 : ys = (zs.map fun _ => true).map V.bl := by rw [e, List.map_map, List.map_map]; rfl
    subst e2
    have ea : (zs.map fun _ => true).all id = true := by rw [List.all_map, List.all_eq_true]; exact fun _ _ => rfl
    refine ⟨p4, _, rfl, SqL.of upd_same, ?_⟩
    rw [ea]
    exact q _ (((gg.trans g3).trans g4).trans (Same.new hp4 _))
theorem ok_is_sentence (T : Txt P w K mg a) (G_is_shaped : FnOk P w K mg base CX0 k a.a_is_shaped a.d_is_shaped p_is_shaped spShaped) (G_parts_of_all : FnOk P w K mg base CX0 k a.a_parts_of_all a.d_parts_of_all p_parts_of_all (spPartsOfAll K)) :
    FnOk P w K mg base CX0 (k + 1) a.a_is_sentence a.d_is_sentence p_is_sentence spIsSen := by
  refine T.f_is_sentence.F.ok sc_is_sentence (fun vs H Q E h => ?_) (fun cdv A outer s H vs Q E hr h => ?_)
  · obtain ⟨p, s, rfl, _⟩ := h
    rfl
  obtain ⟨p, sn, rfl, isp, hin, hc, hd, q⟩ := h
  refine ⟨_, (pss_cons (ps_setA 1 sc_is_sentence.nd (pe_lst (pa_cons (pv 0) pa_nil)))
      (pss_cons (ps_setA 2 sc_is_sentence.nd pe_int)
      (pss_cons (ps_setA 3 sc_is_sentence.nd pe_int)
      (pss_cons (ps_while PassesOwn.never (pt_cmpR op_gt (pe_callB call_len_seq rfl T.n_len bt_len (pa_cons (pv 1) pa_nil)) pe_int (nomark _)) (pss_cons (ps_aug (i := 2) sc_is_sentence.nd rfl (Or.inl rfl) pe_int iop_add)
      (pss_cons (ps_aug (i := 3) sc_is_sentence.nd rfl (Or.inl rfl) (pe_callB call_len_seq rfl T.n_len bt_len (pa_cons (pv 1) pa_nil)) iop_add)
      (pss_cons (ps_if (PW.pt (pw_or (pt_cmpR op_gt (pv 2) (pe_glob (v := .int 24) rfl T.m_MOST_DEEP ⟨_, rfl⟩) (nomark _)) (pw_or1 (pt_cmpR op_gt (pv 3) (pe_glob (v := .int 200) rfl T.m_MOST_TUPLES ⟨_, rfl⟩) (nomark _))))) (pss_one (ps_ret pe_bl)) pss_nil)
      (pss_cons (ps_if (pt_not (pt_truth (pe_callB (call_all rfl) rfl T.n_all bt_all (pa_cons (pe_lc0 (osc := defScope S_is_sentence) (js := []) rfl (by show LcOk _ _ "part" []; exact lco (by decide +kernel)) rfl (pi_list (pv 1)) (by show ∀ j ∈ ([] : List Nat), j < 4; decide) (fun cl C s₂ H₂ fp => (pe_callD G_is_shaped hr T.f_is_shaped (pa_cons (pv 0) pa_nil)))) pa_nil)) (fun _ => rfl))) (pss_one (ps_ret pe_bl)) pss_nil)
      (pss_one (ps_setA 1 sc_is_sentence.nd (pe_callD G_parts_of_all hr T.f_parts_of_all (pa_cons (pv 1) pa_nil)))))))))
      (pss_one (ps_ret pe_bl)))))), ?_⟩
  refine ⟨_, rfl, by show 1 ≤ sizeLine; decide, fun l0 hl0 => ?_⟩
  have g0 := Same.new hl0 (.lst [.ref p])
  refine ⟨fun m σ H' => ∃ (ss : List Sn) (ps : List Addr) (l : Addr) (d t : Nat), m = cnt ss ∧ Same H H' ∧ H' l = some (.lst (ps.map V.ref)) ∧ Paired (IsS H') ss ps ∧ (∀ u ∈ ss, u.inO letts ∧ d + u.depth ≤ 24) ∧ t + cnt ss ≤ 200 ∧ σ = [some (.ref p), some (.ref l), some (.int d), some (.int t)],
    ⟨_, [sn], [p], l0, 0, 0, rfl, g0, upd_same, .cons (isp.mono (Tups.of g0)) .nil, ?_, ?_, rfl⟩, ?_⟩
  · intro u hu
    have e : u = sn := by simpa using hu
    subst e
    exact ⟨hin, by omega⟩
  · show 0 + (sn.count + 0) ≤ 200
    omega
  rintro m σ H' ⟨ss, ps, l, d, t, rfl, g, hl, hp, hi, ht, rfl⟩
  have lp := pd_len hp
  have le : (ps.map V.ref).length = ss.length := by rw [List.length_map]; exact lp.symm
  have cl := cnt_len ss
  refine ⟨_, rfl, l, _, rfl, .inl (SqL.of hl), _, _, rfl, rfl, _, rfl, ite2 (fun c => ?_) (fun c => ?_)⟩
  · have c' : 0 < ss.length := by have := of_decide_eq_true c; rw [le] at this; omega
    have hd1 : d + 1 ≤ 24 := by
      have hm : ss[0] ∈ ss := List.getElem_mem c'
      have := (hi _ hm).2
      have := Sn.depth_pos ss[0]
      omega
    refine ⟨_, fun σ' H2 h => h, ?_⟩
    refine ⟨_, rfl, (d : Int), 1, rfl, rfl, ?_⟩
    refine ⟨_, rfl, _, rfl, l, _, rfl, .inl (SqL.of hl), (t : Int), _, rfl, rfl, ?_⟩
    refine ⟨_, rfl, _, _, rfl, rfl, _, rfl, ite2 (fun c2 => ?_) (fun _ => ?_)⟩
    · exfalso
      have := of_decide_eq_true c2
      omega
    refine ⟨_, rfl, _, _, rfl, rfl, _, rfl, ite2 (fun c2 => ?_) (fun _ => ?_)⟩
    · exfalso
      have := of_decide_eq_true c2
      rw [le] at this
      omega
    refine ⟨_, rfl, l, rfl, ⟨_, SqL.of hl⟩, lc_relL (fun _ v => v = .bl true) (SqL.of hl) (by rw [le]; exact Nat.le_of_lt (small1000 (by omega))) ?_ (mono1 mono_shaped) ?_⟩
    · intro i x H2 hx g2
      rw [List.getElem?_map] at hx
      cases ho : ps[i]? with
      | none => rw [ho] at hx; cases hx
      | some y =>
        rw [ho] at hx
        cases hx
        obtain ⟨sy, hsy, iy⟩ := pd_ta hp ho
        exact ⟨_, rfl, y, sy, rfl, iy.mono (Tups.of g2), Sn.inO_letters sy (hi sy (List.mem_of_getElem? hsy)).1, fun H3 g3 => ⟨rfl, g2.trans g3⟩⟩
    intro ys H2 p2 hr' g2 hp2
    have e := pd_map (f := fun _ => .bl true) hr'
    have e2 : ys = (ps.map fun _ => true).map V.bl := by rw [e, List.map_map, List.map_map]; rfl
    subst e2
    have g3 := Same.new hp2 (.lst ((ps.map fun _ => true).map V.bl))
    have ea : (ps.map fun _ => true).all id = true := by rw [List.all_map, List.all_eq_true]; exact fun _ _ => rfl
    refine ⟨p2, _, rfl, SqL.of upd_same, _, rfl, ?_⟩
    rw [ea]
    refine iteF ?_
    have gg := g2.trans g3
    refine ⟨_, rfl, l, ss, ps, rfl, gg.seq (SqL.of hl), pd_imp (fun _ _ z => z.mono (Tups.of gg)) hp, by omega, fun l' H4 ps' g4 hn hl' hp' => ?_⟩
    have cp := cnt_parts ss
    refine ⟨cnt (ss.flatMap Sn.parts), by omega, ss.flatMap Sn.parts, ps', l', d + 1, t + (ps.map V.ref).length, rfl, (g.trans gg).trans g4, hl', hp', ?_, by omega, rfl⟩
    intro u hu
    obtain ⟨s', hs', hu'⟩ := mem_level.mp hu
    obtain ⟨i1, i2⟩ := hi s' hs'
    have := Sn.depth_parts s' u hu'
    exact ⟨Sn.inO_parts s' i1 u hu', by omega⟩
  · exact q _ g
theorem ok_must_be_sentence (T : Txt P w K mg a) (G_is_sentence : FnOk P w K mg base CX0 k a.a_is_sentence a.d_is_sentence p_is_sentence spIsSen) : FnOk P w K mg base CX0 (k + 1) a.a_must_be_sentence a.d_must_be_sentence p_must_be_sentence spMustSen := by
  refine T.f_must_be_sentence.F.ok sc_must_be_sentence (fun vs H Q E h => ?_) (fun cdv A outer s H vs Q E hr h => ?_)
  · obtain ⟨p, s, rfl, _⟩ := h
    rfl
  obtain ⟨p, sn, rfl, h1, h2, h3, h4, q⟩ := h
  refine ⟨_, (pss_one (ps_if (pt_not (pt_truth (pe_callD G_is_sentence hr T.f_is_sentence (pa_cons (pv 0) pa_nil)) (fun _ => rfl))) (pss_one ps_never) pss_nil)), ?_⟩
  exact ⟨_, rfl, p, sn, rfl, h1, h2, h3, h4, fun H' g => ⟨_, rfl, iteF (q H' g)⟩⟩
theorem ok_tuples_in (T : Txt P w K mg a) (G_parts_of_all : FnOk P w K mg base CX0 k a.a_parts_of_all a.d_parts_of_all p_parts_of_all (spPartsOfAll K)) : FnOk P w K mg base CX0 (k + 1) a.a_tuples_in a.d_tuples_in p_tuples_in spTuplesIn := by
  refine T.f_tuples_in.F.ok sc_tuples_in (fun vs H Q E h => ?_) (fun cdv A outer s H vs Q E hr h => ?_)
  · obtain ⟨p, s, rfl, _⟩ := h
    rfl
  obtain ⟨p, sn, rfl, isp, hc, q⟩ := h
  refine ⟨_, (pss_cons (ps_setA 1 sc_tuples_in.nd (pe_lst pa_nil))
      (pss_cons (ps_setA 2 sc_tuples_in.nd (pe_lst (pa_cons (pv 0) pa_nil)))
      (pss_cons (ps_while PassesOwn.never (pt_cmpR op_gt (pe_callB call_len_seq rfl T.n_len bt_len (pa_cons (pv 2) pa_nil)) pe_int (nomark _)) (pss_cons (ps_expr (pe_bm PySem.F.plainAttrs_list PySem.F.slot_list_extend PySem.F.type_list_extend mt_extend (pv 1) (pa_cons (pv 2) pa_nil)))
      (pss_one (ps_setA 2 sc_tuples_in.nd (pe_callD G_parts_of_all hr T.f_parts_of_all (pa_cons (pv 2) pa_nil))))))
      (pss_one (ps_ret (pv 1)))))), ?_⟩
  refine ⟨by show 0 ≤ sizeLine; decide, fun f hf => ?_⟩
  refine ⟨_, rfl, by show 1 ≤ sizeLine; decide, fun l0 hl0 => ?_⟩
  have g0 := (Same.new hf (.lst [])).trans (Same.new hl0 (.lst [.ref p]))
  have nfl : f ≠ l0 := ne_of_none upd_same hl0
  refine ⟨fun m σ H' => ∃ (ts ss : List Sn) (qs ps : List Addr) (l : Addr), m = cnt ss ∧ Same H H' ∧ H' f = some (.lst (qs.map V.ref)) ∧ H' l = some (.lst (ps.map V.ref)) ∧ f ≠ l ∧ Paired (IsS H') ts qs ∧ Paired (IsS H') ss ps ∧ ts.length + cnt ss = sn.count ∧
      (∀ x, ((∃ t ∈ ts, x ∈ t.letters) ∨ ∃ u ∈ ss, x ∈ u.all) ↔ x ∈ sn.all) ∧ σ = [some (.ref p), some (.ref f), some (.ref l)],
    ⟨_, [], [sn], [], [p], l0, rfl, g0, by rw [upd_ne nfl]; exact upd_same, upd_same, nfl, .nil, .cons (isp.mono (Tups.of g0)) .nil, ?_, ?_, rfl⟩, ?_⟩
  · show 0 + (sn.count + 0) = sn.count
    omega
  · intro x
    simp
  rintro m σ H' ⟨ts, ss, qs, ps, l, rfl, g, hf', hl, nfl, hts, hss, hcn, hle, rfl⟩
  have lt := pd_len hts
  have lp := pd_len hss
  have cl := cnt_len ss
  have le : (ps.map V.ref).length = ss.length := by rw [List.length_map]; exact lp.symm
  refine ⟨_, rfl, l, _, rfl, .inl (SqL.of hl), _, _, rfl, rfl, _, rfl, ite2 (fun c => ?_) (fun c => ?_)⟩
  · have c' : 0 < ss.length := by have := of_decide_eq_true c; rw [le] at this; omega
    refine ⟨_, fun σ' H2 h => h, ?_⟩
    refine ⟨_, rfl, .inl ⟨rfl, _, SqL.of hf'⟩, _, rfl, f, l, _, _, rfl, rfl, hf', hl, by rw [List.length_map, List.length_map]; exact Nat.le_of_lt (small1000 (by omega)), ?_⟩
    have t1 : Tups H' (upd H' f (.lst (qs.map V.ref ++ ps.map V.ref))) := Tups.lst hf' _
    have g1 : Same H (upd H' f (.lst (qs.map V.ref ++ ps.map V.ref))) := g.over hf _
    have hl1 : (upd H' f (.lst (qs.map V.ref ++ ps.map V.ref))) l = some (.lst (ps.map V.ref)) := by rw [upd_ne (Ne.symm nfl)]; exact hl
    refine ⟨_, rfl, l, ss, ps, rfl, SqL.of hl1, pd_imp (fun _ _ z => z.mono t1) hss, by omega, fun l' H3 ps' g3 hn hl' hp' => ?_⟩
    have cp := cnt_parts ss
    have t3 := t1.trans (Tups.of g3)
    refine ⟨cnt (ss.flatMap Sn.parts), by omega, ts ++ ss, ss.flatMap Sn.parts, qs ++ ps, ps', l', rfl, g1.trans g3, by rw [List.map_append]; exact g3 _ _ upd_same, hl', ne_of_none upd_same hn,
      pd_app (pd_imp (fun _ _ z => z.mono t3) hts) (pd_imp (fun _ _ z => z.mono t3) hss), hp', by rw [List.length_append]; omega, fun x => ?_, rfl⟩
    rw [← hle x]
    constructor
    · rintro (⟨t, ht, hx⟩ | ⟨u, hu, hx⟩)
      · rcases List.mem_append.mp ht with z | z
        · exact .inl ⟨t, z, hx⟩
        · exact .inr ⟨t, z, (Sn.all_iff t x).mpr (.inl hx)⟩
      · obtain ⟨s', hs', hu'⟩ := mem_level.mp hu
        exact .inr ⟨s', hs', (Sn.all_iff s' x).mpr (.inr ⟨u, hu', hx⟩)⟩
    · rintro (⟨t, ht, hx⟩ | ⟨u, hu, hx⟩)
      · exact .inl ⟨t, List.mem_append_left _ ht, hx⟩
      · rcases (Sn.all_iff u x).mp hx with z | ⟨v, hv, z⟩
        · exact .inl ⟨u, List.mem_append_right _ hu, z⟩
        · exact .inr ⟨v, mem_level.mpr ⟨u, hu, hv⟩, z⟩
  · have c' : ss = [] := by
      have : ¬ 0 < ss.length := fun z => c (decide_eq_true (by rw [le]; omega))
      exact List.length_eq_zero_iff.mp (by omega)
    subst c'
    refine ⟨_, rfl, q f H' ts qs g hf hf' hts ?_ fun x => ?_⟩
    · have : cnt [] = 0 := rfl
      omega
    · rw [← hle x]
      constructor
      · exact fun z => .inl z
      · rintro (z | ⟨u, hu, _⟩)
        · exact z
        · cases hu
theorem ok_letters_in (T : Txt P w K mg a) (G_tuples_in : FnOk P w K mg base CX0 k a.a_tuples_in a.d_tuples_in p_tuples_in spTuplesIn) (G_letters_of : FnOk P w K mg base CX0 k a.a_letters_of a.d_letters_of p_letters_of spLettersOf) : FnOk P w K mg base CX0 (k + 1) a.a_letters_in a.d_letters_in p_letters_in spLettersIn := by
  refine T.f_letters_in.F.ok sc_letters_in (fun vs H Q E h => ?_) (fun cdv A outer s H vs Q E hr h => ?_)
  · obtain ⟨p, s, rfl, _⟩ := h
    rfl
  obtain ⟨p, sn, rfl, isp, hc, q⟩ := h
  refine ⟨_, (pss_cons (ps_setA 1 sc_letters_in.nd (pe_lst pa_nil))
      (pss_cons (ps_for PassesOwn.never rfl (pi_list (pe_callD G_tuples_in hr T.f_tuples_in (pa_cons (pv 0) pa_nil))) (pg_name (i := 2) sc_letters_in.nd rfl (Or.inl rfl)) (pss_one (ps_expr (pe_bm PySem.F.plainAttrs_list PySem.F.slot_list_extend PySem.F.type_list_extend mt_extendT (pv 1) (pa_cons (pe_callD G_letters_of hr T.f_letters_of (pa_cons (pv 2) pa_nil)) pa_nil)))))
      (pss_one (ps_ret (pv 1))))), ?_⟩
  refine ⟨by show 0 ≤ sizeLine; decide, fun f hf => ?_⟩
  have g0 := Same.new hf (.lst [])
  refine ⟨_, rfl, p, sn, rfl, isp.mono (Tups.of g0), hc, fun l H1 ts ps g1 hn hl hts htl hle => ?_⟩
  have nfl : f ≠ l := ne_of_none upd_same hn
  have lt := pd_len hts
  refine ⟨l, rfl, ⟨_, SqL.of hl⟩, ?_⟩
  refine for_list (xs := ps.map V.ref) (fun i σ H' => ∃ (f1 : Option V), Same H H' ∧ H' f = some (.lst (((ts.take i).flatMap Sn.letters).map V.str)) ∧ H' l = some (.lst (ps.map V.ref)) ∧ Paired (IsS H') ts ps ∧ ((ts.take i).flatMap Sn.letters).length ≤ i ∧ i ≤ ts.length ∧ σ = [some (.ref p), some (.ref f), f1])
    ⟨_, g0.trans g1, g1 _ _ upd_same, hl, hts, by simp, Nat.zero_le _, rfl⟩ ?_ ?_ ?_
  · rintro i σ H' _ ⟨f1, g, hf', hl', _⟩
    exact SqL.of hl'
  · rintro i x σ H' hx ⟨f1, g, hf', hl', hts', lq, li, rfl⟩
    rw [List.getElem?_map] at hx
    cases ho : ps[i]? with
    | none => rw [ho] at hx; cases hx
    | some pp =>
      rw [ho] at hx
      cases hx
      obtain ⟨sy, hsy, iy⟩ := pd_ta hts' ho
      have hlt := (List.getElem?_eq_some_iff.mp hsy).1
      obtain ⟨zs, c1, c2, c3, c4, c5⟩ := sen_cut iy
      have l1 := Sn.letters_le sy
      refine ⟨_, rfl, .inl ⟨rfl, _, SqL.of hf'⟩, _, rfl, pp, sy.word, sy.letters.length, sy.parts.length, _, rfl, c1, shape_in sy, c3, fun b hb => ?_⟩
      rw [c4]
      have hf2 : (upd H' b (.tup (sy.letters.map V.str))) f = some (.lst (((ts.take i).flatMap Sn.letters).map V.str)) := by rw [upd_ne (ne_of_none hf' hb)]; exact hf'
      refine ⟨f, b, _, sy.letters.map V.str, rfl, rfl, hf2, SqT.of upd_same, ?_, ?_⟩
      · rw [List.length_map, List.length_map]
        exact Nat.le_of_lt (small1000 (by omega))
      · have t1 : Tups H' (upd (upd H' b (.tup (sy.letters.map V.str))) f (.lst (((ts.take i).flatMap Sn.letters).map V.str ++ sy.letters.map V.str))) := (Tups.new hb _).trans (Tups.lst hf2 _)
        have e : (ts.take (i + 1)).flatMap Sn.letters = (ts.take i).flatMap Sn.letters ++ sy.letters := by rw [take_next hsy, List.flatMap_append, List.flatMap_singleton]
        refine ⟨_, (g.trans (Same.new hb _)).over hf _, by rw [upd_same, e, List.map_append], ?_, pd_imp (fun _ _ z => z.mono t1) hts', by rw [e, List.length_append]; omega, hlt, rfl⟩
        rw [upd_ne (Ne.symm nfl), upd_ne (ne_of_none hl' hb)]
        exact hl'
  · rintro σ H' ⟨f1, g, hf', hl', hts', lq, li, rfl⟩
    rw [List.length_map, ← lt, List.take_length] at hf' lq
    refine ⟨_, rfl, q f H' _ g hf hf' (fun x => ?_) (by omega)⟩
    rw [← hle x, List.mem_flatMap]
theorem ok_words (T : Txt P w K mg a) (G_must_be_sentence : FnOk P w K mg base CX0 k a.a_must_be_sentence a.d_must_be_sentence p_must_be_sentence spMustSen) (G_tuples_in : FnOk P w K mg base CX0 k a.a_tuples_in a.d_tuples_in p_tuples_in spTuplesIn) : FnOk P w K mg base CX0 (k + 1) a.a_words a.d_words p_words spWordsN := by
  refine T.f_words.F.ok sc_words (fun vs H Q E h => ?_) (fun cdv A outer s H vs Q E hr h => ?_)
  · obtain ⟨p, sn, rfl, _⟩ := h
    rfl
  obtain ⟨p, sn, rfl, isp, hin, hc, hd, q⟩ := h
  refine ⟨_, (pss_cons (ps_expr (pe_callD G_must_be_sentence hr T.f_must_be_sentence (pa_cons (pv 0) pa_nil)))
      (pss_one (ps_ret (pe_callB call_len_seq rfl T.n_len bt_len (pa_cons (pe_callD G_tuples_in hr T.f_tuples_in (pa_cons (pv 0) pa_nil)) pa_nil))))), ?_⟩
  refine ⟨_, rfl, p, sn, rfl, isp, hin, hc, hd, fun H1 g1 => ⟨_, rfl, p, sn, rfl, isp.mono (Tups.of g1), by omega, fun l H2 ts ps g2 hn hl hts htl hle => ⟨l, _, rfl, .inl (SqL.of hl), ?_⟩⟩⟩
  rw [List.length_map, ← pd_len hts, htl]
  exact q _ (g1.trans g2)
theorem ok_marks_of (T : Txt P w K mg a) (G_must_be_sentence : FnOk P w K mg base CX0 k a.a_must_be_sentence a.d_must_be_sentence p_must_be_sentence spMustSen) (G_letters_in : FnOk P w K mg base CX0 k a.a_letters_in a.d_letters_in p_letters_in spLettersIn) : FnOk P w K mg base CX0 (k + 1) a.a_marks_of a.d_marks_of p_marks_of spMarksOf := by
  refine T.f_marks_of.F.ok sc_marks_of (fun vs H Q E h => ?_) (fun cdv A outer s H vs Q E hr h => ?_)
  · obtain ⟨p, sn, rfl, _⟩ := h
    rfl
  obtain ⟨p, sn, rfl, isp, hin, hc, hd, q⟩ := h
  refine ⟨_, (pss_cons (ps_expr (pe_callD G_must_be_sentence hr T.f_must_be_sentence (pa_cons (pv 0) pa_nil)))
      (pss_one (ps_ret (pe_callB (call_sorted_setD rfl) rfl T.n_sorted bt_sorted (pa_cons (pe_callTy (call_setT rfl) rfl T.n_set bt_set (pa_cons (pe_callD G_letters_in hr T.f_letters_in (pa_cons (pv 0) pa_nil)) pa_nil)) pa_nil))))), ?_⟩
  refine ⟨_, rfl, p, sn, rfl, isp, hin, hc, hd, fun H1 g1 => ⟨_, rfl, p, sn, rfl, isp.mono (Tups.of g1), by omega, fun l H2 xs g2 hn hl hmem hxl => ⟨l, xs, rfl, SqL.of hl, by omega, fun z hz => ⟨z, xs, rfl, upd_same, dd_few (fun x hx => (Sn.inO_iff sn).mp hin x ((hmem x).mp hx)), fun l2 ms hl2 pm so => ?_⟩⟩⟩⟩
  have gz := (g1.trans g2).trans (Same.new hz (SetX P w z xs))
  refine q l2 _ ms (gz.trans (Same.new hl2 _)) (gz.free hl2) upd_same (pm.nodup_iff.mpr (dd_nd xs)) (fun x => ?_) so
  rw [pm.mem_iff, dd_mem, hmem]
theorem ok_cell_at (T : Txt P w K mg a) : FnOk P w K mg base CX0 (k + 1) a.a_x_law_cell_at a.d_x_law_cell_at p_x_law_cell_at (spCellAt K) := by
  refine T.f_x_law_cell_at.F.ok sc_x_law_cell_at (fun vs H Q E h => ?_) (fun cdv A outer s H vs Q E hr h => ?_)
  · obtain ⟨l, ns, i, rfl, _⟩ := h
    rfl
  obtain ⟨l, ns, i, rfl, hS, h0, q⟩ := h
  refine ⟨_, (pss_cons (ps_if (pt_cmpR op_lt (pv 1) (pe_callB call_len_seq rfl T.n_len bt_len (pa_cons (pv 0) pa_nil)) (nomark _)) (pss_one (ps_ret (pe_ix ix_list (pv 0) (pv 1) (fun _ _ => rfl)))) pss_nil)
      (pss_one (ps_ret pe_int))), ?_⟩
  refine ⟨_, rfl, _, rfl, l, _, rfl, .inl hS, _, _, rfl, rfl, _, rfl, ?_⟩
  refine ite2 (fun c => ?_) (fun c => ?_)
  · have c' : i < (((ns.map V.int).length : Nat) : Int) := of_decide_eq_true c
    rw [List.length_map] at c'
    have hi : i.toNat < ns.length := by omega
    have e : atI (ns.map V.int) i = some (.int ns[i.toNat]) := by
      have q := atI_nat (xs := ns.map V.int) (j := i.toNat) (v := .int ns[i.toNat]) (by rw [List.getElem?_map, List.getElem?_eq_getElem hi]; rfl)
      have ei : ((i.toNat : Nat) : Int) = i := by omega
      rw [ei] at q
      exact q
    exact ⟨_, rfl, _, rfl, l, _, i, _, rfl, rfl, hS, e, q _⟩
  · exact q 0
theorem ok_draw (T : Txt P w K mg a) : FnOk P w K mg base CX0 (k + 1) a.a_x_law_draw a.d_x_law_draw p_x_law_draw spDraw := by
  refine T.f_x_law_draw.F.ok sc_x_law_draw (fun vs H Q E h => ?_) (fun cdv A outer s H vs Q E hr h => ?_)
  · obtain ⟨c, m, b, rfl, _⟩ := h
    rfl
  obtain ⟨c, m, b, rfl, hm, b0, b1, q⟩ := h
  refine ⟨_, (pss_cons (ps_if (pt_cmpR op_ge (pv 0) (pe_op op_pow pe_int pe_int) (nomark _)) (pss_cons (ps_setA 4 sc_x_law_draw.nd (pv 0))
      (pss_cons (ps_for PassesOwn.never rfl (pi_range1 rfl T.n_range (pa_cons (pv 1) pa_nil)) (pg_name (i := 5) sc_x_law_draw.nd rfl (Or.inl rfl)) (pss_one (ps_setA 4 sc_x_law_draw.nd (pe_op op_fdiv (pv 4) (pv 2)))))
      (pss_one (ps_ret (pe_op op_mod (pv 4) (pv 2)))))) pss_nil)
      (pss_cons (ps_setA 3 sc_x_law_draw.nd (pe_op op_mod (pe_op op_mul (pe_op op_add (pe_op op_add (pe_op op_mod (pv 0) pe_int) (pe_op op_mul pe_int (pv 1))) pe_int) pe_int) pe_int))
      (pss_cons (ps_setA 3 sc_x_law_draw.nd (pe_op op_mod (pe_op op_add (pe_op op_add (pe_op op_mul (pv 3) (pv 3)) (pe_op op_mul pe_int (pv 1))) pe_int) pe_int))
      (pss_one (ps_ret (pe_op op_mod (pe_op op_fdiv (pe_op op_mod (pe_op op_mul (pv 3) pe_int) pe_int) pe_int) (pv 2))))))), ?_⟩
  refine ⟨_, rfl, 10, 18, rfl, rfl, ⟨by decide, by decide, by decide⟩, _, _, rfl, rfl, _, rfl, ?_⟩
  refine ite2 (fun _ => ?_) (fun _ => ?_)
  · refine ⟨_, rfl, ?_⟩
    refine ⟨_, rfl, (m : Int), rfl, by omega, by omega, ?_⟩
    refine for_range (fun i σ H' => H' = H ∧ ∃ (x : Int) (f1 f2 : Option V), σ = [some (.int c), some (.int m), some (.int b), f1, some (.int x), f2]) ⟨rfl, c, _, _, rfl⟩ ?_ ?_
    · rintro i σ H' hi ⟨rfl, x, f1, f2, rfl⟩
      refine ⟨_, rfl, _, rfl, x, b, rfl, rfl, ⟨b0, b1⟩, ?_⟩
      exact ⟨rfl, x / b, _, _, rfl⟩
    · rintro σ H' ⟨rfl, x, f1, f2, rfl⟩
      refine ⟨_, rfl, _, rfl, x, b, rfl, rfl, b0, ?_⟩
      exact q _ (Int.emod_nonneg _ (by omega)) (Int.emod_lt_of_pos _ b0)
  · have p1 : (0 : Int) < 1000000007 := by decide
    have p2 : (0 : Int) < 2147483647 := by decide
    have p3 : (0 : Int) < 2147483629 := by decide
    refine ⟨_, rfl, c, 1000000007, rfl, rfl, p1, _, rfl, 1009, (m : Int), rfl, rfl, .inl ⟨by decide, by decide⟩, _, _, rfl, rfl, _, 17, rfl, rfl, _, 69621, rfl, rfl, .inr ⟨by decide, by decide⟩, _, 2147483647, rfl, rfl, p2, ?_⟩
    have z0 : 0 ≤ (c % 1000000007 + 1009 * (m : Int) + 17) * 69621 % 2147483647 := Int.emod_nonneg _ (by decide)
    have z1 : (c % 1000000007 + 1009 * (m : Int) + 17) * 69621 % 2147483647 < 2147483647 := Int.emod_lt_of_pos _ p2
    refine ⟨_, rfl, _, rfl, _, _, rfl, rfl, .inl ⟨Int.lt_of_lt_of_le (by decide) z0, Int.lt_trans z1 (by decide)⟩, _, rfl, 40503, (m : Int), rfl, rfl, .inl ⟨by decide, by decide⟩, _, _, rfl, rfl, _, 5, rfl, rfl, _, 2147483629, rfl, rfl, p3, ?_⟩
    refine ⟨_, rfl, _, 48271, rfl, rfl, .inr ⟨by decide, by decide⟩, _, 2147483647, rfl, rfl, p2, _, 32, rfl, rfl, ⟨by decide, by decide⟩, _, rfl, _, b, rfl, rfl, b0, ?_⟩
    exact q _ (Int.emod_nonneg _ (by omega)) (Int.emod_lt_of_pos _ b0)
theorem ok_sentence (T : Txt P w K mg a) (G_x_law_cell_at : FnOk P w K mg base CX0 k a.a_x_law_cell_at a.d_x_law_cell_at p_x_law_cell_at (spCellAt K)) (G_x_law_draw : FnOk P w K mg base CX0 k a.a_x_law_draw a.d_x_law_draw p_x_law_draw spDraw) :
    FnOk P w K mg base CX0 (k + 1) a.a_x_law_sentence a.d_x_law_sentence p_x_law_sentence (spSentence K) := by
  refine T.f_x_law_sentence.F.ok sc_x_law_sentence (fun vs H Q E h => ?_) (fun cdv A outer s H vs Q E hr h => ?_)
  · obtain ⟨sc, ol, ns, t, m, os, rfl, _⟩ := h
    rfl
  obtain ⟨sc, ol, ns, t, m, os, rfl, hS, hO, o0, o8, m0, m40, t60, q⟩ := h
  obtain ⟨st0, h0⟩ : ∃ st0, st0 = (defBody S_x_law_sentence).headD (.Pass ⟨0, 0, 0, 0⟩) := ⟨_, rfl⟩
  have hb : defBody S_x_law_sentence = st0 :: (defBody S_x_law_sentence).tail := by rw [h0]; rfl
  rw [hb]
  have hk : litAsg st0 = some (Str.ofString "kinds", kindsS) := by rw [h0]; rfl
  refine ⟨_, pss_cons (ps_litL (i := 4) hk sc_x_law_sentence.nd rfl (Or.inl rfl) (.inl rfl)) (pss_cons (ps_setA 5 sc_x_law_sentence.nd (pe_lst (pa_cons (pe_tup (pa_cons pe_str (pa_cons (pe_ix ix_list (pv 3) (pe_op op_mod (pe_callD G_x_law_draw hr T.f_x_law_draw (pa_cons (pe_callD G_x_law_cell_at hr T.f_x_law_cell_at (pa_cons (pv 0) (pa_cons (pv 1) pa_nil))) (pa_cons pe_int (pa_cons pe_int pa_nil)))) (pe_callB call_len_seq rfl T.n_len bt_len (pa_cons (pv 3) pa_nil))) (fun _ _ => rfl)) pa_nil))) pa_nil)))
      (pss_cons (ps_for PassesOwn.never rfl (pi_range2 rfl T.n_range (pa_cons pe_int (pa_cons (pv 2) pa_nil))) (pg_name (i := 6) sc_x_law_sentence.nd rfl (Or.inl rfl)) (pss_cons (ps_setA 7 sc_x_law_sentence.nd (pe_callD G_x_law_cell_at hr T.f_x_law_cell_at (pa_cons (pv 0) (pa_cons (pe_op op_add (pv 1) (pv 6)) pa_nil))))
      (pss_cons (ps_setA 8 sc_x_law_sentence.nd (pe_ix ix_list (pv 4) (pe_callD G_x_law_draw hr T.f_x_law_draw (pa_cons (pv 7) (pa_cons pe_int (pa_cons pe_int pa_nil)))) (fun _ _ => rfl)))
      (pss_cons (ps_setA 9 sc_x_law_sentence.nd (pe_ix ix_list (pv 5) (pe_op op_sub (pe_un un_neg pe_int) (pe_op op_mod (pe_callD G_x_law_draw hr T.f_x_law_draw (pa_cons (pv 7) (pa_cons pe_int (pa_cons pe_int pa_nil)))) (pe_callB call_len_seq rfl T.n_len bt_len (pa_cons (pv 5) pa_nil)))) (fun _ _ => rfl)))
      (pss_cons (ps_setA 10 sc_x_law_sentence.nd (pe_ix ix_list (pv 5) (pe_op op_mod (pe_callD G_x_law_draw hr T.f_x_law_draw (pa_cons (pv 7) (pa_cons pe_int (pa_cons pe_int pa_nil)))) (pe_callB call_len_seq rfl T.n_len bt_len (pa_cons (pv 5) pa_nil))) (fun _ _ => rfl)))
      (pss_cons (ps_setA 11 sc_x_law_sentence.nd (pe_ix ix_list (pv 3) (pe_op op_mod (pe_callD G_x_law_draw hr T.f_x_law_draw (pa_cons (pv 7) (pa_cons pe_int (pa_cons pe_int pa_nil)))) (pe_callB call_len_seq rfl T.n_len bt_len (pa_cons (pv 3) pa_nil))) (fun _ _ => rfl)))
      (pss_one (ps_if (PW.pt (pw_or (pt_cmpR op_eq (pv 8) pe_str (nomark _)) (pw_or1 (pt_cmpR op_eq (pv 8) pe_str (nomark _))))) (pss_one (ps_expr (pe_bm PySem.F.plainAttrs_list PySem.F.slot_list_append PySem.F.type_list_append mt_append (pv 5) (pa_cons (pe_tup (pa_cons (pv 8) pa_nil)) pa_nil)))) (pss_one (ps_if (pt_cmpR op_eq (pv 8) pe_str (nomark _)) (pss_one (ps_expr (pe_bm PySem.F.plainAttrs_list PySem.F.slot_list_append PySem.F.type_list_append mt_append (pv 5) (pa_cons (pe_tup (pa_cons pe_str (pa_cons (pv 11) pa_nil))) pa_nil)))) (pss_one (ps_if (pt_cmpR op_eq (pv 8) pe_str (nomark _)) (pss_one (ps_expr (pe_bm PySem.F.plainAttrs_list PySem.F.slot_list_append PySem.F.type_list_append mt_append (pv 5) (pa_cons (pe_tup (pa_cons pe_str (pa_cons (pv 9) pa_nil))) pa_nil)))) (pss_one (ps_if (PW.pt (pw_or (pt_cmpR op_eq (pv 8) pe_str (nomark _)) (pw_or1 (pt_cmpR op_eq (pv 8) pe_str (nomark _))))) (pss_one (ps_expr (pe_bm PySem.F.plainAttrs_list PySem.F.slot_list_append PySem.F.type_list_append mt_append (pv 5) (pa_cons (pe_tup (pa_cons (pv 8) (pa_cons (pv 11) (pa_cons (pv 9) pa_nil)))) pa_nil)))) (pss_one (ps_expr (pe_bm PySem.F.plainAttrs_list PySem.F.slot_list_append PySem.F.type_list_append mt_append (pv 5) (pa_cons (pe_tup (pa_cons (pv 8) (pa_cons (pv 10) (pa_cons (pv 9) pa_nil)))) pa_nil))))))))))))))))))
      (pss_one (ps_ret (pe_ix ix_list (pv 5) (pe_un un_neg pe_int) (fun _ _ => rfl)))))), ?_⟩
  refine ⟨by show 14 ≤ sizeLine; decide, fun kd hkd => ?_⟩
  have g1 := same_new hkd (.lst (kindsS.map V.str))
  have hS1 := g1.seq hS
  have hO1 := g1.seq hO
  refine ⟨_, rfl, _, rfl, _, rfl, sc, ns, (t : Int), rfl, hS1, by omega, fun c0 => ?_⟩
  refine ⟨c0, 3, 40320, rfl, by decide, by decide, by decide, fun r0 _ _ => ?_⟩
  obtain ⟨x0, hx0, hx0'⟩ := pick_letter o0 r0
  have pl : (0 : Int) < ((os.map V.str).length : Nat) := by rw [List.length_map]; omega
  refine ⟨_, rfl, ol, _, rfl, .inl hO1, _, _, rfl, rfl, pl, ol, _, _, .str x0, rfl, rfl, hO1, hx0', by show 2 ≤ sizeLine; decide, fun p0 hp0 => ?_⟩
  refine ⟨by show 1 ≤ sizeLine; decide, fun md hmd => ?_⟩
  have g2 := same_new hp0 (.tup [.str "mark", .str x0])
  have g3 := same_new hmd (.lst [.ref p0])
  have f0 : H md = none := (g1.trans g2).free hmd
  have nk : md ≠ kd := Ne.symm (ne_of_none (g2 _ _ upd_same) hmd)
  have M0 : Made H (upd (upd (upd H kd (.lst (kindsS.map V.str))) p0 (.tup [.str "mark", .str x0])) md (.lst [.ref p0])) os md kd [p0] 1 := by
    refine ⟨g1.trans (g2.trans g3), upd_same, g3 _ _ (g2 _ _ upd_same), by simp, fun p hp => ?_⟩
    have e : p = p0 := by simpa using hp
    subst e
    exact ⟨.mk x0, g3 _ _ upd_same, hx0, Nat.le_refl _⟩
  refine ⟨_, rfl, 1, (m : Int), rfl, ⟨by omega, by omega, by omega, by omega⟩, ?_⟩
  refine for_range (fun i σ H' => ∃ (ps : List Addr) (f1 f2 f3 f4 f5 f6 : Option V), Made H H' os md kd ps (i + 1) ∧ ps.length = i + 1 ∧ σ = [some (.ref sc), some (.int t), some (.int m), some (.ref ol), some (.ref kd), some (.ref md), f1, f2, f3, f4, f5, f6])
    ⟨[p0], _, _, _, _, _, _, M0, rfl, rfl⟩ ?_ ?_
  · rintro i σ H' hi ⟨ps, f1, f2, f3, f4, f5, f6, M, lp, rfl⟩
    have hS2 := M.old.seq hS
    have hO2 := M.old.seq hO
    have e1 : (t : Int) + (1 + (i : Nat)) = ((t + (1 + i) : Nat) : Int) := by omega
    refine ⟨_, rfl, _, rfl, _, rfl, _, _, rfl, rfl, sc, ns, _, rfl, hS2, by omega, fun c => ?_⟩
    refine ⟨_, rfl, _, rfl, c, 0, 14, rfl, by decide, by decide, by decide, fun d d0 d1 => ?_⟩
    obtain ⟨jk, vk, qk1, qk2⟩ := atI_has (xs := kindsS.map V.str) (i := d) (by show -((14 : Nat) : Int) ≤ d; omega) (by show d < ((14 : Nat) : Int); omega)
    obtain ⟨kind, hkm, hkv⟩ : ∃ kind, kind ∈ kindsS ∧ vk = .str kind := by
      rw [List.getElem?_map] at qk2
      cases hx : kindsS[jk]? with
      | none => rw [hx] at qk2; cases qk2
      | some x => rw [hx] at qk2; cases qk2; exact ⟨x, List.mem_of_getElem? hx, rfl⟩
    subst hkv
    refine ⟨kd, _, _, _, rfl, rfl, SqL.of M.kin, qk1, ?_⟩
    have lm : ((ps.map V.ref).length : Nat) = i + 1 := by rw [List.length_map]; exact lp
    have pm : (0 : Int) < ((ps.map V.ref).length : Nat) := by rw [lm]; omega
    refine ⟨_, rfl, 1, rfl, _, rfl, c, 1, 2, rfl, by decide, by decide, by decide, fun d2 _ _ => ?_⟩
    refine ⟨_, rfl, md, _, rfl, .inl (SqL.of M.mad), _, _, rfl, rfl, pm, _, _, rfl, rfl, ?_⟩
    have a0 := Int.emod_nonneg d2 (show ((ps.map V.ref).length : Int) ≠ 0 by omega)
    have a1 := Int.emod_lt_of_pos d2 pm
    obtain ⟨q1, hq1, hq1'⟩ := pick_made (ps := ps) (i := -1 - d2 % ((ps.map V.ref).length : Nat)) (by rw [lm] at a0 a1 ⊢; omega) (by rw [lm] at a0 a1 ⊢; omega)
    refine ⟨md, _, _, _, rfl, rfl, SqL.of M.mad, hq1', ?_⟩
    refine ⟨_, rfl, _, rfl, c, 2, 60, rfl, by decide, by decide, by decide, fun d3 _ _ => ?_⟩
    refine ⟨_, rfl, md, _, rfl, .inl (SqL.of M.mad), _, _, rfl, rfl, pm, ?_⟩
    have b0 := Int.emod_nonneg d3 (show ((ps.map V.ref).length : Int) ≠ 0 by omega)
    have b1 := Int.emod_lt_of_pos d3 pm
    obtain ⟨q2, hq2, hq2'⟩ := pick_made (ps := ps) (i := d3 % ((ps.map V.ref).length : Nat)) (by rw [lm] at b0 b1 ⊢; omega) (by rw [lm] at b0 b1 ⊢; omega)
    refine ⟨md, _, _, _, rfl, rfl, SqL.of M.mad, hq2', ?_⟩
    refine ⟨_, rfl, _, rfl, c, 3, 40320, rfl, by decide, by decide, by decide, fun d4 _ _ => ?_⟩
    obtain ⟨x, hx, hx'⟩ := pick_letter o0 d4
    refine ⟨_, rfl, ol, _, rfl, .inl hO2, _, _, rfl, rfl, pl, ol, _, _, .str x, rfl, rfl, hO2, hx', ?_⟩
    obtain ⟨s1, s1i, s1o, s1d⟩ := M.all q1 hq1
    obtain ⟨s2, s2i, s2o, s2d⟩ := M.all q2 hq2
    have big : ps.length < sizeLine := Nat.lt_of_le_of_lt (show ps.length ≤ 100 by omega) (by decide)
    have bigV : (ps.map V.ref).length < sizeLine := by rw [List.length_map]; exact big
    have mdu : ∀ (p : Addr) (o : HO), H' p = none → (upd H' p o) md = some (.lst (ps.map V.ref)) := fun p o hp => by rw [upd_ne (ne_of_none M.mad hp)]; exact M.mad
    have fin : ∀ (p : Addr) (xs : List V) (s' : Sn), H' p = none → IsS (upd H' p (.tup xs)) s' p → s'.inO os → s'.depth ≤ i + 1 + 1 →
        ∃ (ps' : List Addr) (f1 f2 f3 f4 f5 f6 : Option V), Made H (upd (upd H' p (.tup xs)) md (.lst (ps.map V.ref ++ [.ref p]))) os md kd ps' (i + 1 + 1) ∧ ps'.length = i + 1 + 1 ∧
          [some (.ref sc), some (.int t), some (.int m), some (.ref ol), some (.ref kd), some (.ref md), some (.int (1 + (i : Nat))), some (.int c), some (.str kind), some (.ref q1), some (.ref q2), some (.str x)] = [some (.ref sc), some (.int t), some (.int m), some (.ref ol), some (.ref kd), some (.ref md), f1, f2, f3, f4, f5, f6] := fun p xs s' hp hs ho hd => by
      have := M.push f0 hp hs ho hd nk
      rw [List.map_append] at this
      exact ⟨ps ++ [p], _, _, _, _, _, _, this, by simp [lp], rfl⟩
    refine ⟨_, rfl, rfl, _, rfl, ite2 (fun c1 => ?_) (fun c1 => ?_)⟩
    · have ek : kind = "yes" := by have := of_decide_eq_true c1; cases this; rfl
      subst ek
      refine iteT ⟨_, rfl, .inl ⟨rfl, _, SqL.of M.mad⟩, _, rfl, by show 1 ≤ sizeLine; decide, fun p hp => ⟨md, _, _, rfl, rfl, mdu p _ hp, bigV, ?_⟩⟩
      exact fin p _ (.c0 true) hp upd_same trivial (by show 1 ≤ _; omega)
    have n1 : kind ≠ "yes" := fun e => c1 (decide_eq_true (by rw [e]))
    refine ⟨_, rfl, rfl, _, rfl, ite2 (fun c2 => ?_) (fun c2 => ?_)⟩
    · have ek : kind = "no" := by have := of_decide_eq_true c2; cases this; rfl
      subst ek
      refine ⟨_, rfl, .inl ⟨rfl, _, SqL.of M.mad⟩, _, rfl, by show 1 ≤ sizeLine; decide, fun p hp => ⟨md, _, _, rfl, rfl, mdu p _ hp, bigV, ?_⟩⟩
      exact fin p _ (.c0 false) hp upd_same trivial (by show 1 ≤ _; omega)
    have n2 : kind ≠ "no" := fun e => c2 (decide_eq_true (by rw [e]))
    refine ⟨_, rfl, rfl, _, rfl, ite2 (fun c3 => ?_) (fun c3 => ?_)⟩
    · have ek : kind = "mark" := by have := of_decide_eq_true c3; cases this; rfl
      subst ek
      refine ⟨_, rfl, .inl ⟨rfl, _, SqL.of M.mad⟩, _, rfl, by show 2 ≤ sizeLine; decide, fun p hp => ⟨md, _, _, rfl, rfl, mdu p _ hp, bigV, ?_⟩⟩
      exact fin p _ (.mk x) hp upd_same hx (by show 1 ≤ _; omega)
    have n3 : kind ≠ "mark" := fun e => c3 (decide_eq_true (by rw [e]))
    refine ⟨_, rfl, rfl, _, rfl, ite2 (fun c4 => ?_) (fun c4 => ?_)⟩
    · have ek : kind = "not" := by have := of_decide_eq_true c4; cases this; rfl
      subst ek
      refine ⟨_, rfl, .inl ⟨rfl, _, SqL.of M.mad⟩, _, rfl, by show 2 ≤ sizeLine; decide, fun p hp => ⟨md, _, _, rfl, rfl, mdu p _ hp, bigV, ?_⟩⟩
      exact fin p _ (.nt s1) hp ⟨q1, upd_same, s1i.mono (Tups.new hp _)⟩ s1o (by show 1 + s1.depth ≤ _; omega)
    have n4 : kind ≠ "not" := fun e => c4 (decide_eq_true (by rw [e]))
    refine ⟨_, rfl, rfl, _, rfl, ite2 (fun c5 => ?_) (fun c5 => ?_)⟩
    · have ek : kind = "some" := by have := of_decide_eq_true c5; cases this; rfl
      subst ek
      refine iteT ⟨_, rfl, .inl ⟨rfl, _, SqL.of M.mad⟩, _, rfl, _, rfl, _, rfl, by show 3 ≤ sizeLine; decide, fun p hp => ⟨md, _, _, rfl, rfl, mdu p _ hp, bigV, ?_⟩⟩
      exact fin p _ (.q1 true x s1) hp ⟨q1, upd_same, s1i.mono (Tups.new hp _)⟩ ⟨hx, s1o⟩ (by show 1 + s1.depth ≤ _; omega)
    have n5 : kind ≠ "some" := fun e => c5 (decide_eq_true (by rw [e]))
    refine ⟨_, rfl, rfl, _, rfl, ite2 (fun c6 => ?_) (fun c6 => ?_)⟩
    · have ek : kind = "each" := by have := of_decide_eq_true c6; cases this; rfl
      subst ek
      refine ⟨_, rfl, .inl ⟨rfl, _, SqL.of M.mad⟩, _, rfl, _, rfl, _, rfl, by show 3 ≤ sizeLine; decide, fun p hp => ⟨md, _, _, rfl, rfl, mdu p _ hp, bigV, ?_⟩⟩
      exact fin p _ (.q1 false x s1) hp ⟨q1, upd_same, s1i.mono (Tups.new hp _)⟩ ⟨hx, s1o⟩ (by show 1 + s1.depth ≤ _; omega)
    have n6 : kind ≠ "each" := fun e => c6 (decide_eq_true (by rw [e]))
    obtain ⟨o, ho⟩ : ∃ o : Fin 4, kind = w2 o := by
      have : kind ∈ ([Str.ofString "mark", Str.ofString "mark", Str.ofString "not", Str.ofString "and", Str.ofString "or", Str.ofString "either", Str.ofString "if", Str.ofString "and", Str.ofString "or", Str.ofString "some", Str.ofString "each", Str.ofString "yes", Str.ofString "no", Str.ofString "mark"] : List Str) := hkm
      simp only [List.mem_cons, List.not_mem_nil, or_false] at this
      rcases this with h | h | h | h | h | h | h | h | h | h | h | h | h | h <;> first | exact absurd h n1 | exact absurd h n2 | exact absurd h n3 | exact absurd h n4 | exact absurd h n5 | exact absurd h n6 | exact ⟨0, h⟩ | exact ⟨1, h⟩ | exact ⟨2, h⟩ | exact ⟨3, h⟩
    subst ho
    refine ⟨_, rfl, .inl ⟨rfl, _, SqL.of M.mad⟩, _, rfl, _, rfl, _, rfl, by show 3 ≤ sizeLine; decide, fun p hp => ⟨md, _, _, rfl, rfl, mdu p _ hp, bigV, ?_⟩⟩
    exact fin p _ (.b2 o s2 s1) hp ⟨q2, q1, upd_same, s2i.mono (Tups.new hp _), s1i.mono (Tups.new hp _)⟩ ⟨s2o, s1o⟩ (by show 1 + max s2.depth s1.depth ≤ _; omega)
  · rintro σ H' ⟨ps, f1, f2, f3, f4, f5, f6, M, lp, rfl⟩
    obtain ⟨p, hp, hp'⟩ := pick_made (ps := ps) (i := -1) (by omega) (by omega)
    obtain ⟨s', z1, z2, z3⟩ := M.all p hp
    have e : ((m : Int) - 1).toNat + 1 = m := by omega
    rw [e] at z3
    exact ⟨_, rfl, 1, rfl, md, _, -1, _, rfl, rfl, SqL.of M.mad, hp', q p H' s' M.old z1 z2 z3⟩
end
end K01
namespace K01
open PySem L2 Sen
section
variable {P : Program} {w : World} {K : PySem.W.Frag} {mg : Str → Option Value} {base : Heap} {a : Ad} {k : Nat}
theorem ok_goodT_step {d : Nat} (T : Txt P w K mg a) (G_x_law_good : FnOk P w K mg base CX0 k a.a_x_law_good a.d_x_law_good p_x_law_good (spGoodT d)) : FnOk P w K mg base CX0 (k + 1) a.a_x_law_good a.d_x_law_good p_x_law_good (spGoodT (d + 1)) := by
  refine T.f_x_law_good.F.ok sc_x_law_good (fun vs H Q E h => ?_) (fun cdv A outer s H vs Q E hr h => ?_)
  · obtain ⟨p, t, rfl, _⟩ := h
    rfl
  obtain ⟨p, t, rfl, ht, hd, q⟩ := h
  refine ⟨_, (pss_cons (ps_setA 1 sc_x_law_good.nd (pe_strs (xs := ["a", "b", "c", "d", "e", "f", "g", "h"]) (by rfl)))
      (pss_cons (ps_if (PW.pt (pw_or (pt_cmpR (op_eqD (K := K) rfl (hu8 hr)) (pv 0) (pe_tup pa_nil) (nomark _)) (pw_or1 (pt_not (pt_truth (pe_callB call_isinst rfl T.n_isinstance bt_isinstance (pa_cons (pe_ix ix_tup (pv 0) pe_int (fun _ _ => rfl)) (pa_cons (pe_bltn (v := .ty "str") rfl T.n_str bt_str rfl) pa_nil))) (fun _ => rfl)))))) (pss_one (ps_ret pe_bl)) pss_nil)
      (pss_cons (ps_if (pt_cmpR op_in_seq (pe_ix ix_tup (pv 0) pe_int (fun _ _ => rfl)) (pe_tup (pa_cons pe_str (pa_cons pe_str pa_nil))) (by with_unfolding_all rfl)) (pss_one (ps_ret (pe_cmpR op_eq (pe_callB call_len_seq rfl T.n_len bt_len (pa_cons (pv 0) pa_nil)) pe_int (nomark _)))) pss_nil)
      (pss_cons (ps_if (pt_cmpR op_eq (pe_ix ix_tup (pv 0) pe_int (fun _ _ => rfl)) pe_str (nomark _)) (pss_one (ps_ret (pe_and (pe_cmpR op_eq (pe_callB call_len_seq rfl T.n_len bt_len (pa_cons (pv 0) pa_nil)) pe_int (nomark _)) (pe_one (pe_cmpR (op_inD (K := K) rfl (hu9 hr)) (pe_ix ix_tup (pv 0) pe_int (fun _ _ => rfl)) (pv 1) (by with_unfolding_all rfl)))))) pss_nil)
      (pss_cons (ps_if (pt_cmpR op_in_seq (pe_ix ix_tup (pv 0) pe_int (fun _ _ => rfl)) (pe_tup (pa_cons pe_str (pa_cons pe_str pa_nil))) (by with_unfolding_all rfl)) (pss_one (ps_ret (pe_and (pe_cmpR op_eq (pe_callB call_len_seq rfl T.n_len bt_len (pa_cons (pv 0) pa_nil)) pe_int (nomark _)) (pe_and (pe_cmpR (op_inD (K := K) rfl (hu9 hr)) (pe_ix ix_tup (pv 0) pe_int (fun _ _ => rfl)) (pv 1) (by with_unfolding_all rfl)) (pe_and (pe_callB call_isinst rfl T.n_isinstance bt_isinstance (pa_cons (pe_ix ix_tup (pv 0) pe_int (fun _ _ => rfl)) (pa_cons (pe_bltn (v := .ty "tuple") rfl T.n_tuple bt_tuple rfl) pa_nil))) (pe_one (pe_callD G_x_law_good hr T.f_x_law_good (pa_cons (pe_ix ix_tup (pv 0) pe_int (fun _ _ => rfl)) pa_nil)))))))) pss_nil)
      (pss_cons (ps_if (PW.pt (pw_or (pt_cmpR op_notIn_seq (pe_ix ix_tup (pv 0) pe_int (fun _ _ => rfl)) (pe_strsT (xs := ["not", "and", "or", "either", "if"]) (by rfl)) (by with_unfolding_all rfl)) (pw_or1 (pt_cmpR op_ne (pe_callB call_len_seq rfl T.n_len bt_len (pa_cons (pv 0) pa_nil)) (pe_op op_sub pe_int (pe_callTy call_int1 rfl T.n_int bt_int (pa_cons (pe_cmpR op_eq (pe_ix ix_tup (pv 0) pe_int (fun _ _ => rfl)) pe_str (nomark _)) pa_nil))) (nomark _))))) (pss_one (ps_ret pe_bl)) pss_nil)
      (pss_one (ps_ret (pe_callB (call_all rfl) rfl T.n_all bt_all (pa_cons (pe_lc0 (osc := defScope S_x_law_good) (js := []) rfl (by show LcOk _ _ "piece" []; exact lco (by decide +kernel)) rfl (pi_tup (pe_slice sl_tup (pv 0) (po_some pe_int) po_none)) (by show ∀ j ∈ ([] : List Nat), j < 2; decide) (fun cl C s₂ H₂ fp => (pe_and (pe_callB (call_isinstK (K := K) rfl) rfl T.n_isinstance bt_isinstance (pa_cons (pv 0) (pa_cons (pe_bltn (v := .ty "tuple") rfl T.n_tuple bt_tuple rfl) pa_nil))) (pe_one (pe_callD G_x_law_good hr T.f_x_law_good (pa_cons (pv 0) pa_nil)))))) pa_nil)))))))))), ?_⟩
  obtain ⟨vs, c1, c2⟩ := ht.cut
  refine ⟨by show 8 ≤ sizeLine; decide, fun ll hll => ?_⟩
  have g1 := Same.new hll (.lst (letts.map V.str))
  have e1 : upd H ll (.lst (letts.map V.str)) ll = some _ := upd_same
  show tSeq _ _ _ _ (upd H ll (.lst (letts.map V.str)))
  generalize upd H ll (.lst (letts.map V.str)) = H1 at g1 e1 ⊢
  have c1 := g1 _ _ c1
  have ht1 := ht.mono (Tups.of g1)
  refine ⟨_, rfl, by show 0 ≤ sizeLine; decide, fun et het => ?_⟩
  have g2 := Same.new het (.tup [])
  have e2 : upd H1 et (.tup []) et = some _ := upd_same
  generalize upd H1 et _ = H2 at g2 e2 ⊢
  have c1 := g2 _ _ c1
  have e1 := g2 _ _ e1
  have g02 := g1.trans g2
  have c2 : Paired (IsT H2) t.items vs := pd_imp (fun _ _ h => IsT.mono h (Tups.of g02)) c2
  refine ⟨_, by simp [flatV], .tt (n := 7) (e := fun _ => true) (SqT.of c1) (SqT.of e2) (fun j x y _ h => nomatch h), _, rfl, ?_⟩
  cases ei : t.items with
  | nil =>
    rw [ei] at c2
    cases c2
    refine iteT (iteT ?_)
    rw [gd_nil ei] at q
    exact q _ g02
  | cons u r =>
  rw [ei] at c2
  cases c2 with
  | @cons _ v0 _ us h0 c3 =>
  refine iteF ?_
  cases e0 : u.tup with
  | true =>
    obtain ⟨p0, rfl⟩ := h0.tup e0
    obtain ⟨ws, d1, _⟩ := h0.cut
    refine ⟨_, rfl, p, _, 0, _, rfl, rfl, SqT.of c1, at0, _, _, _, false, rfl, .tup d1, rfl, _, rfl, iteT ?_⟩
    rw [gd_tup ei e0] at q
    exact q _ g02
  | false =>
  obtain ⟨x, rfl, rfl⟩ := h0.str e0
  refine ⟨_, rfl, p, _, 0, _, rfl, rfl, SqT.of c1, at0, _, _, _, true, rfl, .str x, rfl, _, rfl, iteF ?_⟩
  have FF : Same H H2 ∧ H2 p = some (.tup (.str x :: us)) ∧ H2 ll = some (.lst (letts.map V.str)) ∧ Paired (IsT H2) r us := ⟨g02, c1, e1, c3⟩
  have st : ∀ {Ha Hb : Hp}, Same Ha Hb → (Same H Ha ∧ Ha p = some (.tup (.str x :: us)) ∧ Ha ll = some (.lst (letts.map V.str)) ∧ Paired (IsT Ha) r us) → (Same H Hb ∧ Hb p = some (.tup (.str x :: us)) ∧ Hb ll = some (.lst (letts.map V.str)) ∧ Paired (IsT Hb) r us) := fun g h => ⟨h.1.trans g, g _ _ h.2.1, g _ _ h.2.2.1, pd_imp (fun _ _ k => IsT.mono k (Tups.of g)) h.2.2.2⟩
  have ld : 1 + maxD r ≤ d + 1 := by rw [← dpT_cons ei]; exact hd
  have lr := pd_len c3
  clear c1 c2 c3 e1 e2 g2 g1 g02 h0 ht1 het hll ht
  refine ⟨_, rfl, p, _, 0, _, rfl, rfl, SqT.of FF.2.1, at0, by show 2 ≤ sizeLine; decide, fun t2 ht2 => ?_⟩
  have FF := st (Same.new ht2 (.tup ((["yes", "no"] : List Str).map V.str))) FF
  have e3 : upd H2 t2 (.tup ((["yes", "no"] : List Str).map V.str)) t2 = some _ := upd_same
  show rIn K false _ _ (upd H2 t2 (.tup ((["yes", "no"] : List Str).map V.str))) _
  generalize upd H2 t2 (.tup ((["yes", "no"] : List Str).map V.str)) = H3 at FF e3 ⊢
  refine ⟨t2, _, rfl, .inr (SqT.of e3), rfl, flat_strs _, _, rfl, ite2 (fun e => ?_) (fun n1 => ?_)⟩
  · have e : inV (.str x) ((["yes", "no"] : List Str).map V.str) = true := e
    rw [inV_strs] at e
    have e := of_decide_eq_true e
    have l : lk x = some (0, 0) := by
      rcases List.mem_cons.mp e with rfl | e
      · exact lk_yes
      · rw [List.mem_singleton.mp e]; exact lk_no
    refine ⟨_, rfl, p, _, rfl, .inr (SqT.of FF.2.1), rfl, ?_⟩
    have z : gdT t = decide (V.int ((V.str x :: us).length : Nat) = V.int 1) := by
      rw [gd_lk ei l]
      by_cases h : r = []
      · subst h; cases us with
        | nil => rfl
        | cons a b => cases lr
      · have h1 : ¬ r.length = 0 + 0 := fun z => h (List.eq_nil_of_length_eq_zero z)
        rw [decide_eq_false h1, decide_eq_false (fun z => h1 (by have := V.int.inj z; rw [List.length_cons] at this; omega))]
        rfl
    rw [z] at q
    exact q _ FF.1
  have n1 : ¬ (x = "yes" ∨ x = "no") := fun z => n1 (by
    show inV (.str x) ((["yes", "no"] : List Str).map V.str) = true
    rw [inV_strs]
    rcases z with rfl | rfl <;> decide +kernel)
  refine ⟨_, rfl, p, _, 0, _, rfl, rfl, SqT.of FF.2.1, at0, rfl, _, rfl, ite2 (fun e => ?_) (fun n2 => ?_)⟩
  · have e := V.str.inj (of_decide_eq_true e)
    subst e
    refine ⟨_, rfl, p, _, rfl, .inr (SqT.of FF.2.1), rfl, _, rfl, ite2 (fun e => ?_) (fun n => ?_)⟩
    · have e : us.length + 1 = 2 := by have := V.int.inj (of_decide_eq_true e); rw [List.length_cons] at this; omega
      obtain ⟨v1, rfl⟩ : ∃ v, us = [v] := by
        match us, e with
        | [v], _ => exact ⟨v, rfl⟩
      obtain ⟨u1, rfl⟩ : ∃ u, r = [u] := by
        match r, lr with
        | [u], _ => exact ⟨u, rfl⟩
      cases FF.2.2.2 with
      | cons k1 _ =>
      refine ⟨_, rfl, p, _, 1, v1, rfl, rfl, SqT.of FF.2.1, at1, _, rfl, inL k1 FF.2.2.1 ?_⟩
      have z : gdT t = isMk u1 := by
        rw [gd_lk ei lk_mark]
        show (true && (isMk u1 && true) && true && true) = _
        rw [Bool.true_and, Bool.and_true, Bool.and_true, Bool.and_true]
      rw [z] at q
      exact q _ FF.1
    · have n : ¬ r.length = 1 + 0 := fun z => n (decide_eq_true (congrArg V.int (by rw [List.length_cons]; omega)))
      have z : gdT t = false := by rw [gd_lk ei lk_mark, decide_eq_false n]; rfl
      rw [z] at q
      exact q _ FF.1
  have n2 : x ≠ "mark" := fun z => n2 (by rw [z]; exact decide_eq_true rfl)
  refine ⟨_, rfl, p, _, 0, _, rfl, rfl, SqT.of FF.2.1, at0, by show 2 ≤ sizeLine; decide, fun t4 ht4 => ?_⟩
  have FF := st (Same.new ht4 (.tup ((["some", "each"] : List Str).map V.str))) FF
  have e4 : upd H3 t4 (.tup ((["some", "each"] : List Str).map V.str)) t4 = some _ := upd_same
  show rIn K false _ _ (upd H3 t4 (.tup ((["some", "each"] : List Str).map V.str))) _
  generalize upd H3 t4 (.tup ((["some", "each"] : List Str).map V.str)) = H4 at FF e4 ⊢
  refine ⟨t4, _, rfl, .inr (SqT.of e4), rfl, flat_strs _, _, rfl, ite2 (fun e => ?_) (fun n3 => ?_)⟩
  · have e : inV (.str x) ((["some", "each"] : List Str).map V.str) = true := e
    rw [inV_strs] at e
    have e := of_decide_eq_true e
    have l : lk x = some (1, 1) := by
      rcases List.mem_cons.mp e with rfl | e
      · exact lk_some1
      · rw [List.mem_singleton.mp e]; exact lk_each
    have zz := gd_lk ei l
    refine ⟨_, rfl, p, _, rfl, .inr (SqT.of FF.2.1), rfl, _, rfl, ite2 (fun e => ?_) (fun n => ?_)⟩
    · have e : us.length + 1 = 3 := by have := V.int.inj (of_decide_eq_true e); rw [List.length_cons] at this; omega
      obtain ⟨v1, v2, rfl⟩ : ∃ v v', us = [v, v'] := by
        match us, e with
        | [v, v'], _ => exact ⟨v, v', rfl⟩
      obtain ⟨u1, u2, rfl⟩ : ∃ u u', r = [u, u'] := by
        match r, lr with
        | [u, u'], _ => exact ⟨u, u', rfl⟩
      have zz : gdT t = (isMk u1 && (u2.tup && gdT u2)) := by
        rw [zz]
        show (true && (isMk u1 && true) && (u2.tup && true) && (gdT u2 && true)) = _
        rw [Bool.true_and, Bool.and_true, Bool.and_true, Bool.and_true, Bool.and_assoc]
      cases FF.2.2.2 with
      | cons k1 k =>
      cases k with
      | cons k2 _ =>
      refine ⟨_, rfl, p, _, 1, v1, rfl, rfl, SqT.of FF.2.1, at1, _, rfl, inL k1 FF.2.2.1 ⟨_, rfl, ite2 (fun m1 => ?_) (fun m1 => ?_)⟩⟩
      · rw [m1, Bool.true_and] at zz
        cases eu : u2.tup with
        | true =>
          obtain ⟨p2, rfl⟩ := k2.tup eu
          obtain ⟨ws, d2, _⟩ := k2.cut
          rw [eu, Bool.true_and] at zz
          refine ⟨_, rfl, p, _, 2, .ref p2, rfl, rfl, SqT.of FF.2.1, atI_nat (j := 2) rfl, _, _, _, true, rfl, .tup d2, rfl, _, rfl, iteT ?_⟩
          have ld2 : dpT u2 ≤ d := by
            have := dp_in (u := u2) (us := [u1, u2]) (by simp)
            omega
          refine ⟨_, rfl, p, _, 2, .ref p2, rfl, rfl, SqT.of FF.2.1, atI_nat (j := 2) rfl, p2, u2, rfl, k2, ld2, fun H9 g9 => ?_⟩
          rw [zz] at q
          exact q _ (FF.1.trans g9)
        | false =>
          obtain ⟨y, rfl, rfl⟩ := k2.str eu
          refine ⟨_, rfl, p, _, 2, .str y, rfl, rfl, SqT.of FF.2.1, atI_nat (j := 2) rfl, _, _, _, false, rfl, .str y, rfl, _, rfl, iteF ?_⟩
          rw [eu, Bool.false_and] at zz
          rw [zz] at q
          exact q _ FF.1
      · have m1 : isMk u1 = false := by cases h : isMk u1 with
          | true => exact absurd h m1
          | false => rfl
        rw [m1, Bool.false_and] at zz
        rw [zz] at q
        exact q _ FF.1
    · have n : ¬ r.length = 1 + 1 := fun z => n (decide_eq_true (congrArg V.int (by rw [List.length_cons]; omega)))
      have z : gdT t = false := by rw [zz, decide_eq_false n]; rfl
      rw [z] at q
      exact q _ FF.1
  have n3 : ¬ (x = "some" ∨ x = "each") := fun z => n3 (by
    show inV (.str x) ((["some", "each"] : List Str).map V.str) = true
    rw [inV_strs]
    rcases z with rfl | rfl <;> decide +kernel)
  refine ⟨_, rfl, p, _, 0, _, rfl, rfl, SqT.of FF.2.1, at0, by show 5 ≤ sizeLine; decide, fun t5 ht5 => ?_⟩
  have FF := st (Same.new ht5 (.tup ((["not", "and", "or", "either", "if"] : List Str).map V.str))) FF
  have e5 : upd H4 t5 (.tup ((["not", "and", "or", "either", "if"] : List Str).map V.str)) t5 = some _ := upd_same
  generalize upd H4 t5 _ = H5 at FF e5 ⊢
  refine ⟨t5, _, rfl, .inr (SqT.of e5), rfl, flat_strs _, _, rfl, ite2 (fun e => iteT ?_) (fun n4 => ?_)⟩
  · have e : (!inV (.str x) ((["not", "and", "or", "either", "if"] : List Str).map V.str)) = true := e
    rw [inV_strs, Bool.not_eq_true'] at e
    rw [gd_none ei (lk_else n1 n2 n3 (of_decide_eq_false e))] at q
    exact q _ FF.1
  have n4 : x ∈ (["not", "and", "or", "either", "if"] : List Str) := by
    have n4 : ¬ (!inV (.str x) ((["not", "and", "or", "either", "if"] : List Str).map V.str)) = true := n4
    rw [inV_strs, Bool.not_eq_true', Bool.not_eq_false] at n4
    exact of_decide_eq_true n4
  have l : lk x = some (0, if x = "not" then 1 else 2) := by
    rcases List.mem_cons.mp n4 with rfl | h
    · rw [if_pos rfl]; exact lk_not
    · rw [lk_two x h]
      have : x ≠ "not" := fun z => by subst z; exact absurd h (by decide +kernel)
      rw [if_neg this]
  have zz := gd_lk ei l
  refine ⟨_, rfl, p, _, rfl, .inr (SqT.of FF.2.1), _, rfl, p, _, 0, _, rfl, rfl, SqT.of FF.2.1, at0, rfl, .inr ⟨_, rfl, 3, _, rfl, rfl, rfl, _, rfl, ite2 (fun e => ?_) (fun e => ?_)⟩⟩
  · have e : ¬ (V.int ((V.str x :: us).length : Nat) = V.int (3 - (if decide (V.str x = V.str "not") = true then 1 else 0))) := fun z => by
      have e : (!decide (V.int ((V.str x :: us).length : Nat) = V.int (3 - (if decide (V.str x = V.str "not") = true then 1 else 0)))) = true := e
      rw [decide_eq_true z] at e
      cases e
    have n : ¬ r.length = 0 + (if x = "not" then 1 else 2) := fun z => e (congrArg V.int (by
      rw [List.length_cons]
      by_cases hx : x = "not"
      · rw [if_pos hx] at z; rw [if_pos (decide_eq_true (congrArg V.str hx))]; omega
      · rw [if_neg hx] at z; rw [if_neg (fun y => hx (V.str.inj (of_decide_eq_true y)))]; omega))
    rw [decide_eq_false n] at zz
    have zz : gdT t = false := zz
    rw [zz] at q
    exact q _ FF.1
  have e : V.int ((V.str x :: us).length : Nat) = V.int (3 - (if decide (V.str x = V.str "not") = true then 1 else 0)) := by
    apply Classical.byContradiction
    intro z
    refine e ?_
    show (!decide (V.int ((V.str x :: us).length : Nat) = V.int (3 - (if decide (V.str x = V.str "not") = true then 1 else 0)))) = true
    rw [decide_eq_false z]; rfl
  have n : r.length = 0 + (if x = "not" then 1 else 2) := by
    have e := V.int.inj e
    rw [List.length_cons] at e
    by_cases hx : x = "not"
    · rw [if_pos (decide_eq_true (congrArg V.str hx))] at e; rw [if_pos hx]; omega
    · rw [if_neg (fun y => hx (V.str.inj (of_decide_eq_true y)))] at e; rw [if_neg hx]; omega
  have zz : gdT t = (r.map fun u => u.tup && gdT u).all id := by
    rw [zz, decide_eq_true n, List.take_zero, List.drop_zero]
    exact all_two r
  have lu2 : us.length ≤ 2 := by rw [← lr, n]; split <;> decide
  refine ⟨_, rfl, 1, rfl, p, _, rfl, SqT.of FF.2.1, not_whole1 (by decide), fun b hb => ?_⟩
  rw [cut_tail]
  have FF := st (Same.new hb (.tup us)) FF
  have e6 : upd H5 b (.tup us) b = some _ := upd_same
  generalize upd H5 b _ = H6 at FF e6 ⊢
  refine ⟨b, rfl, ⟨_, SqT.of e6⟩, lc_tup (tt := tYes) (xs := us) (fun i ys H' => Same H6 H' ∧ ys = ((r.take i).map fun u => u.tup && gdT u).map V.bl) ⟨Same.refl _, rfl⟩ (Nat.le_trans lu2 (by decide)) ?_ ?_ ?_ ?_ ?_⟩
  · rintro i ys H' hi ⟨g, rfl⟩
    refine ⟨SqT.of (g _ _ e6), ?_⟩
    rw [List.length_map, List.length_map, List.length_take]
    omega
  · rintro i v ys H' hv ⟨g, rfl⟩
    obtain ⟨u, hu, ku⟩ := pd_ta FF.2.2.2 hv
    have ku := IsT.mono ku (Tups.of g)
    show tYes _ _ _
    unfold tYes
    dsimp only
    rw [if_pos rfl]
    cases eu : u.tup with
    | true =>
      obtain ⟨p2, rfl⟩ := ku.tup eu
      obtain ⟨ws, d2, _⟩ := ku.cut
      refine ⟨_, rfl, _, _, _, true, rfl, .tup d2, rfl, _, rfl, iteT ?_⟩
      have ld2 : dpT u ≤ d := by
        have := dp_in (List.mem_of_getElem? hu)
        omega
      refine ⟨_, rfl, p2, u, rfl, ku, ld2, fun H9 g9 => ⟨g.trans g9, ?_⟩⟩
      rw [take_next hu, List.map_append, List.map_append]
      show _ = _ ++ [V.bl (u.tup && gdT u)]
      rw [eu]; rfl
    | false =>
      obtain ⟨y, rfl, rfl⟩ := ku.str eu
      refine ⟨_, rfl, _, _, _, false, rfl, .str y, rfl, _, rfl, iteF ⟨g, ?_⟩⟩
      rw [take_next hu, List.map_append, List.map_append]
      rfl
  · exact fun σ' H' Q1 Q2 hQ h => hQ _ _ h
  · rintro σ' H' Q1 Q2 hQ ⟨v, e, x, T', t', b', h1, h2, h3, c, h4, h5⟩
    refine ⟨v, e, x, T', t', b', h1, h2, h3, c, h4, ?_⟩
    by_cases hc : c = true
    · rw [if_pos hc] at h5 ⊢
      exact mono1 (mono_goodT d) _ _ _ _ hQ h5
    · rw [if_neg hc] at h5 ⊢
      exact hQ _ _ h5
  · rintro ys H' p2 ⟨g, rfl⟩ hp2
    rw [← lr, List.take_length]
    refine ⟨p2, _, rfl, SqL.of upd_same, ?_⟩
    rw [← zz]
    exact q _ ((FF.1.trans g).trans (Same.new hp2 _))
theorem ok_goodT (T : Txt P w K mg a) : ∀ d : Nat, FnOk P w K mg base CX0 (k + d) a.a_x_law_good a.d_x_law_good p_x_law_good (spGoodT d)
  | 0 => by
    refine ⟨fun vs H Q E h => ?_, fun A outer s H args us vs Q E _ _ _ _ h => ?_⟩
    · obtain ⟨p, sn, rfl, _⟩ := h
      rfl
    · obtain ⟨p, t, _, ht, hd, _⟩ := h
      have := pos_dp (t := t) (by cases t with
        | s x => cases ht
        | e => rfl
        | c a b => rfl)
      omega
  | d + 1 => ok_goodT_step T (ok_goodT T d)
end
end K01
namespace K01
open PySem L2 Sen
section
variable {P : Program} {w : World} {K : PySem.W.Frag} {mg : Str → Option Value} {base : Heap} {a : Ad} {k : Nat}
theorem ok_count_step {d : Nat} (T : Txt P w K mg a) (G_x_law_count : FnOk P w K mg base CX0 k a.a_x_law_count a.d_x_law_count p_x_law_count (spCount d)) : FnOk P w K mg base CX0 (k + 1) a.a_x_law_count a.d_x_law_count p_x_law_count (spCount (d + 1)) := by
  refine T.f_x_law_count.F.ok sc_x_law_count (fun vs H Q E h => ?_) (fun cdv A outer s H vs Q E hr h => ?_)
  · obtain ⟨p, s, rfl, _⟩ := h
    rfl
  obtain ⟨p, sn, rfl, isp, hd, q⟩ := h
  refine ⟨_, (pss_one (ps_ret (pe_op op_add pe_int (pe_callB (call_sum rfl) rfl T.n_sum bt_sum (pa_cons (pe_lc1 (osc := defScope S_x_law_count) (js := []) rfl (by show LcOk _ _ "piece" []; exact lco (by decide +kernel)) rfl (pi_tup (pe_slice sl_tup (pv 0) (po_some pe_int) po_none)) (by show ∀ j ∈ ([] : List Nat), j < 1; decide) (fun cl C s₂ H₂ fp => (pt_truthK (K := K) rfl (pe_callB (call_isinstK (K := K) rfl) rfl T.n_isinstance bt_isinstance (pa_cons (pv 0) (pa_cons (pe_bltn (v := .ty "tuple") rfl T.n_tuple bt_tuple rfl) pa_nil))) (fun _ => rfl))) (fun cl C s₂ H₂ fp => (pe_callD G_x_law_count hr T.f_x_law_count (pa_cons (pv 0) pa_nil)))) pa_nil))))), ?_⟩
  obtain ⟨zs, c1, c2, c3, c4, c5⟩ := sen_cut isp
  have lz := pd_len c2
  have lp2 := Sn.parts_le sn
  have ll1 := Sn.letters_le sn
  refine ⟨_, rfl, 1, rfl, p, _, rfl, SqT.of c1, not_whole1 (by decide), fun b hb => ?_⟩
  rw [cut_tail]
  have g0 := Same.new hb (.tup (sn.letters.map V.str ++ zs.map V.ref))
  refine ⟨b, rfl, ⟨_, SqT.of upd_same⟩, lc_tup (tt := isTupT K) (xs := sn.letters.map V.str ++ zs.map V.ref) (fun i ys H' => Same (upd H b (.tup (sn.letters.map V.str ++ zs.map V.ref))) H' ∧ ys = ((sn.parts.take (i - sn.letters.length)).map fun t => V.int ((t.count : Nat) : Int))) ⟨Same.refl _, by simp⟩ (by rw [c3]; exact Nat.le_of_lt (small1000 (by omega))) ?_ ?_ ?_ (mono1 (mono_count d)) ?_⟩
  · rintro i ys H' hi ⟨g, rfl⟩
    refine ⟨g.seqT (SqT.of upd_same), ?_⟩
    rw [List.length_map, List.length_take]
    omega
  · rintro i x ys H' hx ⟨g, rfl⟩
    by_cases hlt : i < sn.letters.length
    · rw [List.getElem?_append_left (by rw [List.length_map]; exact hlt), List.getElem?_map, List.getElem?_eq_getElem hlt] at hx
      cases hx
      refine ⟨_, rfl, _, _, _, false, rfl, .str _, rfl, _, rfl, iteF ⟨g, ?_⟩⟩
      rw [show i + 1 - sn.letters.length = i - sn.letters.length by omega]
    · rw [List.getElem?_append_right (by rw [List.length_map]; omega), List.length_map, List.getElem?_map] at hx
      cases ho : zs[i - sn.letters.length]? with
      | none => rw [ho] at hx; cases hx
      | some y =>
        rw [ho] at hx
        cases hx
        obtain ⟨t, ht, it⟩ := pd_ta c2 ho
        obtain ⟨ws, d1, _⟩ := sen_cut it
        have gg := g0.trans g
        have dp := Sn.depth_parts sn t (List.mem_of_getElem? ht)
        refine ⟨_, rfl, _, _, _, true, rfl, .tup (gg _ _ d1), rfl, _, rfl, iteT ⟨_, rfl, y, t, rfl, it.mono (Tups.of gg), by omega, fun H3 g3 => ⟨g.trans g3, ?_⟩⟩⟩
        rw [show i + 1 - sn.letters.length = (i - sn.letters.length) + 1 by omega, take_next ht, List.map_append]
        rfl
  · rintro σ' H' Q1 Q2 hQ ⟨v, e, x, T', t, b', h1, h2, h3, k', h4, h5⟩
    exact ⟨v, e, x, T', t, b', h1, h2, h3, k', h4, hQ _ _ h5⟩
  · rintro ys H' p2 ⟨g, rfl⟩ hp2
    rw [c3, show sn.letters.length + sn.parts.length - sn.letters.length = sn.parts.length by omega, List.take_length]
    have e : (sn.parts.map fun t => V.int ((t.count : Nat) : Int)) = (sn.parts.map fun t => ((t.count : Nat) : Int)).map V.int := by rw [List.map_map]; rfl
    rw [e]
    refine ⟨p2, _, rfl, SqL.of upd_same, 1, _, rfl, rfl, ?_⟩
    have e2 : (1 : Int) + (sn.parts.map fun t => ((t.count : Nat) : Int)).sum = ((sn.count : Nat) : Int) := by
      rw [sum_cast, Sn.count_parts sn]
      omega
    show Q (.int ((1 : Int) + (sn.parts.map fun t => ((t.count : Nat) : Int)).sum)) _
    rw [e2]
    exact q _ ((g0.trans g).trans (Same.new hp2 _))
theorem ok_count (T : Txt P w K mg a) : ∀ d : Nat, FnOk P w K mg base CX0 (k + d) a.a_x_law_count a.d_x_law_count p_x_law_count (spCount d)
  | 0 => by
    refine ⟨fun vs H Q E h => ?_, fun A outer s H args us vs Q E _ _ _ _ h => ?_⟩
    · obtain ⟨p, sn, rfl, _⟩ := h
      rfl
    · obtain ⟨p, sn, _, _, hd, _⟩ := h
      have := Sn.depth_pos sn
      omega
  | d + 1 => ok_count_step T (ok_count T d)
theorem ok_deep_step {d : Nat} (T : Txt P w K mg a) (G_x_law_deep : FnOk P w K mg base CX0 k a.a_x_law_deep a.d_x_law_deep p_x_law_deep (spDeep d)) : FnOk P w K mg base CX0 (k + 1) a.a_x_law_deep a.d_x_law_deep p_x_law_deep (spDeep (d + 1)) := by
  refine T.f_x_law_deep.F.ok sc_x_law_deep (fun vs H Q E h => ?_) (fun cdv A outer s H vs Q E hr h => ?_)
  · obtain ⟨p, s, rfl, _⟩ := h
    rfl
  obtain ⟨p, sn, rfl, isp, hd, q⟩ := h
  refine ⟨_, (pss_one (ps_ret (pe_op op_add pe_int (pe_maxDef (K := K) rfl rfl rfl T.n_max bt_max (pa_cons (pe_lc1 (osc := defScope S_x_law_deep) (js := []) rfl (by show LcOk _ _ "piece" []; exact lco (by decide +kernel)) rfl (pi_tup (pe_slice sl_tup (pv 0) (po_some pe_int) po_none)) (by show ∀ j ∈ ([] : List Nat), j < 1; decide) (fun cl C s₂ H₂ fp => (pt_truthK (K := K) rfl (pe_callB (call_isinstK (K := K) rfl) rfl T.n_isinstance bt_isinstance (pa_cons (pv 0) (pa_cons (pe_bltn (v := .ty "tuple") rfl T.n_tuple bt_tuple rfl) pa_nil))) (fun _ => rfl))) (fun cl C s₂ H₂ fp => (pe_callD G_x_law_deep hr T.f_x_law_deep (pa_cons (pv 0) pa_nil)))) pa_nil) pe_int)))), ?_⟩
  obtain ⟨zs, c1, c2, c3, c4, c5⟩ := sen_cut isp
  have lz := pd_len c2
  have lp2 := Sn.parts_le sn
  have ll1 := Sn.letters_le sn
  refine ⟨_, rfl, 1, rfl, p, _, rfl, SqT.of c1, not_whole1 (by decide), fun b hb => ?_⟩
  rw [cut_tail]
  have g0 := Same.new hb (.tup (sn.letters.map V.str ++ zs.map V.ref))
  refine ⟨b, rfl, ⟨_, SqT.of upd_same⟩, lc_tup (tt := isTupT K) (xs := sn.letters.map V.str ++ zs.map V.ref) (fun i ys H' => Same (upd H b (.tup (sn.letters.map V.str ++ zs.map V.ref))) H' ∧ ys = ((sn.parts.take (i - sn.letters.length)).map fun t => V.int ((t.depth : Nat) : Int))) ⟨Same.refl _, by simp⟩ (by rw [c3]; exact Nat.le_of_lt (small1000 (by omega))) ?_ ?_ ?_ (mono1 (mono_deep d)) ?_⟩
  · rintro i ys H' hi ⟨g, rfl⟩
    refine ⟨g.seqT (SqT.of upd_same), ?_⟩
    rw [List.length_map, List.length_take]
    omega
  · rintro i x ys H' hx ⟨g, rfl⟩
    by_cases hlt : i < sn.letters.length
    · rw [List.getElem?_append_left (by rw [List.length_map]; exact hlt), List.getElem?_map, List.getElem?_eq_getElem hlt] at hx
      cases hx
      refine ⟨_, rfl, _, _, _, false, rfl, .str _, rfl, _, rfl, iteF ⟨g, ?_⟩⟩
      rw [show i + 1 - sn.letters.length = i - sn.letters.length by omega]
    · rw [List.getElem?_append_right (by rw [List.length_map]; omega), List.length_map, List.getElem?_map] at hx
      cases ho : zs[i - sn.letters.length]? with
      | none => rw [ho] at hx; cases hx
      | some y =>
        rw [ho] at hx
        cases hx
        obtain ⟨t, ht, it⟩ := pd_ta c2 ho
        obtain ⟨ws, d1, _⟩ := sen_cut it
        have gg := g0.trans g
        have dp := Sn.depth_parts sn t (List.mem_of_getElem? ht)
        refine ⟨_, rfl, _, _, _, true, rfl, .tup (gg _ _ d1), rfl, _, rfl, iteT ⟨_, rfl, y, t, rfl, it.mono (Tups.of gg), by omega, fun H3 g3 => ⟨g.trans g3, ?_⟩⟩⟩
        rw [show i + 1 - sn.letters.length = (i - sn.letters.length) + 1 by omega, take_next ht, List.map_append]
        rfl
  · rintro σ' H' Q1 Q2 hQ ⟨v, e, x, T', t, b', h1, h2, h3, k', h4, h5⟩
    exact ⟨v, e, x, T', t, b', h1, h2, h3, k', h4, hQ _ _ h5⟩
  · rintro ys H' p2 ⟨g, rfl⟩ hp2
    rw [c3, show sn.letters.length + sn.parts.length - sn.letters.length = sn.parts.length by omega, List.take_length]
    have e : (sn.parts.map fun t => V.int ((t.depth : Nat) : Int)) = (sn.parts.map fun t => ((t.depth : Nat) : Int)).map V.int := by rw [List.map_map]; rfl
    rw [e]
    refine ⟨p2, _, _, rfl, rfl, SqL.of upd_same, ?_⟩
    have gz := (g0.trans g).trans (Same.new hp2 (.lst ((sn.parts.map fun t => ((t.depth : Nat) : Int)).map V.int)))
    by_cases hp : sn.parts = []
    · refine .inl ⟨by rw [hp]; rfl, 1, 0, rfl, rfl, ?_⟩
      have z := q _ gz
      rw [deep_none hp] at z
      exact z
    · refine .inr ⟨by rw [List.length_map]; exact List.length_pos_iff.mpr hp, fun M h1 h2 => ⟨1, M, rfl, rfl, ?_⟩⟩
      have z := q _ gz
      rw [← deep_max h1 h2] at z
      exact z
theorem ok_deep (T : Txt P w K mg a) : ∀ d : Nat, FnOk P w K mg base CX0 (k + d) a.a_x_law_deep a.d_x_law_deep p_x_law_deep (spDeep d)
  | 0 => by
    refine ⟨fun vs H Q E h => ?_, fun A outer s H args us vs Q E _ _ _ _ h => ?_⟩
    · obtain ⟨p, sn, rfl, _⟩ := h
      rfl
    · obtain ⟨p, sn, _, _, hd, _⟩ := h
      have := Sn.depth_pos sn
      omega
  | d + 1 => ok_deep_step T (ok_deep T d)
end
end K01
namespace K01
open PySem L2 Sen
section
variable {P : Program} {w : World} {K : PySem.W.Frag} {mg : Str → Option Value} {base : Heap} {a : Ad} {k : Nat}
theorem ok_lettersL_step {d : Nat} (T : Txt P w K mg a) (G_x_law_letters : FnOk P w K mg base CX0 k a.a_x_law_letters a.d_x_law_letters p_x_law_letters (spLettersL d)) : FnOk P w K mg base CX0 (k + 1) a.a_x_law_letters a.d_x_law_letters p_x_law_letters (spLettersL (d + 1)) := by
  refine T.f_x_law_letters.F.ok sc_x_law_letters (fun vs H Q E h => ?_) (fun cdv A outer s H vs Q E hr h => ?_)
  · obtain ⟨p, sn, rfl, _⟩ := h
    rfl
  obtain ⟨p, sn, rfl, isp, hd, hc, q⟩ := h
  obtain ⟨zs, c1, c2, c3, c4, c5⟩ := sen_cut isp
  have ll1 := Sn.letters_le sn
  have lp2 := Sn.parts_le sn
  have lz := pd_len c2
  have cp := Sn.count_parts sn
  refine cut0 ?_
  refine cutK (fun σ H' => ∃ f : Addr, Same H H' ∧ H' f = some (.lst (sn.letters.map V.str)) ∧ σ = [some (.ref p), some (.ref f), none]) (fun t z => (pss_cons (ps_setA 1 sc_x_law_letters.nd (pe_lst pa_nil))
      (pss_cons (ps_if (pt_cmpR op_in_seq (pe_ix ix_tup (pv 0) pe_int (fun _ _ => rfl)) (pe_strsT (xs := ["mark", "some", "each"]) (by rfl)) (by with_unfolding_all rfl)) (pss_one (ps_expr (pe_bm PySem.F.plainAttrs_list PySem.F.slot_list_append PySem.F.type_list_append mt_append (pv 1) (pa_cons (pe_ix ix_tup (pv 0) pe_int (fun _ _ => rfl)) pa_nil)))) pss_nil)
      z))) ?_ ?_
  · rintro u hu σ H' ⟨rfl, rfl⟩
    refine ⟨by show 0 ≤ sizeLine; decide, fun f hf => ?_⟩
    have g1 := Same.new hf (.lst [])
    have e1 : upd H' f (.lst []) f = some _ := upd_same
    generalize hH1 : upd H' f (.lst []) = H1 at g1 e1 ⊢
    refine ⟨_, rfl, p, _, 0, _, rfl, rfl, SqT.of (g1 _ _ c1), at0, by show 3 ≤ sizeLine; decide, fun t ht => ?_⟩
    have g2 := Same.new ht (.tup ((["mark", "some", "each"] : List Str).map V.str))
    have e2 : upd H1 t (.tup ((["mark", "some", "each"] : List Str).map V.str)) t = some _ := upd_same
    generalize upd H1 t _ = H2 at g2 e2 ⊢
    refine ⟨t, _, rfl, .inr (SqT.of e2), rfl, flat_strs _, _, rfl, ite2 (fun e => ?_) (fun e => ?_)⟩
    · have e : inV (.str sn.word) ((["mark", "some", "each"] : List Str).map V.str) = true := e
      rw [inV_strs] at e
      rcases word_letters sn with ⟨_, x, hx⟩ | ⟨hn, _⟩
      · rw [hx] at c1
        refine ⟨_, rfl, .inl ⟨rfl, _, SqL.of (g2 _ _ e1)⟩, _, rfl, p, _, 1, .str x, rfl, rfl, SqT.of (g2 _ _ (g1 _ _ c1)), at1, ?_⟩
        refine ⟨f, [], .str x, rfl, rfl, g2 _ _ e1, by decide, ?_⟩
        refine hu _ _ ⟨f, ?_, by rw [hx]; exact upd_same, rfl⟩
        exact fun b o hb => by rw [upd_ne (ne_of_none hb hf)]; exact g2 _ _ (g1 _ _ hb)
      · exact absurd (of_decide_eq_true e) hn
    · rcases word_letters sn with ⟨hm, _⟩ | ⟨_, hx⟩
      · exact absurd (by show inV (.str sn.word) ((["mark", "some", "each"] : List Str).map V.str) = true; rw [inV_strs]; exact decide_eq_true hm) e
      · exact hu _ _ ⟨f, g1.trans g2, by rw [hx]; exact g2 _ _ e1, rfl⟩
  refine ⟨_, (pss_cons (ps_for PassesOwn.never rfl (pi_tup (pe_slice sl_tup (pv 0) (po_some pe_int) po_none)) (pg_name (i := 2) sc_x_law_letters.nd rfl (Or.inl rfl)) (pss_one (ps_if (pt_truth (pe_callB call_isinst rfl T.n_isinstance bt_isinstance (pa_cons (pv 2) (pa_cons (pe_bltn (v := .ty "tuple") rfl T.n_tuple bt_tuple rfl) pa_nil))) (fun _ => rfl)) (pss_one (ps_setA 1 sc_x_law_letters.nd (pe_op op_addL (pv 1) (pe_callD G_x_law_letters hr T.f_x_law_letters (pa_cons (pv 2) pa_nil))))) pss_nil)))
      (pss_one (ps_ret (pv 1)))), ?_⟩
  rintro σ H1 ⟨f, g1, hf, rfl⟩
  refine ⟨_, rfl, 1, rfl, p, _, rfl, SqT.of (g1 _ _ c1), not_whole1 (by decide), fun b hb => ?_⟩
  rw [cut_tail]
  have g2 := Same.new hb (.tup (sn.letters.map V.str ++ zs.map V.ref))
  have e2 : upd H1 b (.tup (sn.letters.map V.str ++ zs.map V.ref)) b = some _ := upd_same
  generalize upd H1 b _ = H2 at g2 e2 ⊢
  have g02 := g1.trans g2
  refine ⟨b, rfl, ⟨_, SqT.of e2⟩, ?_⟩
  refine for_tup (xs := sn.letters.map V.str ++ zs.map V.ref) (fun i σ H' => ∃ (l : Addr) (xs : List Str) (f2 : Option V), Same H2 H' ∧ H' l = some (.lst (xs.map V.str)) ∧ (∀ x, x ∈ xs ↔ (x ∈ sn.letters ∨ ∃ t ∈ sn.parts.take (i - sn.letters.length), x ∈ t.all)) ∧ xs.length ≤ 1 + ((sn.parts.take (i - sn.letters.length)).map Sn.count).sum ∧ σ = [some (.ref p), some (.ref l), f2]) ⟨f, sn.letters, none, Same.refl _, g2 _ _ hf, fun x => by simp, by omega, rfl⟩ (fun i σ H' _ ⟨_, _, _, g, _⟩ => SqT.of (g _ _ e2)) ?_ ?_
  · rintro i v σ H3 hx ⟨l, xs, f2, g3, hl, hm, hle, rfl⟩
    by_cases hlt : i < sn.letters.length
    · rw [List.getElem?_append_left (by rw [List.length_map]; exact hlt), List.getElem?_map, List.getElem?_eq_getElem hlt] at hx
      cases hx
      refine ⟨_, rfl, _, _, _, false, rfl, .str _, rfl, _, rfl, iteF ⟨l, xs, _, g3, hl, ?_, ?_, rfl⟩⟩
      · rw [show i + 1 - sn.letters.length = i - sn.letters.length by omega]; exact hm
      · rw [show i + 1 - sn.letters.length = i - sn.letters.length by omega]; exact hle
    · rw [List.getElem?_append_right (by rw [List.length_map]; omega), List.length_map, List.getElem?_map] at hx
      cases ho : zs[i - sn.letters.length]? with
      | none => rw [ho] at hx; cases hx
      | some y =>
        rw [ho] at hx
        cases hx
        obtain ⟨t, ht, it⟩ := pd_ta c2 ho
        obtain ⟨ws, d1, _⟩ := sen_cut it
        have gg := g02.trans g3
        have dp := Sn.depth_parts sn t (List.mem_of_getElem? ht)
        have pc := part_count (List.mem_of_getElem? ht)
        have et : sn.parts.take (i + 1 - sn.letters.length) = sn.parts.take (i - sn.letters.length) ++ [t] := by
          rw [show i + 1 - sn.letters.length = (i - sn.letters.length) + 1 by omega, take_next ht]
        have sm := sum_take_le sn.parts (i + 1 - sn.letters.length)
        rw [et, List.map_append, List.sum_append] at sm
        have sm : ((sn.parts.take (i - sn.letters.length)).map Sn.count).sum + (t.count + 0) ≤ (sn.parts.map Sn.count).sum := sm
        refine ⟨_, rfl, _, _, _, true, rfl, .tup (gg _ _ d1), rfl, _, rfl, iteT ⟨_, rfl, _, rfl, y, t, rfl, it.mono (Tups.of gg), by omega, by omega, fun l4 H4 ys g4 hl4 hm4 hle4 => ?_⟩⟩
        refine ⟨l, l4, _, _, rfl, rfl, SqL.of (g4 _ _ hl), SqL.of hl4, ?_, fun l5 hl5 => ?_⟩
        · rw [List.length_map, List.length_map]
          exact Nat.le_trans (show xs.length + ys.length ≤ 1000 by omega) (by decide)
        · refine ⟨l5, xs ++ ys, _, (g3.trans g4).trans (Same.new hl5 _), ?_, ?_, ?_, rfl⟩
          · rw [upd_same, List.map_append]
          · intro x
            rw [List.mem_append, hm, hm4, et]
            constructor
            · rintro ((h | ⟨t', h1, h2⟩) | h)
              · exact .inl h
              · exact .inr ⟨t', List.mem_append_left _ h1, h2⟩
              · exact .inr ⟨t, List.mem_append_right _ (by simp), h⟩
            · rintro (h | ⟨t', h1, h2⟩)
              · exact .inl (.inl h)
              · rcases List.mem_append.mp h1 with h1 | h1
                · exact .inl (.inr ⟨t', h1, h2⟩)
                · rw [List.mem_singleton.mp h1] at h2
                  exact .inr h2
          · rw [List.length_append, et, List.map_append, List.sum_append]
            show xs.length + ys.length ≤ 1 + (((sn.parts.take (i - sn.letters.length)).map Sn.count).sum + (t.count + 0))
            omega
  · rintro σ H3 ⟨l, xs, f2, g3, hl, hm, hle, rfl⟩
    rw [c3, show sn.letters.length + sn.parts.length - sn.letters.length = sn.parts.length by omega, List.take_length] at hm hle
    refine ⟨_, rfl, q l H3 xs (g02.trans g3) hl (fun x => ?_) (by omega)⟩
    rw [hm, Sn.all_iff]
theorem ok_lettersL (T : Txt P w K mg a) : ∀ d : Nat, FnOk P w K mg base CX0 (k + d) a.a_x_law_letters a.d_x_law_letters p_x_law_letters (spLettersL d)
  | 0 => by
    refine ⟨fun vs H Q E h => ?_, fun A outer s H args us vs Q E _ _ _ _ h => ?_⟩
    · obtain ⟨p, sn, rfl, _⟩ := h
      rfl
    · obtain ⟨p, sn, _, _, hd, _, _⟩ := h
      have := Sn.depth_pos sn
      omega
  | d + 1 => ok_lettersL_step T (ok_lettersL T d)
theorem ok_whole (T : Txt P w K mg a) : FnOk P w K mg base CX0 (k + 1) a.a_x_law_whole a.d_x_law_whole p_x_law_whole spWhole := by
  refine T.f_x_law_whole.F.ok sc_x_law_whole (fun vs H Q E h => ?_) (fun cdv A outer s H vs Q E hr h => ?_)
  · obtain ⟨i, rfl, _⟩ := h
    rfl
  obtain ⟨i, rfl, q⟩ := h
  refine ⟨_, (pss_one (ps_ret (pe_and (pe_callB call_isinst rfl T.n_isinstance bt_isinstance (pa_cons (pv 0) (pa_cons (pe_bltn (v := .ty "int") rfl T.n_int bt_int rfl) pa_nil))) (pe_one (pe_not (pe_callB call_isinst rfl T.n_isinstance bt_isinstance (pa_cons (pv 0) (pa_cons (pe_bltn (v := .ty "bool") rfl T.n_bool bt_bool rfl) pa_nil)))))))), ?_⟩
  refine ⟨_, rfl, _, _, _, true, rfl, .int i, rfl, true, rfl, iteT ?_⟩
  exact ⟨_, rfl, _, _, _, false, rfl, .int i, rfl, false, rfl, q⟩
theorem ok_cell_f (T : Txt P w K mg a) : FnOk P w K mg base CX0 (k + 1) a.a_x_law_cell_at a.d_x_law_cell_at p_x_law_cell_at (spCellF K) := by
  refine T.f_x_law_cell_at.F.ok sc_x_law_cell_at (fun vs H Q E h => ?_) (fun cdv A outer s H vs Q E hr h => ?_)
  · obtain ⟨l, ns, i, rfl, _⟩ := h
    rfl
  obtain ⟨l, ns, i, rfl, hS, q⟩ := h
  refine ⟨_, (pss_cons (ps_if (pt_cmpR op_lt (pv 1) (pe_callB call_len_seq rfl T.n_len bt_len (pa_cons (pv 0) pa_nil)) (nomark _)) (pss_one (ps_ret (pe_ix ix_list (pv 0) (pv 1) (fun _ _ => rfl)))) pss_nil)
      (pss_one (ps_ret pe_int))), ?_⟩
  refine ⟨_, rfl, _, rfl, l, _, rfl, .inl hS, _, _, rfl, rfl, _, rfl, ?_⟩
  refine ite2 (fun c => ?_) (fun c => ?_)
  · have c' : (i : Int) < (((ns.map V.int).length : Nat) : Int) := of_decide_eq_true c
    rw [List.length_map] at c'
    have hi : i < ns.length := by omega
    have ec : cellF ns i = ns[i] := by unfold cellF; rw [List.getElem?_eq_getElem hi]; rfl
    rw [ec] at q
    exact ⟨_, rfl, _, rfl, l, _, i, _, rfl, rfl, hS, atI_nat (by rw [List.getElem?_map, List.getElem?_eq_getElem hi]; rfl), q⟩
  · have hi : ns.length ≤ i := by
      refine Nat.le_of_not_lt fun hlt => c (decide_eq_true ?_)
      rw [List.length_map]; omega
    have ec : cellF ns i = 0 := by unfold cellF; rw [List.getElem?_eq_none hi]; rfl
    rw [ec] at q
    exact q
end
end K01
namespace K01
open PySem L2 Sen
section
variable {P : Program} {w : World} {K : PySem.W.Frag} {mg : Str → Option Value} {base : Heap} {a : Ad} {k : Nat}
theorem ok_spoilt_step {d : Nat} (T : Txt P w K mg a) (G_x_law_spoilt : FnOk P w K mg base CX0 k a.a_x_law_spoilt a.d_x_law_spoilt p_x_law_spoilt (spSpoilt d)) : FnOk P w K mg base CX0 (k + 1) a.a_x_law_spoilt a.d_x_law_spoilt p_x_law_spoilt (spSpoilt (d + 1)) := by
  refine T.f_x_law_spoilt.F.ok sc_x_law_spoilt (fun vs H Q E h => ?_) (fun cdv A outer s H vs Q E hr h => ?_)
  · obtain ⟨p, sn, c, rfl, _⟩ := h
    rfl
  obtain ⟨p, sn, c, rfl, hs, hd, q⟩ := h
  have ht := sen_tree hs
  obtain ⟨vs, c1, c2⟩ := ht.cut
  obtain ⟨r, er, lr⟩ := tr_items sn
  rw [er] at c2
  cases c2 with
  | @cons _ v0 _ us h0 c2 =>
  cases h0
  have lu := pd_len c2
  have pdp : ∀ {i : Nat} {u : Tr}, r[i]? = some u → u.tup = true → ∃ s' : Sn, u = trS s' ∧ s'.depth + 1 ≤ sn.depth := fun {i u} h e => tr_part (by rw [er]; exact List.mem_cons_of_mem _ (List.mem_of_getElem? h)) e
  have hlen : (V.str sn.word :: us).length = r.length + 1 := by rw [List.length_cons, lu]
  refine cut0 ?_
  refine cutK (fun σ H' => ∃ (pl : Addr) (F : List Nat), Same H H' ∧ H' pl = some (.lst (F.map fun (i : Nat) => V.int ((1 : Int) + i))) ∧ (∀ i ∈ F, ∃ u, r[i]? = some u ∧ u.tup = true) ∧ σ = [some (.ref p), some (.int c), some (.ref pl), none, none]) (fun t z => (pss_cons (ps_setLC (i := 2) sc_x_law_spoilt.nd rfl (Or.inl rfl) (.inl rfl) (osc := defScope S_x_law_spoilt) (js := [0]) rfl (by show LcOk _ _ "k" ["some"]; exact lco (by decide +kernel)) rfl (pi_range2 rfl T.n_range (pa_cons pe_int (pa_cons (pe_callB call_len_seq rfl T.n_len bt_len (pa_cons (pv 0) pa_nil)) pa_nil))) (by show ∀ j ∈ ([0] : List Nat), j < 5; decide) (fun cl C s₂ H₂ fp pins s' σ' H' Q I h => tests_by I h (pt_truthK (K := K) rfl (pe_callB (call_isinstK (K := K) rfl) rfl T.n_isinstance bt_isinstance (pa_cons (pe_ix (ix_tupK (K := K) rfl) (pv 1) (pv 0) (fun _ _ => rfl)) (pa_cons (pe_bltn (v := .ty "tuple") rfl T.n_tuple bt_tuple rfl) pa_nil))) (fun _ => rfl))) (fun cl C s₂ H₂ fp => (pv 0)) rfl)
      z)) ?_ ?_
  · rintro u hu σ H' ⟨rfl, rfl⟩
    refine ⟨_, rfl, p, _, rfl, .inr (SqT.of c1), 1, (((V.str sn.word :: us).length : Nat) : Int), rfl, ⟨by decide, by decide, by rw [hlen]; omega, by rw [hlen]; omega⟩, ?_⟩
    have en : ((((V.str sn.word :: us).length : Nat) : Int) - 1).toNat = r.length := by rw [hlen]; omega
    rw [en]
    refine lc_filtRo (lo := 1) (n := r.length) (js := [0]) (te := tVar 0) (tt := fun σ H Q =>
        tCB
          (fun xs H Q =>
            ∃ x T t b, xs = [x, V.ty T] ∧ TyOf K H x t ∧ W.kitOne K t (Value.type T) = some b ∧ Q (V.bl b) H)
          (tCons (tOp (rIxT K) (tVar 1) (tVar 0)) (tCons (tC (V.ty "tuple")) tNil)) σ H fun x H' =>
          ∃ k, TruV K x H' k ∧ Q k H') (fun i => ((r[i]?).map Tr.tup).getD false) (Nat.le_trans lr (by decide)) (fun x H1 Q1 h => ⟨_, rfl, h⟩) ?_ ?_
    · intro i H1 Q1 hi g hQ
      obtain ⟨u1, v1, k1, k2, k3⟩ := pd_getW i c2 hi
      have k3 := IsT.mono k3 (Tups.of g)
      have ea : (1 : Int) + (i : Int) = ((1 + i : Nat) : Int) := by omega
      have hat : atI (V.str sn.word :: us) ((1 : Int) + (i : Int)) = some v1 := by
        rw [ea]
        refine atI_nat ?_
        rw [Nat.add_comm]
        exact k2
      have hQ := hQ _ g
      rw [k1] at hQ
      cases eu : u1.tup with
      | true =>
        obtain ⟨p2, rfl⟩ := k3.tup eu
        obtain ⟨ws, d2, _⟩ := k3.cut
        refine ⟨_, rfl, _, rfl, p, _, _, _, rfl, rfl, SqT.of (g _ _ c1), hat, _, _, _, true, rfl, .tup d2, rfl, _, rfl, ?_⟩
        have hQ : Q1 u1.tup H1 := hQ
        rw [eu] at hQ
        exact hQ
      | false =>
        obtain ⟨y, rfl, rfl⟩ := k3.str eu
        exact ⟨_, rfl, _, rfl, p, _, _, _, rfl, rfl, SqT.of (g _ _ c1), hat, _, _, _, false, rfl, .str y, rfl, _, rfl, hQ⟩
    · intro H1 pl g hpl
      refine hu _ _ ⟨pl, _, g.trans (Same.new hpl _), upd_same, fun i hi => ?_, rfl⟩
      have h2 := (List.mem_filter.mp hi).2
      cases hri : r[i]? with
      | none => rw [hri] at h2; cases h2
      | some u1 => rw [hri] at h2; exact ⟨u1, rfl, h2⟩
  refine cutK (fun σ H' => ∃ (f2 : Option V), Same H H' ∧ σ = [some (.ref p), some (.int c), f2, none, none]) (fun t z => (pss_cons (ps_if (PW.pt (pw_and (pt_cmpR op_gt (pe_callB call_len_seq rfl T.n_len bt_len (pa_cons (pv 2) pa_nil)) pe_int (nomark _)) (pw_and1 (pt_cmpR op_gt (pe_op op_mod (pv 1) pe_int) pe_int (nomark _))))) (pss_cons (ps_setA 4 sc_x_law_spoilt.nd (pe_ix ix_list (pv 2) (pe_op op_mod (pe_op op_fdiv (pv 1) pe_int) (pe_callB call_len_seq rfl T.n_len bt_len (pa_cons (pv 2) pa_nil))) (fun _ _ => rfl)))
      (pss_one (ps_ret (pe_op (op_addT (K := K) rfl) (pe_op (op_addT (K := K) rfl) (pe_slice sl_tup (pv 0) po_none (po_some (pv 4))) (pe_tup (pa_cons (pe_callD G_x_law_spoilt hr T.f_x_law_spoilt (pa_cons (pe_ix ix_tup (pv 0) (pv 4) (fun _ _ => rfl)) (pa_cons (pe_op op_fdiv (pv 1) pe_int) pa_nil))) pa_nil))) (pe_slice sl_tup (pv 0) (po_some (pe_op op_add (pv 4) pe_int)) po_none))))) pss_nil)
      z)) ?_ ?_
  · rintro u hu σ H1 ⟨pl, F, g1, hpl, hF, rfl⟩
    refine ⟨_, rfl, pl, _, rfl, .inl (SqL.of hpl), _, _, rfl, rfl, _, rfl, ite2 (fun e => ?_) (fun _ => ite2 (fun z => nomatch z) (fun _ => hu _ _ ⟨_, g1, rfl⟩))⟩
    refine ⟨_, rfl, _, _, rfl, rfl, (by decide : (0 : Int) < 3), _, _, rfl, rfl, _, rfl, ite2 (fun _ => ?_) (fun _ => hu _ _ ⟨_, g1, rfl⟩)⟩
    have lF : (F.map fun (i : Nat) => V.int ((1 : Int) + i)).length = F.length := List.length_map _
    have p0 : 0 < F.length := by
      have := of_decide_eq_true e
      rw [lF] at this
      omega
    have md := mod_in (c / 3) (m := (F.length : Nat)) (by omega)
    obtain ⟨j, ej⟩ : ∃ j : Nat, c / 3 % ((F.length : Nat) : Int) = (j : Nat) := ⟨(c / 3 % ((F.length : Nat) : Int)).toNat, by omega⟩
    have hj : j < F.length := by omega
    have hFj : F[j]? = some F[j] := List.getElem?_eq_getElem hj
    generalize F[j] = i at hFj
    obtain ⟨ui, hui, tui⟩ := hF i (List.mem_of_getElem? hFj)
    obtain ⟨s', rfl, hds⟩ := pdp hui tui
    have ilt : i < r.length := (List.getElem?_eq_some_iff.mp hui).1
    obtain ⟨u1, v1, k1, k2, k3⟩ := pd_getW i c2 ilt
    rw [hui] at k1
    cases k1
    obtain ⟨qv, rfl⟩ := IsT.tup k3 (trS_tup s')
    have ea : (1 : Int) + (i : Int) = ((1 + i : Nat) : Int) := by omega
    have hat : atI (V.str sn.word :: us) ((1 + i : Nat) : Int) = some (.ref qv) := by
      refine atI_nat ?_
      rw [Nat.add_comm]
      exact k2
    refine ⟨_, rfl, _, rfl, c, 3, rfl, rfl, ⟨by decide, by decide⟩, _, rfl, pl, _, rfl, .inl (SqL.of hpl), c / 3, _, rfl, rfl, by rw [lF]; omega, pl, _, _, .int ((1 + i : Nat) : Int), rfl, rfl, SqL.of hpl, ?_, ?_⟩
    · rw [lF, ej]
      refine atI_nat ?_
      rw [List.getElem?_map, hFj, ← ea]
      rfl
    have c1 := g1 _ _ c1
    refine ⟨_, rfl, _, rfl, _, rfl, p, _, rfl, SqT.of c1, ?_, fun b hb => ?_⟩
    · rintro ⟨_, h2⟩
      rw [HT.sIx_nat, hlen] at h2
      omega
    rw [cut_head]
    have g2 := Same.new hb (.tup ((V.str sn.word :: us).take (1 + i)))
    have e2 : upd H1 b (.tup ((V.str sn.word :: us).take (1 + i))) b = some _ := upd_same
    generalize upd H1 b _ = H2 at g2 e2 ⊢
    have g02 := g1.trans g2
    refine ⟨_, rfl, _, rfl, p, _, _, _, rfl, rfl, SqT.of (g2 _ _ c1), hat, _, rfl, c, 9, rfl, rfl, ⟨by decide, by decide⟩, qv, s', c / 9, rfl, isS_of (IsT.mono k3 (Tups.of g02)), by omega, fun p' H3 t' g3 ht' hd' => ?_⟩
    refine ⟨by show 1 ≤ sizeLine; decide, fun b2 hb2 => ?_⟩
    have g4 := Same.new hb2 (.tup [.ref p'])
    have e4 : upd H3 b2 (.tup [.ref p']) b2 = some _ := upd_same
    generalize upd H3 b2 _ = H4 at g4 e4 ⊢
    have lt : ((V.str sn.word :: us).take (1 + i)).length = 1 + i := by rw [List.length_take, hlen]; omega
    refine ⟨b, b2, _, _, rfl, rfl, SqT.of (g4 _ _ (g3 _ _ e2)), SqT.of e4, fun z => by rw [z] at lt; have lt : 0 = 1 + i := lt; omega, by rw [lt]; exact Nat.le_trans (show 1 + i + 1 ≤ 9 by omega) (by decide), (fun z => nomatch z), fun _ b3 hb3 => ?_⟩
    have g5 := Same.new hb3 (.tup ((V.str sn.word :: us).take (1 + i) ++ [.ref p']))
    have e5 : upd H4 b3 (.tup ((V.str sn.word :: us).take (1 + i) ++ [.ref p'])) b3 = some _ := upd_same
    generalize upd H4 b3 _ = H5 at g5 e5 ⊢
    have g35 := (g3.trans g4).trans g5
    have g05 := g02.trans g35
    have final : ∀ (b' : Addr) (H' : Hp), Same H5 H' → H' b' = some (.tup ((V.str sn.word :: us).take (1 + i) ++ [.ref p'] ++ us.drop (1 + i))) → Q (.ref b') H' := fun b' H' g6 e6 => by
      have g06 := g05.trans g6
      have cH : Paired (IsT H') (.s sn.word :: r) (.str sn.word :: us) := .cons rfl (pd_imp (fun _ _ k => IsT.mono k (Tups.of g06)) c2)
      have cT := pd_app (pd_app (pdTake (1 + i) cH) (.cons (IsT.mono (IsT.mono (IsT.mono ht' (Tups.of (g4.trans g5))) (Tups.of g6)) (Tups.refl _)) .nil)) (pdDrop (2 + i) cH)
      have ed : (V.str sn.word :: us).drop (2 + i) = us.drop (1 + i) := by rw [show 2 + i = (1 + i) + 1 by omega, List.drop_succ_cons]
      rw [ed] at cT
      refine q b' H' _ g06 (mkT_is cT e6) ?_
      have et : (Tr.s sn.word :: r).take (1 + i) = .s sn.word :: r.take i := by rw [Nat.add_comm, List.take_succ_cons]
      have hm := mkT_items ((Tr.s sn.word :: r).take (1 + i) ++ [t'] ++ (Tr.s sn.word :: r).drop (2 + i))
      rw [et, List.cons_append, List.cons_append] at hm
      rw [et, List.cons_append, List.cons_append, dpT_cons hm]
      have mx : ∀ u ∈ r, dpT u ≤ sn.depth := fun u hu => by
        have h1 := dp_in hu
        have h2 := dpT_cons er
        have h3 := (trS_meas sn).2
        omega
      have : maxD (r.take i ++ [t'] ++ (Tr.s sn.word :: r).drop (2 + i)) ≤ sn.depth + 1 := maxD_le fun u hu => by
        rcases List.mem_append.mp hu with hu | hu
        · rcases List.mem_append.mp hu with hu | hu
          · have := mx u (List.mem_of_mem_take hu); omega
          · rw [List.mem_singleton.mp hu]; omega
        · rw [show 2 + i = (1 + i) + 1 by omega, List.drop_succ_cons] at hu
          have := mx u (List.mem_of_mem_drop hu); omega
      omega
    refine ⟨_, rfl, _, rfl, _, _, rfl, rfl, _, rfl, p, _, rfl, SqT.of (g35 _ _ (g2 _ _ c1)), not_whole1 (by omega), fun b4 hb4 => ?_⟩
    have ec : cutV (V.str sn.word :: us) (some (((1 + i : Nat) : Int) + 1)) none = us.drop (1 + i) := by
      have := cut_rear (w := V.str sn.word) (rest := us) (m := 1 + i) (n := us.length - (1 + i)) (by omega)
      rw [← this]
      congr 2
      omega
    rw [ec]
    have g6 := Same.new hb4 (.tup (us.drop (1 + i)))
    have e6 : upd H5 b4 (.tup (us.drop (1 + i))) b4 = some _ := upd_same
    generalize upd H5 b4 _ = H6 at g6 e6 ⊢
    refine ⟨b3, b4, _, _, rfl, rfl, SqT.of (g6 _ _ e5), SqT.of e6, by simp, ?_, fun z => ?_, fun _ b5 hb5 => ?_⟩
    · rw [List.length_append, lt, List.length_drop]
      exact Nat.le_trans (show 1 + i + 1 + (us.length - (1 + i)) ≤ 9 by omega) (by decide)
    · refine final b3 H6 g6 ?_
      rw [z, List.append_nil]
      exact g6 _ _ e5
    · exact final b5 _ (g6.trans (Same.new hb5 _)) upd_same
  refine ⟨_, (@pss_cons _ _ _ _ _ (@ps_setA _ _ 3 _ _ _ _ (by exact sc_x_law_spoilt.nd) (@pe_lit1 _ _ (lsq (od1 (dS sn))) (dS sn) 9 0 "some" (by rfl) (by rfl) (by first | exact Or.inl rfl | exact Or.inr (Or.inl rfl) | exact Or.inr (Or.inr rfl)) (by decide) (by decide)) (by rfl) (by first | exact Or.inl rfl | exact Or.inr rfl) (by rfl) (by first | exact .inl rfl | exact .inr rfl))
      (by exact (@pss_cons _ _ _ _ _ (@ps_setA _ _ 3 _ _ _ _ (by exact sc_x_law_spoilt.nd) (@pe_op _ _ _ _ _ _ _ _ op_addL (pv 3) (@pe_lit1 _ _ (lsq (od2 (dS sn))) (dS sn) 9 0 "some" (by rfl) (by rfl) (by first | exact Or.inl rfl | exact Or.inr (Or.inl rfl) | exact Or.inr (Or.inr rfl)) (by decide) (by decide))) (by rfl) (by first | exact Or.inl rfl | exact Or.inr rfl) (by rfl) (by first | exact .inl rfl | exact .inr rfl))
      (by exact (@pss_cons _ _ _ _ _ (@ps_setA _ _ 3 _ _ _ _ (by exact sc_x_law_spoilt.nd) (@pe_op _ _ _ _ _ _ _ _ op_addL (pv 3) (@pe_lit1 _ _ (lsq (od3 (dS sn))) (dS sn) 9 0 "some" (by rfl) (by rfl) (by first | exact Or.inl rfl | exact Or.inr (Or.inl rfl) | exact Or.inr (Or.inr rfl)) (by decide) (by decide))) (by rfl) (by first | exact Or.inl rfl | exact Or.inr rfl) (by rfl) (by first | exact .inl rfl | exact .inr rfl))
      (by exact (@pss_cons _ _ _ _ _ (@ps_setA _ _ 3 _ _ _ _ (by exact sc_x_law_spoilt.nd) (@pe_op _ _ _ _ _ _ _ _ op_addL (pv 3) (@pe_lit1 _ _ (lsq (od4 (dS sn))) (dS sn) 9 0 "some" (by rfl) (by rfl) (by first | exact Or.inl rfl | exact Or.inr (Or.inl rfl) | exact Or.inr (Or.inr rfl)) (by decide) (by decide))) (by rfl) (by first | exact Or.inl rfl | exact Or.inr rfl) (by rfl) (by first | exact .inl rfl | exact .inr rfl))
      (by exact (pss_one (ps_ret (pe_ix ix_list (pv 3) (pe_op op_mod (pe_op op_fdiv (pv 1) pe_int) pe_int) (fun _ _ => rfl)))))))))))), ?_⟩
  rintro σ H1 ⟨f2, g1, rfl⟩
  have hW : ∀ {H' : Hp}, Same H H' → IsW H' (dS sn) (.ref p) := fun g => IsW.mono (dS_is hs) g
  refine ⟨hol1 rfl (hW g1), fun v2 H2 g2 hv2 => ?_⟩
  obtain ⟨p2, x2, rfl, h2, d2⟩ := IsW.lsq hv2
  have g02 := g1.trans g2
  refine ⟨_, rfl, hol1 rfl (hW g02), fun v3 H3 g3 hv3 => ?_⟩
  obtain ⟨p3, x3, rfl, h3, d3⟩ := IsW.lsq hv3
  have l2 : x2.length = 8 := (Paired.length d2).symm
  have l3 : x3.length = 5 := (Paired.length d3).symm
  refine ⟨p2, p3, x2, x3, rfl, rfl, SqL.of (g3 _ _ h2), SqL.of h3, by rw [l2, l3]; decide, fun p4 hp4 => ?_⟩
  have g4 := Same.new hp4 (.lst (x2 ++ x3))
  have e4 : upd H3 p4 (.lst (x2 ++ x3)) p4 = some _ := upd_same
  generalize upd H3 p4 _ = H4 at g4 e4 ⊢
  have d4 := pd_app (pdW_mono (g3.trans g4) d2) (pdW_mono g4 d3)
  have g04 := g02.trans (g3.trans g4)
  refine ⟨_, rfl, hol1 rfl (hW g04), fun v5 H5 g5 hv5 => ?_⟩
  obtain ⟨p5, x5, rfl, h5, d5⟩ := IsW.lsq hv5
  have l5 : x5.length = 1 := (Paired.length d5).symm
  refine ⟨p4, p5, _, x5, rfl, rfl, SqL.of (g5 _ _ e4), SqL.of h5, by rw [List.length_append, l2, l3, l5]; decide, fun p6 hp6 => ?_⟩
  have g6 := Same.new hp6 (.lst (x2 ++ x3 ++ x5))
  have e6 : upd H5 p6 (.lst (x2 ++ x3 ++ x5)) p6 = some _ := upd_same
  generalize upd H5 p6 _ = H6 at g6 e6 ⊢
  have d6 := pd_app (pdW_mono (g5.trans g6) d4) (pdW_mono g6 d5)
  have g06 := g04.trans (g5.trans g6)
  refine ⟨_, rfl, hol1 rfl (hW g06), fun v7 H7 g7 hv7 => ?_⟩
  obtain ⟨p7, x7, rfl, h7, d7⟩ := IsW.lsq hv7
  have l7 : x7.length = 6 := (Paired.length d7).symm
  refine ⟨p6, p7, _, x7, rfl, rfl, SqL.of (g7 _ _ e6), SqL.of h7, by rw [List.length_append, List.length_append, l2, l3, l5, l7]; decide, fun p8 hp8 => ?_⟩
  have g8 := Same.new hp8 (.lst (x2 ++ x3 ++ x5 ++ x7))
  have e8 : upd H7 p8 (.lst (x2 ++ x3 ++ x5 ++ x7)) p8 = some _ := upd_same
  generalize upd H7 p8 _ = H8 at g8 e8 ⊢
  have d8 := pd_app (pdW_mono (g7.trans g8) d6) (pdW_mono g8 d7)
  have g08 := g06.trans (g7.trans g8)
  refine ⟨_, rfl, _, rfl, c, 3, rfl, rfl, ⟨by decide, by decide⟩, _, _, rfl, rfl, (by decide : (0 : Int) < 20), ?_⟩
  obtain ⟨z, dd, j, k4, k5, k6, k7⟩ := pick d8 (mod_in (c / 3) (m := 20) (by decide)).1 (mod_in (c / 3) (m := 20) (by decide)).2
  obtain ⟨o1, o2⟩ := dS_ok sn
  obtain ⟨m1, m2, m3⟩ := od_ok (n := sn.depth) o1 (by rw [o2, (trS_meas sn).2]; exact Nat.le_refl _) (Sn.depth_pos sn) dd k6
  have kt := IsW.tree k7 m1
  obtain ⟨pz, rfl⟩ := IsT.tup kt m2
  exact ⟨p8, _, _, _, rfl, rfl, SqL.of e8, k4, q pz H8 _ g08 kt m3⟩
theorem ok_spoilt (T : Txt P w K mg a) : ∀ d : Nat, FnOk P w K mg base CX0 (k + d) a.a_x_law_spoilt a.d_x_law_spoilt p_x_law_spoilt (spSpoilt d)
  | 0 => by
    refine ⟨fun vs H Q E h => ?_, fun A outer s H args us vs Q E _ _ _ _ h => ?_⟩
    · obtain ⟨p, sn, c, rfl, _⟩ := h
      rfl
    · obtain ⟨p, sn, c, _, _, hd, _⟩ := h
      have := Sn.depth_pos sn
      omega
  | d + 1 => ok_spoilt_step T (ok_spoilt T d)
end
end K01
namespace K01
open PySem L2 Sen
section
variable {P : Program} {w : World} {K : PySem.W.Frag} {mg : Str → Option Value} {base : Heap} {a : Ad} {k : Nat}
theorem ok_law_great (T : Txt P w K mg a) : FnOk P w K mg base CX0 (k + 1) a.a_x_law_great a.d_x_law_great p_x_law_great spGreat := by
  refine T.f_x_law_great.F.ok sc_x_law_great (fun vs H Q E h => ?_) (fun cdv A outer s H vs Q E hr h => ?_)
  · obtain ⟨c, rfl, _⟩ := h
    rfl
  obtain ⟨c, rfl, q⟩ := h
  refine ⟨_, (pss_cons (ps_if (pt_cmpR op_eq (pe_op op_mod (pv 0) pe_int) pe_int (nomark _)) (pss_cons (ps_setA 3 sc_x_law_great.nd (pe_op op_mulL (pe_lst (pa_cons (pe_tup (pa_cons pe_str (pa_cons pe_str pa_nil))) pa_nil)) (pe_op op_add pe_int (pe_op op_mod (pe_op op_fdiv (pv 0) pe_int) pe_int))))
      (pss_cons (ps_while PassesOwn.never (pt_cmpR op_gt (pe_callB call_len_seq rfl T.n_len bt_len (pa_cons (pv 3) pa_nil)) pe_int (nomark _)) (pss_one (ps_setA 3 sc_x_law_great.nd (pe_op op_addL (pe_slice sl_list (pv 3) (po_some pe_int) po_none) (pe_lst (pa_cons (pe_tup (pa_cons pe_str (pa_cons (pe_ix ix_list (pv 3) pe_int (fun _ _ => rfl)) (pa_cons (pe_ix ix_list (pv 3) pe_int (fun _ _ => rfl)) pa_nil)))) pa_nil))))))
      (pss_cons (ps_setA 1 sc_x_law_great.nd (pe_ix ix_list (pv 3) pe_int (fun _ _ => rfl)))
      (pss_cons (ps_for PassesOwn.never rfl (pi_range1 rfl T.n_range (pa_cons (pe_op op_mod (pe_op op_fdiv (pv 0) pe_int) pe_int) pa_nil)) (pg_name (i := 2) sc_x_law_great.nd rfl (Or.inl rfl)) (pss_one (ps_setA 1 sc_x_law_great.nd (pe_tup (pa_cons pe_str (pa_cons pe_str (pa_cons (pv 1) pa_nil)))))))
      (pss_one (ps_ret (pv 1))))))) pss_nil)
      (pss_cons (ps_setA 1 sc_x_law_great.nd (pe_tup (pa_cons pe_str pa_nil)))
      (pss_cons (ps_for PassesOwn.never rfl (pi_range1 rfl T.n_range (pa_cons (pe_op op_add pe_int (pe_op op_mod (pe_op op_fdiv (pv 0) pe_int) pe_int)) pa_nil)) (pg_name (i := 2) sc_x_law_great.nd rfl (Or.inl rfl)) (pss_one (ps_setA 1 sc_x_law_great.nd (pe_tup (pa_cons pe_str (pa_cons (pv 1) pa_nil))))))
      (pss_one (ps_ret (pv 1)))))), ?_⟩
  refine ⟨_, rfl, _, _, rfl, rfl, (by decide : (0 : Int) < 2), rfl, _, rfl, ite2 (fun e => ?_) (fun e => ?_)⟩
  · have m3 := mod_in (c / 2) (m := 3) (by decide)
    obtain ⟨n, en, n0, n1⟩ : ∃ n : Nat, (99 : Int) + c / 2 % 3 = (n : Nat) ∧ 99 ≤ n ∧ n ≤ 101 := ⟨(99 + c / 2 % 3).toNat, by omega, by omega, by omega⟩
    refine ⟨by show 2 ≤ sizeLine; decide, fun t1 h1 => ⟨by show 1 ≤ sizeLine; decide, fun l1 hl1 => ?_⟩⟩
    have g1 := Same.new h1 (.tup [.str "mark", .str "h"])
    have e1 : upd H t1 (.tup [.str "mark", .str "h"]) t1 = some _ := upd_same
    generalize upd H t1 _ = H1 at g1 e1 hl1 ⊢
    have g2 := Same.new hl1 (.lst [.ref t1])
    have e2 : upd H1 l1 (.lst [.ref t1]) l1 = some _ := upd_same
    generalize upd H1 l1 _ = H2 at g2 e2 ⊢
    refine ⟨_, rfl, c, 2, rfl, rfl, ⟨by decide, by decide⟩, c / 2, 3, rfl, rfl, (by decide : (0 : Int) < 3), 99, _, rfl, rfl, l1, .ref t1, n, rfl, congrArg V.int en, e2, by omega, fun rl hrl => ?_⟩
    have g3 := Same.new hrl (.lst (List.replicate n (V.ref t1)))
    have e3 : upd H2 rl (.lst (List.replicate n (V.ref t1))) rl = some _ := upd_same
    generalize upd H2 rl _ = H3 at g3 e3 ⊢
    have g03 := g1.trans (g2.trans g3)
    have tm : TrD H3 1 (.ref t1) := ⟨t1, mkT [.s "mark", .s "h"], rfl, mkT_is (.cons rfl (.cons rfl .nil)) (g3 _ _ (g2 _ _ e1)), by decide⟩
    have R0 : Row8 H3 (List.replicate n (V.ref t1)) := ⟨0, List.replicate n (V.ref t1), [], by rw [List.append_nil], by rw [List.length_replicate]; show (n + 2 * 0) * 1 ≤ 128; omega, by rw [List.length_replicate]; show 0 < n + 0; omega, fun v hv => by rw [List.eq_of_mem_replicate hv]; exact tm, fun v hv => nomatch hv⟩
    refine ⟨fun m σ H' => ∃ (rl : Addr) (vs : List V) (f1 f2 : Option V), m = vs.length ∧ Same H H' ∧ H' rl = some (.lst vs) ∧ Row8 H' vs ∧ vs.length ≤ 101 ∧ σ = [some (.int c), f1, f2, some (.ref rl)], ⟨_, rl, _, none, none, rfl, g03, e3, R0, by rw [List.length_replicate]; exact n1, rfl⟩, ?_⟩
    rintro m σ H4 ⟨rl, vs, f1, f2, rfl, g, hrl, R, lv, rfl⟩
    refine ⟨_, rfl, rl, _, rfl, .inl (SqL.of hrl), _, _, rfl, rfl, _, rfl, ite2 (fun e => ?_) (fun e => ?_)⟩
    · have e : 1 < vs.length := by have := of_decide_eq_true e; omega
      obtain ⟨v, w9, r, rfl⟩ : ∃ v w r, vs = v :: w :: r := by
        match vs, e with
        | v :: w :: r, _ => exact ⟨v, w, r, rfl⟩
      refine ⟨_, fun σ' H2 h => h, ?_⟩
      refine ⟨_, rfl, 2, rfl, rl, _, rfl, SqL.of hrl, fun s1 hs1 => ?_⟩
      have ec : cutV (v :: w9 :: r) (some 2) none = r := cut_rear (w := v) (rest := w9 :: r) (m := 1) (n := r.length) (by show r.length + 1 = 1 + r.length; omega)
      rw [ec]
      have g5 := Same.new hs1 (.lst r)
      have e5 : upd H4 s1 (.lst r) s1 = some _ := upd_same
      generalize upd H4 s1 _ = H5 at g5 e5 ⊢
      have hrl5 := g5 _ _ hrl
      refine ⟨_, rfl, rl, _, 0, v, rfl, rfl, SqL.of hrl5, at0, _, rfl, rl, _, 1, w9, rfl, rfl, SqL.of hrl5, at1, by show 3 ≤ sizeLine; decide, fun t ht => ⟨by show 1 ≤ sizeLine; decide, fun l2 hl2 => ?_⟩⟩
      have g6 := Same.new ht (.tup [.str "either", v, w9])
      have e6 : upd H5 t (.tup [.str "either", v, w9]) t = some _ := upd_same
      generalize upd H5 t _ = H6 at g6 e6 hl2 ⊢
      have g7 := Same.new hl2 (.lst [.ref t])
      have e7 : upd H6 l2 (.lst [.ref t]) l2 = some _ := upd_same
      generalize upd H6 l2 _ = H7 at g7 e7 ⊢
      have lv : r.length + 1 + 1 ≤ 101 := lv
      refine ⟨s1, l2, _, _, rfl, rfl, SqL.of (g7 _ _ (g6 _ _ e5)), SqL.of e7, Nat.le_trans (show r.length + 1 ≤ 101 by omega) (by decide), fun nl hnl => ?_⟩
      have g8 := Same.new hnl (.lst (r ++ [.ref t]))
      have g58 := g6.trans (g7.trans g8)
      have R' := Row8.step (R.mono (g5.trans g58)) (g8 _ _ (g7 _ _ e6))
      refine ⟨r.length + 1, by show r.length + 1 < r.length + 1 + 1; omega, nl, r ++ [.ref t], _, _, by rw [List.length_append]; rfl, g.trans (g5.trans g58), upd_same, R', by rw [List.length_append]; show r.length + 1 ≤ 101; omega, rfl⟩
    · have e : ¬ 1 < vs.length := fun z => e (decide_eq_true (by omega))
      obtain ⟨v, rfl⟩ : ∃ v, vs = [v] := by
        obtain ⟨E9, xs, ys, e0, _, h2, _⟩ := R
        have : vs.length = xs.length + ys.length := by rw [e0, List.length_append]
        match vs, e with
        | [], _ => have : 0 = xs.length + ys.length := this; omega
        | [v], _ => exact ⟨v, rfl⟩
        | v :: w :: r, e => exact absurd (by show 1 < r.length + 1 + 1; omega) e
      have td := Row8.end R
      have m3 := mod_in (c / 6) (m := 3) (by decide)
      refine ⟨_, rfl, rl, _, 0, v, rfl, rfl, SqL.of hrl, at0, _, rfl, c, 6, rfl, rfl, ⟨by decide, by decide⟩, c / 6, 3, rfl, rfl, (by decide : (0 : Int) < 3), c / 6 % 3, rfl, by omega, by omega, ?_⟩
      refine for_range (fun i σ H' => ∃ (v : V) (f2 : Option V), Same H H' ∧ TrD H' (8 + i) v ∧ σ = [some (.int c), some v, f2, some (.ref rl)]) ⟨v, _, g, td, rfl⟩ ?_ ?_
      · rintro i σ H5 hi ⟨v, f2, g, td, rfl⟩
        refine ⟨_, rfl, by show 3 ≤ sizeLine; decide, fun t ht => ?_⟩
        have g6 := Same.new ht (.tup [.str "some", .str "b", v])
        exact ⟨.ref t, _, g.trans g6, TrD.some (td.mono g6 (Nat.le_refl _)) upd_same, rfl⟩
      · rintro σ H5 ⟨v, f2, g, td, rfl⟩
        exact ⟨_, rfl, q v H5 g (td.mono (Same.refl _) (by omega))⟩
  · have m4 := mod_in (c / 2) (m := 4) (by decide)
    refine ⟨by show 1 ≤ sizeLine; decide, fun t1 h1 => ?_⟩
    have g1 := Same.new h1 (.tup [.str "yes"])
    have e1 : upd H t1 (.tup [.str "yes"]) t1 = some _ := upd_same
    generalize upd H t1 _ = H1 at g1 e1 ⊢
    have tm : TrD H1 1 (.ref t1) := ⟨t1, mkT [.s "yes"], rfl, mkT_is (.cons rfl .nil) e1, by decide⟩
    refine ⟨_, rfl, c, 2, rfl, rfl, ⟨by decide, by decide⟩, c / 2, 4, rfl, rfl, (by decide : (0 : Int) < 4), 22, _, rfl, rfl, 22 + c / 2 % 4, rfl, by omega, by omega, ?_⟩
    refine for_range (fun i σ H' => ∃ (v : V) (f2 f3 : Option V), Same H H' ∧ TrD H' (1 + i) v ∧ σ = [some (.int c), some v, f2, f3]) ⟨.ref t1, _, _, g1, tm, rfl⟩ ?_ ?_
    · rintro i σ H5 hi ⟨v, f2, f3, g, td, rfl⟩
      refine ⟨_, rfl, by show 2 ≤ sizeLine; decide, fun t ht => ?_⟩
      have g6 := Same.new ht (.tup [.str "not", v])
      exact ⟨.ref t, _, _, g.trans g6, TrD.one (td.mono g6 (Nat.le_refl _)) upd_same, rfl⟩
    · rintro σ H5 ⟨v, f2, f3, g, td, rfl⟩
      exact ⟨_, rfl, q v H5 g (td.mono (Same.refl _) (by omega))⟩
end
end K01
namespace K01
open PySem L2 Sen
section
variable {P : Program} {w : World} {K : PySem.W.Frag} {mg : Str → Option Value} {base : Heap} {a : Ad} {k : Nat}
theorem ok_orderF (T : Txt P w K mg a) (G_x_law_draw : FnOk P w K mg base CX0 k a.a_x_law_draw a.d_x_law_draw p_x_law_draw spDraw) : FnOk P w K mg base CX0 (k + 1) a.a_x_law_order a.d_x_law_order p_x_law_order spOrderF := by
  refine T.f_x_law_order.F.ok sc_x_law_order (fun vs H Q E h => ?_) (fun cdv A outer s H vs Q E hr h => ?_)
  · obtain ⟨c, n, rfl, _⟩ := h
    rfl
  obtain ⟨c, n, rfl, hn, h8, q⟩ := h
  refine ⟨_, (pss_cons (ps_setA 2 sc_x_law_order.nd (pe_lst pa_nil))
      (pss_cons (ps_for PassesOwn.never rfl (pi_range1 rfl T.n_range (pa_cons (pe_op op_add pe_int (pe_callD G_x_law_draw hr T.f_x_law_draw (pa_cons (pv 0) (pa_cons pe_int (pa_cons (pv 1) pa_nil))))) pa_nil)) (pg_name (i := 3) sc_x_law_order.nd rfl (Or.inl rfl)) (pss_one (ps_expr (pe_bm PySem.F.plainAttrs_list PySem.F.slot_list_insert PySem.F.type_list_insert mt_insert (pv 2) (pa_cons (pe_op op_mod (pe_callD G_x_law_draw hr T.f_x_law_draw (pa_cons (pv 0) (pa_cons (pe_op op_add pe_int (pv 3)) (pa_cons pe_int pa_nil)))) (pe_op op_add (pv 3) pe_int)) (pa_cons (pe_ix ix_str pe_str (pv 3) (fun _ _ => rfl)) pa_nil))))))
      (pss_one (ps_ret (pv 2))))), ?_⟩
  refine ⟨by show 0 ≤ sizeLine; decide, fun l hl => ?_⟩
  refine ⟨_, rfl, _, rfl, c, 0, (n : Int), rfl, by decide, by omega, by omega, fun r r0 r1 => ?_⟩
  refine ⟨1, r, rfl, rfl, 1 + r, rfl, by omega, by omega, ?_⟩
  refine for_range (fun i σ H' => ∃ (os : List Str) (f1 : Option V), Same H H' ∧ H' l = some (.lst (os.map V.str)) ∧ os.Nodup ∧ os.length = i ∧ (∀ x ∈ os, x ∈ letts.take i) ∧ σ = [some (.int c), some (.int n), some (.ref l), f1])
    ⟨[], _, same_new hl _, upd_same, List.nodup_nil, rfl, (fun _ h => nomatch h), rfl⟩ ?_ ?_
  · rintro i σ H' hi ⟨os, f1, g, hl', nd, le, mem, rfl⟩
    have i8 : i < 8 := by omega
    obtain ⟨ch, hc1, hc2⟩ := lett_at i8
    have e1 : (1 : Int) + (0 + (i : Nat)) = ((1 + i : Nat) : Int) := by omega
    have e2 : (0 : Int) + (i : Nat) = ((i : Nat) : Int) := by omega
    refine ⟨_, rfl, .inl ⟨rfl, _, SqL.of hl'⟩, ?_⟩
    refine ⟨_, rfl, _, rfl, 1, _, rfl, rfl, c, 1 + i, 5040, congrArg (fun z => [V.int c, V.int z, V.int 5040]) e1, by omega, by decide, by decide, fun r' s0 s1 => ?_⟩
    refine ⟨_, rfl, _, 1, rfl, rfl, r', _, rfl, rfl, by show (0 : Int) < 0 + (i : Nat) + 1; omega, ?_⟩
    refine ⟨_, rfl, _, (i : Int), ch, rfl, congrArg V.int e2, by show (Str.ofString "abcdefgh").length ≤ sizeLine; decide, hc1, ?_⟩
    have m0 : 0 ≤ r' % (0 + (i : Nat) + 1) := Int.emod_nonneg _ (by omega)
    have m1 : r' % (0 + (i : Nat) + 1) < 0 + (i : Nat) + 1 := Int.emod_lt_of_pos _ (by omega)
    generalize hj : r' % (0 + ((i : Nat) : Int) + 1) = j at m0 m1
    refine ⟨l, os.map V.str, j, _, rfl, by rw [← hj], hl', m0, by rw [List.length_map]; omega, by rw [List.length_map]; exact Nat.lt_of_lt_of_le (show os.length < 9 by omega) (by decide), ?_⟩
    have nm : (⟨#[ch]⟩ : Str) ∉ os := fun hm => lett_new hc2 (mem _ hm)
    have ml : ∀ x ∈ letts.take i, x ∈ letts.take (i + 1) := fun x hx => by
      rw [List.take_succ]
      exact List.mem_append_left _ hx
    have mn : (⟨#[ch]⟩ : Str) ∈ letts.take (i + 1) := by
      rw [List.take_succ, hc2]
      exact List.mem_append_right _ (by simp)
    refine ⟨os.take j.toNat ++ (⟨#[ch]⟩ : Str) :: os.drop j.toNat, _, ?_, ?_, ?_, ?_, ?_, rfl⟩
    · exact fun b o hb => by rw [upd_ne (ne_of_none hb hl)]; exact g b o hb
    · rw [upd_same]
      simp
    · refine List.perm_middle.nodup_iff.mpr (List.nodup_cons.mpr ⟨?_, ?_⟩)
      · rw [List.take_append_drop]; exact nm
      · rw [List.take_append_drop]; exact nd
    · rw [List.length_append, List.length_cons, List.length_take, List.length_drop]
      omega
    · intro x hx
      rcases List.mem_append.mp hx with z | z
      · exact ml x (mem x (List.mem_of_mem_take z))
      · rcases List.mem_cons.mp z with z | z
        · rw [z]; exact mn
        · exact ml x (mem x (List.mem_of_mem_drop z))
  · rintro σ H' ⟨os, f1, g, hl', nd, le, mem, rfl⟩
    refine ⟨_, rfl, q l H' os g hl hl' ⟨nd, fun x hx => List.mem_of_mem_take (mem x hx), by omega⟩ (by omega)⟩
theorem ok_law_order_right (T : Txt P w K mg a) (G_x_law_order : FnOk P w K mg base CX0 k a.a_x_law_order a.d_x_law_order p_x_law_order spOrderF) (G_is_order : FnOk P w K mg base CX0 k a.a_is_order a.d_is_order p_is_order (spIsOrder K)) :
    FnOk P w K mg base CX0 (k + 1) a.a_x_law_order_right a.d_x_law_order_right p_x_law_order_right spOrderRight := by
  refine T.f_x_law_order_right.F.ok sc_x_law_order_right (fun vs H Q E h => ?_) (fun cdv A outer s H vs Q E hr h => ?_)
  · obtain ⟨c, rfl, _⟩ := h
    rfl
  obtain ⟨c, rfl, q⟩ := h
  refine cut0 ?_
  refine cutK (fun σ H' => ∃ (l : Addr) (os : List Str), Same H H' ∧ H' l = some (.lst (os.map V.str)) ∧ os.length ≤ 9 ∧ σ = [some (.int c), some (.ref l), none, none, none]) (fun t z => (pss_cons (ps_setA 1 sc_x_law_order_right.nd (pe_callD G_x_law_order hr T.f_x_law_order (pa_cons (pe_op op_fdiv (pv 0) pe_int) (pa_cons pe_int pa_nil))))
      (pss_cons (ps_if (pt_cmpR op_eq (pe_op op_mod (pv 0) pe_int) pe_int (nomark _)) (pss_one (ps_expr (pe_bm PySem.F.plainAttrs_list PySem.F.slot_list_insert PySem.F.type_list_insert mt_insert (pv 1) (pa_cons (pe_op op_mod (pe_op op_fdiv (pv 0) pe_int) (pe_op op_add (pe_callB call_len_seq rfl T.n_len bt_len (pa_cons (pv 1) pa_nil)) pe_int)) (pa_cons (pe_ix ix_list (pe_strs (xs := ["a", "i", "", "A", "ab", "h"]) (by rfl)) (pe_op op_mod (pe_op op_fdiv (pv 0) pe_int) pe_int) (fun _ _ => rfl)) pa_nil))))) pss_nil)
      z))) ?_ ?_
  · rintro u hu σ H' ⟨rfl, rfl⟩
    refine ⟨_, rfl, c, 4, rfl, rfl, ⟨by decide, by decide⟩, c / 4, 8, rfl, by decide, by decide, fun l H1 os g1 hl0 hl io l8 => ?_⟩
    refine ⟨_, rfl, _, _, rfl, rfl, (by decide : (0 : Int) < 4), rfl, _, rfl, ite2 (fun e => ?_) (fun e => ?_)⟩
    · have hlen : (os.map V.str).length = os.length := List.length_map _
      refine ⟨_, rfl, .inl ⟨rfl, _, SqL.of hl⟩, ?_⟩
      refine ⟨_, rfl, _, _, rfl, rfl, ⟨by decide, by decide⟩, _, rfl, l, _, rfl, .inl (SqL.of hl), _, _, rfl, rfl, c / 4, _, rfl, rfl, by rw [hlen]; omega, ?_⟩
      refine ⟨by show 6 ≤ sizeLine; decide, fun t ht => ?_⟩
      have g2 := Same.new ht (.lst (insO.map V.str))
      have e2 : upd H1 t (.lst (insO.map V.str)) t = some _ := upd_same
      have el : ∃ x : Str, atI (insO.map V.str) (c / 40 % 6) = some (.str x) := by
        have m := mod_in (c / 40) (m := 6) (by decide)
        generalize c / 40 % 6 = i at m ⊢
        obtain ⟨n, rfl⟩ : ∃ n : Nat, i = (n : Int) := ⟨i.toNat, by omega⟩
        have hn : n < 6 := by omega
        match n, hn with
        | 0, _ => exact ⟨_, atI_nat (j := 0) rfl⟩
        | 1, _ => exact ⟨_, atI_nat (j := 1) rfl⟩
        | 2, _ => exact ⟨_, atI_nat (j := 2) rfl⟩
        | 3, _ => exact ⟨_, atI_nat (j := 3) rfl⟩
        | 4, _ => exact ⟨_, atI_nat (j := 4) rfl⟩
        | 5, _ => exact ⟨_, atI_nat (j := 5) rfl⟩
      obtain ⟨x, hx⟩ := el
      have nt : l ≠ t := ne_of_none hl ht
      refine ⟨_, rfl, c, 40, rfl, rfl, ⟨by decide, by decide⟩, _, _, rfl, rfl, (by decide : (0 : Int) < 6), t, _, _, _, rfl, rfl, SqL.of e2, hx, l, os.map V.str, _, _, rfl, rfl, g2 _ _ hl, ?_, ?_, ?_, ?_⟩
      · exact (mod_in _ (by rw [hlen]; omega)).1
      · have := (mod_in (c / 4) (m := ((os.map V.str).length : Nat) + 1) (by omega)).2
        omega
      · rw [hlen]; exact Nat.lt_of_lt_of_le (show os.length < 9 by omega) (by decide)
      · generalize (c / 4 % (((os.map V.str).length : Nat) + 1)).toNat = j
        refine hu _ _ ⟨l, os.take j ++ x :: os.drop j, ?_, ?_, ?_, rfl⟩
        · exact fun b o hb => by rw [upd_ne (ne_of_none hb hl0)]; exact g2 _ _ (g1 b o hb)
        · rw [upd_same]
          simp
        · rw [List.length_append, List.length_cons, List.length_take, List.length_drop]
          omega
    · exact hu _ _ ⟨l, os, g1, hl, by omega, rfl⟩
  refine cutK (fun σ H' => ∃ (l : Addr) (os : List Str), Same H H' ∧ H' l = some (.lst (os.map V.str)) ∧ os.length ≤ 9 ∧ σ = [some (.int c), some (.ref l), none, none, none]) (fun t z => (pss_cons (ps_if (pt_cmpR op_eq (pe_op op_mod (pv 0) pe_int) pe_int (nomark _)) (@pss_one _ _ _ (@ps_setA _ _ 1 _ _ _ _ (by exact sc_x_law_order_right.nd) (@pe_ix _ _ _ _ _ _ _ ix_list (@pe_lit0 _ _ (ordsD oddO) 9 (by rfl)) (pe_op op_mod (pe_op op_fdiv (pv 0) pe_int) pe_int) (fun _ _ => rfl)) (by rfl) (by first | exact Or.inl rfl | exact Or.inr rfl) (by rfl) (by first | exact .inl rfl | exact .inr rfl))) pss_nil)
      z)) ?_ ?_
  · rintro u hu σ H1 ⟨l, os, g1, hl, l9, rfl⟩
    refine ⟨_, rfl, _, _, rfl, rfl, (by decide : (0 : Int) < 4), rfl, _, rfl, ite2 (fun e => ?_) (fun e => hu _ _ ⟨l, os, g1, hl, l9, rfl⟩)⟩
    refine ⟨hol0, fun v H2 g2 hv => ⟨_, rfl, _, _, rfl, rfl, ⟨by decide, by decide⟩, _, _, rfl, rfl, (by decide : (0 : Int) < 4), ?_⟩⟩
    obtain ⟨p, vs, rfl, h2, h3⟩ := IsW.lsq hv
    obtain ⟨z, o, j, h4, h5, h6, h7⟩ := pick (pd_mapW h3) (mod_in (c / 4) (m := 4) (by decide)).1 (mod_in (c / 4) (m := 4) (by decide)).2
    obtain ⟨l2, xs, rfl, h8, h9⟩ := IsW.lsq h7
    rw [pd_strs h9] at h8
    exact ⟨p, vs, _, _, rfl, rfl, SqL.of h2, h4, hu _ _ ⟨l2, o, g1.trans g2, h8, oddO_len o h6, rfl⟩⟩
  refine cutK (fun σ H' => ∃ (l : Addr) (os : List Str), Same H H' ∧ H' l = some (.lst (os.map V.str)) ∧ os.length ≤ 9 ∧ σ = [some (.int c), some (.ref l), some (.bl (due1 os)), none, none]) (fun t z => (pss_cons (ps_setA 2 sc_x_law_order_right.nd (pe_and (pe_cmpR (op_neD (K := K) rfl (hu8 hr)) (pv 1) (pe_lst pa_nil) (nomark _)) (pe_one (pe_cmpR op_eq (pe_callB call_len_set' rfl T.n_len bt_len (pa_cons (pe_callTy (call_set rfl) rfl T.n_set bt_set (pa_cons (pv 1) pa_nil)) pa_nil)) (pe_callB call_len_seq rfl T.n_len bt_len (pa_cons (pv 1) pa_nil)) (nomark _)))))
      z)) ?_ ?_
  · rintro u hu σ H1 ⟨l, os, g1, hl, l9, rfl⟩
    have hlen : (os.map V.str).length = os.length := List.length_map _
    refine ⟨_, rfl, by show 0 ≤ sizeLine; decide, fun t ht => ?_⟩
    have g2 := Same.new ht (.lst [])
    refine ⟨_, by simp [flatV], eq_nil (SqL.of (g2 _ _ hl)) (SqL.of upd_same), _, rfl, ite2 (fun e => ?_) (fun e => ?_)⟩
    · refine ⟨_, rfl, l, os, rfl, SqL.of (g2 _ _ hl), by omega, fun z hz => ⟨z, _, rfl, upd_same, ?_⟩⟩
      have g3 := Same.new hz (SetN P w z (dd os).length)
      refine ⟨_, rfl, l, _, rfl, .inl (SqL.of (g3 _ _ (g2 _ _ hl))), rfl, ?_⟩
      have c' : 0 < os.length := by
        cases os with
        | nil => cases e
        | cons a b => exact Nat.succ_pos _
      have e3 : decide (V.int ((dd os).length : Nat) = V.int ((os.map V.str).length : Nat)) = due1 os := by
        unfold due1
        rw [decide_eq_true c', hlen]
        by_cases nd : os.Nodup
        · rw [decide_eq_true nd, dd_nodup nd]; simp
        · have := dd_dup nd
          rw [decide_eq_false nd, decide_eq_false (fun z => by injection z with z; omega)]; rfl
      rw [e3]
      exact hu _ _ ⟨l, os, (g1.trans g2).trans g3, g3 _ _ (g2 _ _ hl), l9, rfl⟩
    · have e3 : due1 os = false := by
        cases os with
        | nil => rfl
        | cons a b => exact absurd rfl e
      have z := hu _ _ ⟨l, os, g1.trans g2, g2 _ _ hl, l9, rfl⟩
      rw [e3] at z
      exact z
  refine cutK (fun σ H' => ∃ (l : Addr) (os : List Str), Same H H' ∧ H' l = some (.lst (os.map V.str)) ∧ os.length ≤ 9 ∧ σ = [some (.int c), some (.ref l), some (.bl (ordB os)), none, none]) (fun t z => (pss_cons (ps_setA 2 sc_x_law_order_right.nd (pe_and (pv 2) (pe_one (pe_callB (call_all rfl) rfl T.n_all bt_all (pa_cons (pe_lc0 (osc := defScope S_x_law_order_right) (js := []) rfl (by show LcOk _ _ "mark" []; exact lco (by decide +kernel)) rfl (pi_list (pv 1)) (by show ∀ j ∈ ([] : List Nat), j < 5; decide) (fun cl C s₂ H₂ fp => (pe_cmpR (op_inK (K := K) rfl) (pv 0) (pe_strs (xs := ["a", "b", "c", "d", "e", "f", "g", "h"]) (by rfl)) (by with_unfolding_all rfl)))) pa_nil)))))
      z)) ?_ ?_
  · rintro u hu σ H1 ⟨l, os, g1, hl, l9, rfl⟩
    have dz := due1_ord os
    refine ⟨_, rfl, _, rfl, ite2 (fun e => ?_) (fun e => ?_)⟩
    · rw [if_pos e] at dz
      refine ⟨_, rfl, l, rfl, ⟨_, SqL.of hl⟩, lc_mapA V.str (fun x => .bl (decide (x ∈ letts))) (SqL.of hl) (Nat.le_trans l9 (by decide)) ?_ ?_⟩
      · intro x H' Q' hx g hQ
        refine ⟨_, rfl, by show 8 ≤ sizeLine; decide, fun t ht => ⟨t, letts.map V.str, rfl, .inl (SqL.of upd_same), rfl, flat_strs _, ?_⟩⟩
        have z := hQ _ (Same.new ht (.lst (letts.map V.str)))
        show Q' (.bl (inV (.str x) (letts.map V.str))) _
        rw [inV_strs]
        exact z
      · intro H2 p g hp
        have e4 : (os.map fun x => V.bl (decide (x ∈ letts))) = (os.map fun x => decide (x ∈ letts)).map V.bl := by rw [List.map_map]; rfl
        rw [e4]
        have g2 := Same.new hp (.lst ((os.map fun x => decide (x ∈ letts)).map V.bl))
        refine ⟨p, _, rfl, SqL.of upd_same, ?_⟩
        rw [List.all_map]
        have z := hu _ _ ⟨l, os, (g1.trans g).trans g2, (g.trans g2) _ _ hl, l9, rfl⟩
        rw [← dz] at z
        exact z
    · rw [if_neg e] at dz
      have z := hu _ _ ⟨l, os, g1, hl, l9, rfl⟩
      rw [← dz] at z
      exact z
  refine ⟨_, (pss_cons (ps_setA 3 sc_x_law_order_right.nd (pe_callTy call_list_of rfl T.n_list bt_list (pa_cons (pv 1) pa_nil)))
      (pss_cons (ps_setA 4 sc_x_law_order_right.nd (pe_callD G_is_order hr T.f_is_order (pa_cons (pv 3) pa_nil)))
      (pss_one (ps_ret (pe_and (pe_callB call_isinst rfl T.n_isinstance bt_isinstance (pa_cons (pv 4) (pa_cons (pe_bltn (v := .ty "bool") rfl T.n_bool bt_bool rfl) pa_nil))) (pe_and (pe_cmpR op_eq (pv 4) (pv 2) (nomark _)) (pe_one (pe_cmpR (op_eqD (K := K) rfl (hu8 hr)) (pv 3) (pv 1) (nomark _))))))))), ?_⟩
  rintro σ H1 ⟨l, os, g1, hl, l9, rfl⟩
  refine ⟨_, rfl, l, _, rfl, .inl (SqL.of hl), fun h hh => ?_⟩
  have g2 := Same.new hh (.lst (os.map V.str))
  have e2 : upd H1 h (.lst (os.map V.str)) h = some _ := upd_same
  generalize upd H1 h _ = H2 at g2 e2 ⊢
  refine ⟨_, rfl, h, os, rfl, SqL.of e2, by omega, fun H3 g3 => ?_⟩
  have g23 := g2.trans g3
  refine ⟨_, rfl, _, _, _, true, rfl, .bl _, rfl, _, rfl, ite2 (fun _ => ?_) (fun z => absurd rfl z)⟩
  refine ⟨_, rfl, _, rfl, rfl, _, rfl, ite2 (fun _ => ?_) (fun z => absurd (decide_eq_true rfl) z)⟩
  exact ⟨_, rfl, _, rfl, true, by simp [flatV], eqStrs8 (SqL.of (g3 _ _ e2)) (SqL.of (g23 _ _ hl)), q _ (g1.trans g23)⟩
end
end K01
namespace K01
open PySem L2 Sen
section
variable {P : Program} {w : World} {K : PySem.W.Frag} {mg : Str → Option Value} {base : Heap} {a : Ad} {k : Nat}
theorem ok_law (T : Txt P w K mg a)
    (G_x_law_cell_at : FnOk P w K mg base CX0 (k + 1) a.a_x_law_cell_at a.d_x_law_cell_at p_x_law_cell_at (spCellF K))
    (G_x_law_order_right : FnOk P w K mg base CX0 (k + 1) a.a_x_law_order_right a.d_x_law_order_right p_x_law_order_right spOrderRight)
    (G_x_law_sentence : FnOk P w K mg base CX0 (k + 1) a.a_x_law_sentence a.d_x_law_sentence p_x_law_sentence (spSentence K))
    (G_x_law_count : FnOk P w K mg base CX0 (k + 1) a.a_x_law_count a.d_x_law_count p_x_law_count (spCount 30))
    (G_x_law_deep : FnOk P w K mg base CX0 (k + 1) a.a_x_law_deep a.d_x_law_deep p_x_law_deep (spDeep 30))
    (G_x_law_good : FnOk P w K mg base CX0 (k + 1) a.a_x_law_good a.d_x_law_good p_x_law_good (spGoodT 30))
    (G_x_law_letters : FnOk P w K mg base CX0 (k + 1) a.a_x_law_letters a.d_x_law_letters p_x_law_letters (spLettersL 30))
    (G_x_law_spoilt : FnOk P w K mg base CX0 (k + 1) a.a_x_law_spoilt a.d_x_law_spoilt p_x_law_spoilt (spSpoilt 20))
    (G_x_law_great : FnOk P w K mg base CX0 (k + 1) a.a_x_law_great a.d_x_law_great p_x_law_great spGreat)
    (G_x_law_whole : FnOk P w K mg base CX0 (k + 1) a.a_x_law_whole a.d_x_law_whole p_x_law_whole spWhole)
    (G_is_sentence : FnOk P w K mg base CX0 (k + 1) a.a_is_sentence a.d_is_sentence p_is_sentence spIsSenX)
    (G_words : FnOk P w K mg base CX0 (k + 1) a.a_words a.d_words p_words spWordsN)
    (G_marks_of : FnOk P w K mg base CX0 (k + 1) a.a_marks_of a.d_marks_of p_marks_of spMarksOf) :
    FnOk P w K mg base CX0 (k + 2) a.a_law a.d_law p_law (spLaw K) := by
  refine T.f_law.F.ok sc_law (fun vs H Q E h => ?_) (fun cdv A outer s H vs Q E hr h => ?_)
  · obtain ⟨a, ns, rfl, _⟩ := h
    rfl
  obtain ⟨sc, ns, rfl, hS, h63, q⟩ := h
  have cel : ∀ {H' : Hp} {Q' : VK} {j : Nat}, Same H H' → Q' (.int (cellF ns j)) H' → spCellF K [.ref sc, .int (j : Nat)] H' Q' E0 := fun g hq => ⟨sc, ns, _, rfl, g.seq hS, hq⟩
  refine cut0 ?_
  refine cutK (fun σ H' => ∃ (p : Addr) (s : Sn), Same H H' ∧ IsS H' s p ∧ s.depth ≤ 14 ∧ σ = [some (.ref sc), some (.ref p), none, none, none, none, none]) (fun t z => (pss_cons (ps_if (pt_not (pt_truth (pe_callD G_x_law_order_right hr T.f_x_law_order_right (pa_cons (pe_callD G_x_law_cell_at hr T.f_x_law_cell_at (pa_cons (pv 0) (pa_cons pe_int pa_nil))) pa_nil)) (fun _ => rfl))) (pss_one (ps_ret pe_bl)) pss_nil)
      (pss_cons (ps_setA 1 sc_law.nd (pe_callD G_x_law_sentence hr T.f_x_law_sentence (pa_cons (pv 0) (pa_cons pe_int (pa_cons (pe_op op_add pe_int (pe_op op_mod (pe_callD G_x_law_cell_at hr T.f_x_law_cell_at (pa_cons (pv 0) (pa_cons pe_int pa_nil))) pe_int)) (pa_cons (pe_strs (xs := ["c", "h", "a", "f"]) (by rfl)) pa_nil))))))
      (pss_cons (ps_if (pt_cmpR op_gt (pe_callD G_x_law_count hr T.f_x_law_count (pa_cons (pv 1) pa_nil)) pe_int (nomark _)) (pss_one (ps_setA 1 sc_law.nd (pe_tup (pa_cons pe_str (pa_cons (pe_tup (pa_cons pe_str (pa_cons pe_str pa_nil))) pa_nil))))) pss_nil)
      z)))) ?_ ?_
  · rintro u hu σ H' ⟨rfl, rfl⟩
    refine ⟨_, rfl, cel (j := 18) (Same.refl _) ⟨_, rfl, fun H1 g1 => ⟨_, rfl, iteF ?_⟩⟩⟩
    refine ⟨_, rfl, _, rfl, cel (j := 0) g1 ⟨_, _, rfl, rfl, (by decide : (0 : Int) < 14), 1, _, rfl, rfl, by show 4 ≤ sizeLine; decide, fun ol hol => ?_⟩⟩
    have g2 := Same.new hol (.lst ((["c", "h", "a", "f"] : List Str).map V.str))
    have e2 : upd H1 ol (.lst ((["c", "h", "a", "f"] : List Str).map V.str)) ol = some _ := upd_same
    generalize upd H1 ol _ = H2 at g2 e2 ⊢
    have g02 := g1.trans g2
    have m14 := mod_in (cellF ns 0) (m := 14) (by decide)
    obtain ⟨m, em, m0, m1⟩ : ∃ m : Nat, (1 : Int) + cellF ns 0 % 14 = (m : Nat) ∧ 0 < m ∧ m ≤ 14 := ⟨(1 + cellF ns 0 % 14).toNat, by omega, by omega, by omega⟩
    refine ⟨sc, ol, ns, 3, m, ["c", "h", "a", "f"], by show [V.ref sc, V.int 3, V.int (1 + cellF ns 0 % 14), V.ref ol] = _; rw [em]; rfl, g02.seq hS, SqL.of e2, by decide, by decide, m0, by omega, by decide, fun p H3 sn g3 hs hin hd => ?_⟩
    have g03 := g02.trans g3
    refine ⟨_, rfl, p, sn, rfl, hs, by omega, fun H4 g4 => ⟨_, _, rfl, rfl, _, rfl, ite2 (fun _ => ?_) (fun _ => hu _ _ ⟨p, sn, g03.trans g4, hs.mono (Tups.of g4), by omega, rfl⟩)⟩⟩
    refine ⟨by show 2 ≤ sizeLine; decide, fun t1 h1 => ⟨by show 2 ≤ sizeLine; decide, fun t2 h2 => ?_⟩⟩
    have g5 := Same.new h1 (.tup [.str "mark", .str "f"])
    have e5 : upd H4 t1 (.tup [.str "mark", .str "f"]) t1 = some _ := upd_same
    generalize upd H4 t1 _ = H5 at g5 e5 h2 ⊢
    have g6 := Same.new h2 (.tup [.str "not", .ref t1])
    exact hu _ _ ⟨t2, .nt (.mk "f"), ((g03.trans g4).trans g5).trans g6, ⟨t1, upd_same, g6 _ _ e5⟩, by decide, rfl⟩
  refine cutK (fun σ H' => ∃ (p : Addr) (t : Tr), Same H H' ∧ IsT H' t (.ref p) ∧ dpT t ≤ 30 ∧ σ = [some (.ref sc), some (.ref p), none, none, none, none, none]) (fun t z => (pss_cons (ps_if (pt_cmpR op_eq (pe_op op_mod (pe_callD G_x_law_cell_at hr T.f_x_law_cell_at (pa_cons (pv 0) (pa_cons pe_int pa_nil))) pe_int) pe_int (nomark _)) (pss_one (ps_setA 1 sc_law.nd (pe_callD G_x_law_spoilt hr T.f_x_law_spoilt (pa_cons (pv 1) (pa_cons (pe_op op_mod (pe_callD G_x_law_cell_at hr T.f_x_law_cell_at (pa_cons (pv 0) (pa_cons pe_int pa_nil))) (pe_op op_pow pe_int pe_int)) pa_nil))))) pss_nil)
      z)) ?_ ?_
  · rintro u hu σ H1 ⟨p, sn, g1, hs, hd, rfl⟩
    refine ⟨_, rfl, cel (j := 1) g1 ⟨_, _, rfl, rfl, (by decide : (0 : Int) < 2), rfl, _, rfl, ite2 (fun _ => ?_) (fun _ => hu _ _ ⟨p, trS sn, g1, sen_tree hs, by rw [(trS_meas sn).2]; omega, rfl⟩)⟩⟩
    refine ⟨_, rfl, _, rfl, cel (j := 2) g1 ⟨10, 12, rfl, rfl, ⟨by decide, by decide, by decide⟩, _, _, rfl, rfl, (by show (0 : Int) < 10 ^ 12; decide), p, sn, _, rfl, hs, by omega, fun p' H2 t' g2 ht' hd' => hu _ _ ⟨p', t', g1.trans g2, ht', by omega, rfl⟩⟩⟩
  refine cutK (fun σ H' => ∃ (p : Addr) (t : Tr), Same H H' ∧ IsT H' t (.ref p) ∧ dpT t ≤ 30 ∧ σ = [some (.ref sc), some (.ref p), none, none, none, none, none]) (fun t z => (pss_cons (ps_if (pt_cmpR op_eq (pe_op op_mod (pe_op op_fdiv (pe_callD G_x_law_cell_at hr T.f_x_law_cell_at (pa_cons (pv 0) (pa_cons pe_int pa_nil))) pe_int) pe_int) pe_int (nomark _)) (pss_one (ps_setA 1 sc_law.nd (pe_callD G_x_law_great hr T.f_x_law_great (pa_cons (pe_callD G_x_law_cell_at hr T.f_x_law_cell_at (pa_cons (pv 0) (pa_cons pe_int pa_nil))) pa_nil)))) pss_nil)
      z)) ?_ ?_
  · rintro u hu σ H1 ⟨p, t, g1, ht, hd, rfl⟩
    refine ⟨_, rfl, cel (j := 1) g1 ⟨_, _, rfl, rfl, ⟨by decide, by decide⟩, _, _, rfl, rfl, (by decide : (0 : Int) < 8), rfl, _, rfl, ite2 (fun _ => ?_) (fun _ => hu _ _ ⟨p, t, g1, ht, hd, rfl⟩)⟩⟩
    refine ⟨_, rfl, cel (j := 2) g1 ⟨_, rfl, fun v H2 g2 td => ?_⟩⟩
    obtain ⟨p', t', rfl, ht', hd'⟩ := td
    exact hu _ _ ⟨p', t', g1.trans g2, ht', hd', rfl⟩
  refine cutK (fun σ H' => ∃ (p : Addr) (t : Tr), Same H H' ∧ IsT H' t (.ref p) ∧ dpT t ≤ 30 ∧ σ = [some (.ref sc), some (.ref p), some (.bl (lev 24 0 [t])), none, none, none, none]) (fun t z => (pss_cons (ps_setA 2 sc_law.nd (pe_and (pe_callD G_x_law_good hr T.f_x_law_good (pa_cons (pv 1) pa_nil)) (pe_and (pe_cmpR op_le (pe_callD G_x_law_count hr T.f_x_law_count (pa_cons (pv 1) pa_nil)) pe_int (nomark _)) (pe_one (pe_cmpR op_le (pe_callD G_x_law_deep hr T.f_x_law_deep (pa_cons (pv 1) pa_nil)) pe_int (nomark _))))))
      z)) ?_ ?_
  · rintro u hu σ H1 ⟨p, t, g1, ht, hd, rfl⟩
    refine ⟨_, rfl, p, t, rfl, ht, hd, fun H2 g2 => ⟨_, rfl, ite2 (fun e => ?_) (fun e => ?_)⟩⟩
    · obtain ⟨sn, hs, hin, hc, hdp⟩ := good_sen (dpT t) t p (Nat.le_refl _) e (ht.mono (Tups.of g2))
      refine ⟨_, rfl, p, sn, rfl, hs, by omega, fun H3 g3 => ⟨_, _, rfl, rfl, _, rfl, ite2 (fun e3 => ?_) (fun e3 => ?_)⟩⟩
      · refine ⟨_, rfl, p, sn, rfl, hs.mono (Tups.of g3), by omega, fun H4 g4 => ⟨_, _, rfl, rfl, ?_⟩⟩
        have z : lev 24 0 [t] = decide (((sn.depth : Nat) : Int) ≤ 24) := by
          have e3 := of_decide_eq_true e3
          rw [lev_top, e, Bool.true_and, decide_eq_true (show ctT t ≤ 200 by omega), Bool.true_and, hdp]
          exact decide_eq_decide.mpr (by omega)
        have y := hu _ _ ⟨p, t, (g1.trans g2).trans (g3.trans g4), ht.mono (Tups.of ((g2.trans g3).trans g4)), hd, rfl⟩
        rw [z] at y
        exact y
      · have z : lev 24 0 [t] = false := by
          rw [lev_top, e, Bool.true_and, decide_eq_false (fun y => e3 (decide_eq_true (by omega))), Bool.false_and]
        have y := hu _ _ ⟨p, t, (g1.trans g2).trans g3, ht.mono (Tups.of (g2.trans g3)), hd, rfl⟩
        rw [z] at y
        exact y
    · have z : lev 24 0 [t] = false := by
        rw [lev_top, Bool.eq_false_iff.mpr e, Bool.false_and, Bool.false_and]
      have y := hu _ _ ⟨p, t, g1.trans g2, ht.mono (Tups.of g2), hd, rfl⟩
      rw [z] at y
      exact y
  refine ⟨_, (pss_cons (ps_setA 3 sc_law.nd (pe_callD G_is_sentence hr T.f_is_sentence (pa_cons (pv 1) pa_nil)))
      (pss_cons (ps_if (PW.pt (pw_or (pt_not (pt_truth (pe_callB call_isinst rfl T.n_isinstance bt_isinstance (pa_cons (pv 3) (pa_cons (pe_bltn (v := .ty "bool") rfl T.n_bool bt_bool rfl) pa_nil))) (fun _ => rfl))) (pw_or1 (pt_cmpR op_ne (pv 3) (pv 2) (nomark _))))) (pss_one (ps_ret pe_bl)) pss_nil)
      (pss_cons (ps_if (pt_not (pt_truth (pv 2) (fun _ => rfl))) (pss_one (ps_ret pe_bl)) pss_nil)
      (pss_cons (ps_setA 4 sc_law.nd (pe_callD G_words hr T.f_words (pa_cons (pv 1) pa_nil)))
      (pss_cons (ps_if (PW.pt (pw_or (pt_not (pt_truth (pe_callD G_x_law_whole hr T.f_x_law_whole (pa_cons (pv 4) pa_nil)) (fun _ => rfl))) (pw_or1 (pt_cmpR op_ne (pv 4) (pe_callD G_x_law_count hr T.f_x_law_count (pa_cons (pv 1) pa_nil)) (nomark _))))) (pss_one (ps_ret pe_bl)) pss_nil)
      (pss_cons (ps_for PassesOwn.never rfl (pi_range1 rfl T.n_range (pa_cons pe_int pa_nil)) (pg_name (i := 5) sc_law.nd rfl (Or.inl rfl)) (pss_cons (ps_setA 6 sc_law.nd (pe_callD G_marks_of hr T.f_marks_of (pa_cons (pv 1) pa_nil)))
      (pss_cons (ps_if (PW.pt (pw_or (pt_not (pt_truth (pe_callB call_isinst rfl T.n_isinstance bt_isinstance (pa_cons (pv 6) (pa_cons (pe_bltn (v := .ty "list") rfl T.n_list bt_list rfl) pa_nil))) (fun _ => rfl))) (pw_or1 (pt_cmpR (op_neD (K := K) rfl (hu8 hr)) (pv 6) (pe_callB (call_sorted_setD rfl) rfl T.n_sorted bt_sorted (pa_cons (pe_callTy (call_setT rfl) rfl T.n_set bt_set (pa_cons (pe_callD G_x_law_letters hr T.f_x_law_letters (pa_cons (pv 1) pa_nil)) pa_nil)) pa_nil)) (nomark _))))) (pss_one (ps_ret pe_bl)) pss_nil)
      (pss_one (ps_expr (pe_bm PySem.F.plainAttrs_list PySem.F.slot_list_append PySem.F.type_list_append mt_append (pv 6) (pa_cons pe_str pa_nil)))))))
      (pss_one (ps_ret pe_bl)))))))), ?_⟩
  rintro σ H1 ⟨p, t, g1, ht, hd, rfl⟩
  refine ⟨_, rfl, p, t, rfl, ht, fun H2 g2 => ?_⟩
  have ht2 := ht.mono (Tups.of g2)
  refine ⟨_, rfl, _, _, _, true, rfl, .bl _, rfl, _, rfl, iteF ?_⟩
  refine ⟨_, rfl, _, rfl, rfl, _, rfl, ite2 (fun z => ?_) (fun _ => ?_)⟩
  · exact absurd z (by simp)
  refine ⟨_, rfl, _, rfl, ite2 (fun _ => q _) (fun e => ?_)⟩
  have lt : lev 24 0 [t] = true := by
    cases h : lev 24 0 [t] with
    | true => rfl
    | false => rw [h] at e; exact absurd rfl e
  clear e
  rw [lev_top, Bool.and_eq_true, Bool.and_eq_true] at lt
  obtain ⟨⟨lg, lc⟩, ld⟩ := lt
  have lc := of_decide_eq_true lc
  have ld := of_decide_eq_true ld
  obtain ⟨sn, hs, hin, hc, hdp⟩ := good_sen (dpT t) t p (Nat.le_refl _) lg ht2
  refine ⟨_, rfl, p, sn, rfl, hs, hin, by omega, by omega, fun H3 g3 => ?_⟩
  refine ⟨_, rfl, _, rfl, _, rfl, iteF ?_⟩
  refine ⟨_, rfl, _, rfl, p, sn, rfl, hs.mono (Tups.of g3), by omega, fun H4 g4 => ⟨rfl, _, rfl, ite2 (fun z => absurd z (by simp)) (fun _ => ?_)⟩⟩
  have hs4 := (hs.mono (Tups.of g3)).mono (Tups.of g4)
  refine ⟨2, rfl, by decide, by decide, ?_⟩
  refine for_range (fun i σ H' => ∃ f4 f5 f6 : Option V, Same H4 H' ∧ σ = [some (.ref sc), some (.ref p), some (.bl (lev 24 0 [t])), some (.bl (lev 24 0 [t])), f4, f5, f6]) ⟨_, _, _, Same.refl _, rfl⟩ ?_ ?_
  · rintro i σ H5 hi ⟨f4, f5, f6, g5, rfl⟩
    have hs5 := hs4.mono (Tups.of g5)
    refine ⟨_, rfl, p, sn, rfl, hs5, hin, by omega, by omega, fun l H6 ms g6 fl hl nd mem so => ?_⟩
    refine ⟨_, rfl, _, _, _, true, rfl, .lst hl, rfl, _, rfl, iteF ?_⟩
    refine ⟨_, rfl, _, rfl, p, sn, rfl, hs5.mono (Tups.of g6), by omega, by omega, fun l7 H7 xs g7 hl7 mem7 le7 => ?_⟩
    refine ⟨l7, xs, rfl, SqL.of hl7, by omega, fun z hz => ⟨z, xs, rfl, upd_same, dd_few (fun x hx => (Sn.inO_iff sn).mp hin x ((mem7 x).mp hx)), fun l9 ms' hl9 pm so' => ?_⟩⟩
    have g8 := Same.new hz (SetX P w z xs)
    have g9 := Same.new hl9 (.lst (ms'.map V.str))
    have e9 : upd (upd H7 z (SetX P w z xs)) l9 (.lst (ms'.map V.str)) l9 = some _ := upd_same
    have hl9b := g9 _ _ (g8 _ _ (g7 _ _ hl))
    have g69 := g7.trans (g8.trans g9)
    have em : ms = ms' := by
      refine sorted_eq (fun x hx => (Sn.inO_iff sn).mp hin x ((mem x).mp hx)) ?_ so so'
      refine (List.perm_ext_iff_of_nodup nd (pm.nodup_iff.mpr (dd_nd xs))).mpr fun x => ?_
      rw [mem, pm.mem_iff, dd_mem, mem7]
    subst em
    refine ⟨true, by simp [flatV], eqStrs8 (SqL.of hl9b) (SqL.of e9), _, rfl, ite2 (fun z => nomatch z) (fun _ => ?_)⟩
    refine ⟨_, rfl, .inl ⟨rfl, _, SqL.of hl9b⟩, l, _, .str "z", rfl, rfl, hl9b, ?_, ?_⟩
    · rw [List.length_map]
      have h8 := nodup_le (ys := letts) nd fun x hx => (Sn.inO_iff sn).mp hin x ((mem x).mp hx)
      exact Nat.lt_of_le_of_lt h8 (by decide)
    · refine ⟨_, _, _, fun b o hb => ?_, rfl⟩
      have h5 := g5 b o hb
      rw [upd_ne (ne_of_none h5 fl)]
      exact g69 _ _ (g6 _ _ h5)
  · rintro σ H5 ⟨f4, f5, f6, g5, rfl⟩
    exact q _
end
end K01
namespace K01
open PySem L2 Sen
section
variable {P : Program} {w : World} {K : PySem.W.Frag} {mg : Str → Option Value} {base : Heap} {a : Ad} {k : Nat}
theorem law_all (T : Txt P w K mg a) (base : Heap) : FnOk P w K mg base CX0 60 a.a_law a.d_law p_law (spLaw K) := by
  have isMarkX : FnOk P w K mg base CX0 1 a.a_is_mark a.d_is_mark p_is_mark spMarkX := ok_is_markX (k := 0) T
  have isMark : FnOk P w K mg base CX0 1 a.a_is_mark a.d_is_mark p_is_mark spIsMark := isMarkX.imp (fun vs H Q E h => by
    obtain ⟨x, rfl, q⟩ := h
    exact ⟨.s x, _, rfl, rfl, q⟩)
  have isOrder := ok_is_order (k := 1) T isMark
  have lettersOf : FnOk P w K mg base CX0 1 a.a_letters_of a.d_letters_of p_letters_of spLettersOf := ok_letters_of (k := 0) T
  have partsOf : FnOk P w K mg base CX0 1 a.a_parts_of a.d_parts_of p_parts_of spPartsOf := ok_parts_of (k := 0) T
  have partsOfAll := ok_parts_of_all (k := 1) T partsOf
  have partsOfAllX := ok_parts_of_allX (k := 1) T partsOf
  have shaped := ok_is_shaped (k := 1) T isMark lettersOf partsOf
  have shapedX := ok_is_shapedX (k := 1) T isMarkX lettersOf partsOf
  have isSen := ok_is_sentence (k := 2) T shaped partsOfAll
  have isSenX := ok_is_sentenceX (k := 2) T shapedX partsOfAllX
  have mustSen := ok_must_be_sentence (k := 3) T isSen
  have tuplesIn := ok_tuples_in (k := 2) T partsOfAll
  have lettersIn := ok_letters_in (k := 3) T tuplesIn (lettersOf.mono (by decide))
  have words := ok_words (k := 4) T mustSen (tuplesIn.mono (by decide))
  have marksOf := ok_marks_of (k := 4) T mustSen lettersIn
  have cell : FnOk P w K mg base CX0 1 a.a_x_law_cell_at a.d_x_law_cell_at p_x_law_cell_at (spCellAt K) := ok_cell_at (k := 0) T
  have cellF : FnOk P w K mg base CX0 1 a.a_x_law_cell_at a.d_x_law_cell_at p_x_law_cell_at (spCellF K) := ok_cell_f (k := 0) T
  have draw : FnOk P w K mg base CX0 1 a.a_x_law_draw a.d_x_law_draw p_x_law_draw spDraw := ok_draw (k := 0) T
  have sent := ok_sentence (k := 1) T cell draw
  have order := ok_orderF (k := 1) T draw
  have right := ok_law_order_right (k := 2) T order isOrder
  have count : FnOk P w K mg base CX0 31 a.a_x_law_count a.d_x_law_count p_x_law_count (spCount 30) := ok_count (k := 1) T 30
  have deep : FnOk P w K mg base CX0 31 a.a_x_law_deep a.d_x_law_deep p_x_law_deep (spDeep 30) := ok_deep (k := 1) T 30
  have good : FnOk P w K mg base CX0 31 a.a_x_law_good a.d_x_law_good p_x_law_good (spGoodT 30) := ok_goodT (k := 1) T 30
  have letters : FnOk P w K mg base CX0 31 a.a_x_law_letters a.d_x_law_letters p_x_law_letters (spLettersL 30) := ok_lettersL (k := 1) T 30
  have spoilt : FnOk P w K mg base CX0 21 a.a_x_law_spoilt a.d_x_law_spoilt p_x_law_spoilt (spSpoilt 20) := ok_spoilt (k := 1) T 20
  have great : FnOk P w K mg base CX0 1 a.a_x_law_great a.d_x_law_great p_x_law_great spGreat := ok_law_great (k := 0) T
  have whole : FnOk P w K mg base CX0 1 a.a_x_law_whole a.d_x_law_whole p_x_law_whole spWhole := ok_whole (k := 0) T
  exact ok_law (k := 58) T (cellF.mono (by decide)) (right.mono (by decide)) (sent.mono (by decide)) (count.mono (by decide)) (deep.mono (by decide)) (good.mono (by decide)) (letters.mono (by decide)) (spoilt.mono (by decide)) (great.mono (by decide)) (whole.mono (by decide)) (isSenX.mono (by decide)) (words.mono (by decide)) (marksOf.mono (by decide))
end
end K01
namespace PySem.W.Fast
def tw15948730478091335807:Nat:=0
def tw14978120814754004948:Nat:=0
def tw8264851162130385475:Nat:=0
def tw5624959757986056648:Nat:=0
def tw9704824131234071810:Nat:=0
def tw3125974083803628877:Nat:=0
def tw17819883169333316:Nat:=0
def tw16541791685998163509:Nat:=0
def tw908990605225564235:Nat:=0
def tw14061790576176260958:Nat:=0
def tw4985849300111573671:Nat:=0
def tw12979792837440490158:Nat:=0
def tw15405407261759559409:Nat:=0
def tw6589857389794461208:Nat:=0
def tw10009283850154436635:Nat:=0
def tw8160778153020281977:Nat:=0
def tw11539590933028067399:Nat:=0
def tw2502225998059682678:Nat:=0
def tw13876153509756819013:Nat:=0
def tw329634712158856942:Nat:=0
def tw6534715301390077541:Nat:=0
def tw7012515671440236512:Nat:=0
def tw17869142948722418336:Nat:=0
def tw10411464195917979659:Nat:=0
def tw4081604444266132953:Nat:=0
def tw15324114486112124512:Nat:=0
def tw6277897480617802164:Nat:=0
def tw13725976480690927362:Nat:=0
def tw3896665573394487470:Nat:=0
def tw10431413726027535572:Nat:=0
def tw16012647541532565327:Nat:=0
def tw12720302404860415287:Nat:=0
def tw15273838815725885700:Nat:=0
def tw13614902326343839230:Nat:=0
def tw4853364302530468559:Nat:=0
def tw2882798590792295736:Nat:=0
def tw13676767791757314456:Nat:=0
def tw682885630942127628:Nat:=0
def tw6984947644164626924:Nat:=0
def tw11245872856451636844:Nat:=0
def tw13366990063369226974:Nat:=0
def tw379242826153251018:Nat:=0
def tw5644880046533044351:Nat:=0
def tw4227252170135910965:Nat:=0
def tw6264383099757214268:Nat:=0
def tw13283691085138469785:Nat:=0
def tw17614848850476317878:Nat:=0
def tw7142253081914181593:Nat:=0
def tw9582895643557128039:Nat:=0
def tw17971633485391814692:Nat:=0
def tw16568825299143528562:Nat:=0
def tw6775230112548361460:Nat:=0
def tw11557830446080300406:Nat:=0
def tw14463321516791712467:Nat:=0
def tw13559964987862546659:Nat:=0
def tw13533037765096911303:Nat:=0
def tw16391375514846551794:Nat:=0
def tw16599337427017527142:Nat:=0
def tw17157644971985245317:Nat:=0
def tw14731074104295053774:Nat:=0
def tw2039048260393840899:Nat:=0
def tw474334681521873227:Nat:=0
def tw9087906624828783674:Nat:=0
def tw15965166502744504337:Nat:=0
def tw547489293448167622:Nat:=0
def tw18051342664649019033:Nat:=0
def tw16808315132715249232:Nat:=0
def tw608908162859661123:Nat:=0
def tw14107483109866754030:Nat:=0
def tw1778632158656851685:Nat:=0
def tw5073975524773517791:Nat:=0
def tw8159966662173472077:Nat:=0
end PySem.W.Fast
open PySem PySem.W PyProof.Rows
set_option maxRecDepth 100000 in
set_option maxHeartbeats 0 in
theorem PySem.Challenge.cw_decidebook_k01_orders_and_sentences_holds : PySem.Challenge.rw_decidebook_k01_orders_and_sentences.Holds := by
  w_on; o_law; k_head; (case hw => w_witness2)
  k_fill
  refine L2.walk_ofK (l := PySem.Challenge.rw_decidebook_k01_orders_and_sentences) (n := 63) (k := 60) (x := "script") (CX := L2.CX0) (sp := Sen.spLaw) rfl (by decide) rfl (by first | exact ⟨rfl, by decide, by decide⟩ | exact ⟨rfl, rfl, by decide, by decide⟩) (fun w h Y => PySem.W.kIn_of Y) ?F ?S ?C
  case F =>
    intro w mg fa h KX G hmg
    have T : ∃ a, K01.Txt PySem.Challenge.rw_decidebook_k01_orders_and_sentences.prog w (L2.KOf KX) mg a := by
      dsimp only [L2.KOf]
      apply K01.ex_mk
      constructor
      iterate 25 ((try dsimp only);apply L2.dfm KX G;k_is;k_is;k_is;k_is;intro _ _ _ _ _ _ us hl;first|(have z:=L2.ln_0 hl;subst z;rfl)|(obtain⟨_,us,e,hm⟩:=L2.ln_s hl;clear hl;subst e;have hl:=hm;clear hm;first|(have z:=L2.ln_0 hl;subst z;rfl)|(obtain⟨_,us,e,hm⟩:=L2.ln_s hl;clear hl;subst e;have hl:=hm;clear hm;first|(have z:=L2.ln_0 hl;subst z;rfl)|(obtain⟨_,us,e,hm⟩:=L2.ln_s hl;clear hl;subst e;have hl:=hm;clear hm;first|(have z:=L2.ln_0 hl;subst z;rfl)|(obtain⟨_,us,e,hm⟩:=L2.ln_s hl;clear hl;subst e;have hl:=hm;clear hm;first|(have z:=L2.ln_0 hl;subst z;rfl)|(obtain⟨_,us,e,hm⟩:=L2.ln_s hl;clear hl;subst e;have hl:=hm;clear hm;first|(have z:=L2.ln_0 hl;subst z;rfl)|(obtain⟨_,us,e,hm⟩:=L2.ln_s hl;clear hl;subst e;have hl:=hm;clear hm;first|(have z:=L2.ln_0 hl;subst z;rfl)|(obtain⟨_,us,e,hm⟩:=L2.ln_s hl;clear hl;subst e;have hl:=hm;clear hm;(have z:=L2.ln_0 hl;subst z;rfl)))))))))
      (try dsimp only);apply PySem.W.mg_of KX G;k_is
      (try dsimp only);apply L2.sqT_all;k_is;rfl;decide
      iterate 3 ((try dsimp only);apply PySem.W.mg_of KX G;k_is)
      (try dsimp only);apply L2.shp_mk;k_is;rfl;(unfold K01.tb_SHAPES;decide +kernel);(unfold K01.tb_SHAPES;iterate 10 (apply L2.Ent.cons;k_is;rfl));apply L2.Ent.nil
      iterate 13 ((try dsimp only);apply PySem.W.mg_none_of KX G;k_is)
    obtain ⟨a, T⟩ := T
    have e0 := hmg.symm.trans T.f_law.m
    cases e0
    exact ⟨_, K01.x_law T.f_law, fun base kb nb => K01.law_all T base⟩
  case S => exact fun K H a ns hl hO hS => ⟨a, ns, rfl, hS, hl, fun _ => rfl⟩
  case C => exact fun _ _ _ _ h => h
