import PyProof.Rows.All
import Wide.All
import OpenK.AllK
import Wide.FinOn
import Lean
import PyProof.EqAt
import PyProof.EqKinds
import PyProof.TupleCall
import KE.KRevIter
import OpenK.KOwn
import PyProof.Draws
import PyProof.EnumMake
import PyProof.StrBlockI
import PyProof.StrBlock2
import PyProof.DictValues
import PyProof.DictWalks
import PySem.Challenge.RW_decidebook_k03_sentences_as_texts
set_option Elab.async false
set_option linter.all false
set_option maxRecDepth 100000
namespace L2
open PySem PySem.Spec PyProof.Rows
abbrev Key := Sum Int Str
def keyIs : Key → Value → Bool
  | .inl k, v => Value.isInt k v
  | .inr x, v => Value.isStrOf x v
def keyH (w : World) : Key → Int
  | .inl k => hashInt k
  | .inr x => hashStr w x
theorem keyIs_shape : ∀ {k : Key} {v : Value}, keyIs k v = true → (∃ i t, k = Sum.inl i ∧ v = Value.int i t) ∨ (∃ x t, k = Sum.inr x ∧ v = Value.str x t)
  | .inl i, v, h => by
    obtain ⟨t, e⟩ := Value.isInt_shape (k := i) (v := v) h
    exact .inl ⟨i, t, rfl, e⟩
  | .inr x, v, h => by
    obtain ⟨t, e⟩ := Value.isStrOf_shape (x := x) (v := v) h
    exact .inr ⟨x, t, rfl, e⟩
theorem key_ll (a b : Int) : decide ((Sum.inl a : Key) = Sum.inl b) = (a == b) := by
  by_cases e : a = b
  · subst e; simp
  · have h : ¬ (Sum.inl a : Key) = Sum.inl b := fun q => e (Sum.inl.inj q)
    rw [decide_eq_false h]
    exact (beq_eq_false_iff_ne.mpr e).symm
theorem key_rr (a b : Str) : decide ((Sum.inr a : Key) = Sum.inr b) = decide (a = b) := by
  by_cases e : a = b
  · subst e; simp
  · have h : ¬ (Sum.inr a : Key) = Sum.inr b := fun q => e (Sum.inr.inj q)
    rw [decide_eq_false h, decide_eq_false e]
theorem key_lr (a : Int) (b : Str) : decide ((Sum.inl a : Key) = Sum.inr b) = false := decide_eq_false (fun q => nomatch q)
theorem key_rl (a : Str) (b : Int) : decide ((Sum.inr a : Key) = Sum.inl b) = false := decide_eq_false (fun q => nomatch q)
def mixKind (prog : Program) (w : World) : PySem.KeyKind prog w Key where
  is := keyIs
  hash := keyH w
  inj := fun v a b ha hb => by
    rcases keyIs_shape ha with ⟨i, t, rfl, rfl⟩ | ⟨x, t, rfl, rfl⟩
    · rcases keyIs_shape hb with ⟨j, u, rfl, e⟩ | ⟨y, u, rfl, e⟩
      · injection e with e1 _; rw [e1]
      · exact nomatch e
    · rcases keyIs_shape hb with ⟨j, u, rfl, e⟩ | ⟨y, u, rfl, e⟩
      · exact nomatch e
      · injection e with e1 _; rw [e1]
  byValue := fun k v h => by
    rcases keyIs_shape h with ⟨i, t, rfl, rfl⟩ | ⟨x, t, rfl, rfl⟩ <;> rfl
  pyHash := fun hv h => by
    rcases keyIs_shape hv with ⟨i, t, rfl, rfl⟩ | ⟨x, t, rfl, rfl⟩
    · exact wpAny_pyHash_int h
    · exact wpAny_pyHash_str h
  eqBool := fun hu hv h => by
    rcases keyIs_shape hu with ⟨i, t, rfl, rfl⟩ | ⟨x, t, rfl, rfl⟩
    · rcases keyIs_shape hv with ⟨j, u, rfl, rfl⟩ | ⟨y, u, rfl, rfl⟩
      · rw [key_ll] at h; exact wpAny_eqBool_int h
      · rw [key_lr] at h; exact SeqAt.EqAt.int_str i t y u _ _ _ _ h
    · rcases keyIs_shape hv with ⟨j, u, rfl, rfl⟩ | ⟨y, u, rfl, rfl⟩
      · rw [key_rl] at h; exact SeqAt.EqAt.str_int x t j u _ _ _ _ h
      · rw [key_rr] at h; exact wpAny_eqBool_str h
  «strs» := fun k x t v h => by
    rcases keyIs_shape h with ⟨i, u, rfl, e⟩ | ⟨y, u, rfl, e⟩
    · exact nomatch e
    · injection e with e1 _
      subst e1
      cases v <;> rfl
end L2
namespace L2
open PySem PySem.Spec PyProof.Rows
inductive V where
  | non | bl (b : Bool) | int (i : Int) | str (x : Str) | byt (b : Array UInt8) | flt (b : UInt64) | ref (a : Addr) | ty (n : String)
  deriving DecidableEq
def RelV : V → Value → Prop
  | .non, u => u = Value.none
  | .bl b, u => u = Value.bool b
  | .int i, u => ∃ t, u = Value.int i t
  | .str x, u => ∃ t, u = Value.str x t
  | .byt b, u => ∃ t, u = Value.bytes b t
  | .flt b, u => ∃ t, u = Value.float b t
  | .ref a, u => u = Value.ref a
  | .ty n, u => u = Value.type n
abbrev Vals : List V → List Value → Prop := Paired RelV
theorem Vals.length {xs : List V} {us : List Value} (r : Vals xs us) : xs.length = us.length := Paired.length r
theorem Vals.get : ∀ {xs : List V} {us : List Value} {i : Nat} {x : V}, Vals xs us → xs[i]? = some x → ∃ u, us[i]? = some u ∧ RelV x u
  | _, _, _, _, .nil, e => by simp at e
  | _, _, 0, _, .cons r _, e => by simp at e; subst e; exact ⟨_, rfl, r⟩
  | _, _, i + 1, x, .cons _ t, e => by
    obtain ⟨u, h1, h2⟩ := Vals.get (i := i) (x := x) t (by simpa using e)
    exact ⟨u, by simpa using h1, h2⟩
theorem Vals.append : ∀ {xs ys : List V} {us ws : List Value}, Vals xs us → Vals ys ws → Vals (xs ++ ys) (us ++ ws)
  | _, _, _, _, .nil, s => s
  | _, _, _, _, .cons r t, s => .cons r (Vals.append t s)
theorem Vals.take : ∀ {xs : List V} {us : List Value} (n : Nat), Vals xs us → Vals (xs.take n) (us.take n)
  | _, _, 0, _ => .nil
  | _, _, _ + 1, .nil => .nil
  | _, _, n + 1, .cons r t => .cons r (Vals.take n t)
theorem Vals.drop : ∀ {xs : List V} {us : List Value} (n : Nat), Vals xs us → Vals (xs.drop n) (us.drop n)
  | _, _, 0, r => r
  | _, _, _ + 1, .nil => .nil
  | _, _, n + 1, .cons _ t => Vals.drop n t
def RelO : Option V → Option Value → Prop
  | some v, some u => RelV v u
  | none, none => True
  | _, _ => False
def KV {κ : Type} : List (κ × V) → List (κ × Value) → Prop := Paired fun (p : κ × V) (q : κ × Value) => p.1 = q.1 ∧ RelV p.2 q.2
def kV : Key → V
  | .inl i => .int i
  | .inr x => .str x
inductive HO where
  | lst (xs : List V)
  | tup (xs : List V)
  | dK (kvs : List (Key × V)) | dT (kvs : List (List Key × V))
  | set (S : Int → Bool) (n : Nat)
  | ins (C dx : Addr) (fs : List (Str × V))
  | own (x : Addr)
  | xd (fs : List (Str × V))
  | met (f x : Addr)
  | rng (lo hi : Int)
  | frz (o : Obj) (u : HO)
  | tbl (ps : Array Value)
  | ext (φ : Heap → Prop)
abbrev Hp := Addr → Option HO
def upd (H : Hp) (a : Addr) (o : HO) : Hp := fun b => if b = a then some o else H b
theorem upd_same {H : Hp} {a : Addr} {o : HO} : upd H a o a = some o := by unfold upd; rw [if_pos rfl]
theorem upd_ne {H : Hp} {a b : Addr} {o : HO} (h : b ≠ a) : upd H a o b = H b := by unfold upd; rw [if_neg h]
theorem ne_of {H : Hp} {a b : Addr} {o u : HO} (h : H a = some o) (h' : H b = some u) (d : o ≠ u) : a ≠ b := by
  intro e; subst e; rw [h] at h'; exact d (Option.some.inj h')
theorem ne_of_none {H : Hp} {a b : Addr} {o : HO} (h : H a = some o) (h' : H b = none) : a ≠ b := by
  intro e; subst e; rw [h] at h'; cases h'
section
variable (P : Program) (w : World)
def ObjOk (H : Hp) (h : Heap) (a : Addr) : HO → Prop
  | .lst xs => xs.length ≤ sizeLine ∧ ∃ (its : List Value) (n : Nat), Vals xs its ∧ h.get? a = some { cls := .type "list", data := .seq its.toArray n }
  | .tup xs => xs.length ≤ sizeLine ∧ ∃ its : List Value, Vals xs its ∧ IsTup h a its.toArray
  | .dK kvs => kvs.length ≤ sizeLine ∧ (a == sysModules) = false ∧ ∃ vs, KV kvs vs ∧ h.DictOf (mixKind P w) a vs
  | .dT kvs => kvs.length ≤ sizeLine ∧ (a == sysModules) = false ∧ ∃ xs : List (List Key × Addr × Value),
      Paired (fun (p : List Key × V) (q : List Key × Addr × Value) => p.1 = q.1 ∧ H q.2.1 = some (.tup (p.1.map kV)) ∧ RelV p.2 q.2.2) kvs xs ∧
      ∃ o es ep, h.get? a = some o ∧ o.ExactDict ∧ o.data = .dict es ep ∧ es.toList = xs.map (entryOfKey (tupleKind (mixKind P w))) ∧ (xs.map (·.1)).Nodup
  | .set S n => h.SetOf (intKind P w) a S n
  | .ins C dx fs => H dx = some (.own a) ∧ fs.length ≤ 1000 ∧ dx ≠ a ∧ h.get? a = some (PySem.W.instObj C dx) ∧
      ∃ mA, h.Ns1 dx mA ∧ (∀ f, RelO (fs.lookup f) (mA f)) ∧ PySem.Within mA (fs.map (·.1))
  | .own _ => ∃ o, h.get? a = some o
  | .xd fs => ∃ mA, h.Ns1 a mA ∧ ∀ f, RelO (fs.lookup f) (mA f)
  | .rng lo hi => ∃ t u v, h.get? a = some { cls := .type "range", data := .fields #[.int lo t, .int hi u, .int 1 v] }
  | .frz o u => h.get? a = some o ∧ ObjOk H h a u
  /- tblFirst -/
  | .tbl ps => ∃ qs : Array Value, h.get? a = some { cls := .none, data := .fields qs } ∧ (qs = #[] ∨ ∃ (c : Addr) (oc : Obj) (vs : Array Value) (q : Str) (t t' : Tok), H c = some (.frz oc (.own a)) ∧ qs = #[ps.getD 0 .none, ps.getD 1 .none, .ref c] ∧ ps[2]? = some (.str q t) ∧ oc.data = .fields vs ∧ vs[1]? = some (.str q t'))
  | .met f x => h.get? a = some (PySem.W.methodObj (.ref f) (.ref x))
  | .ext φ => φ h ∧ (∃ o, h.get? a = some o) ∧ ∀ h1 h2 : Heap, φ h1 → (∀ o, h1.get? a = some o → h2.get? a = some o) → φ h2
def HOk (H : Hp) (h : Heap) : Prop := ∀ a o, H a = some o → ObjOk P w H h a o
end
section
variable {P : Program} {w : World} {H H' : Hp} {h h' : Heap} {a : Addr} {o : HO}
theorem ObjOk.lt (x : ObjOk P w H h a o) : a < h.objs.size := by
  cases o with
  | lst xs => obtain ⟨_, _, _, _, e⟩ := x; exact Heap.lt_size e
  | tup xs => obtain ⟨_, _, _, p⟩ := x; exact p.lt
  | dK kvs => obtain ⟨_, _, _, _, o, _, _, e, _⟩ := x; exact Heap.lt_size e
  | dT kvs => obtain ⟨_, _, _, _, o, _, _, e, _⟩ := x; exact Heap.lt_size e
  | set S n => obtain ⟨o, _, _, _, e, _⟩ := x; exact Heap.lt_size e
  | ins C dx fs => obtain ⟨_, _, _, e, _⟩ := x; exact Heap.lt_size e
  | own y => obtain ⟨_, e⟩ := x; exact Heap.lt_size e
  | xd fs => obtain ⟨_, ⟨_, _, _, e, _⟩, _⟩ := x; exact Heap.lt_size e
  | rng lo hi => obtain ⟨_, _, _, e⟩ := x; exact Heap.lt_size e
  | frz ob u => obtain ⟨e, _⟩ := x; exact Heap.lt_size e
  | tbl ps => obtain ⟨_, e, _⟩ := x; exact Heap.lt_size e
  | met f y => exact Heap.lt_size (show h.get? a = some _ from x)
  | ext φ => obtain ⟨_, ⟨_, e⟩, _⟩ := x; exact Heap.lt_size e
theorem Paired.mapP {α β : Type} {F G : α → β → Prop} : ∀ {l₁ : List α} {l₂ : List β}, Paired F l₁ l₂ → (∀ a b, F a b → G a b) → Paired G l₁ l₂
  | _, _, .nil, _ => .nil
  | _, _, .cons r t, f => .cons (f _ _ r) (Paired.mapP t f)
theorem ObjOk.stay (x : ObjOk P w H h a o) (k : ∀ b u, (b = a ∨ H b = some (.own a)) → h.get? b = some u → h'.get? b = some u)
    (ho : ∀ b, H b = some (.own a) → H' b = some (.own a)) (ht : ∀ b xs, H b = some (.tup xs) → H' b = some (.tup xs)) (hz : ∀ b o u, H b = some (.frz o u) → H' b = some (.frz o u) := by exact fun _ _ _ q => q) : ObjOk P w H' h' a o := by
  induction o with
  | lst xs => obtain ⟨z, its, n, r, e⟩ := x; exact ⟨z, its, n, r, k _ _ (.inl rfl) e⟩
  | tup xs => obtain ⟨z, its, r, ob, e, c⟩ := x; exact ⟨z, its, r, ob, k _ _ (.inl rfl) e, c⟩
  | dK kvs => obtain ⟨z, y, vs, r, ob, es, ep, e, c⟩ := x; exact ⟨z, y, vs, r, ob, es, ep, k _ _ (.inl rfl) e, c⟩
  | dT kvs =>
    obtain ⟨z, y, xs, r, ob, es, ep, e, c⟩ := x
    exact ⟨z, y, xs, Paired.mapP r fun p q z => ⟨z.1, ht _ _ z.2.1, z.2.2⟩, ob, es, ep, k _ _ (.inl rfl) e, c⟩
  | set S n => obtain ⟨ob, es, ep, t, e, c⟩ := x; exact ⟨ob, es, ep, t, k _ _ (.inl rfl) e, c⟩
  | ins C dx fs =>
    obtain ⟨d, z, ne, e, mA, ⟨od, es, ep, e2, c⟩, r⟩ := x
    exact ⟨ho _ d, z, ne, k _ _ (.inl rfl) e, mA, ⟨od, es, ep, k _ _ (.inr d) e2, c⟩, r⟩
  | own y => obtain ⟨ob, e⟩ := x; exact ⟨ob, k _ _ (.inl rfl) e⟩
  | xd fs => obtain ⟨mA, ⟨od, es, ep, e, c⟩, r⟩ := x; exact ⟨mA, ⟨od, es, ep, k _ _ (.inl rfl) e, c⟩, r⟩
  | rng lo hi => obtain ⟨t, u, v, e⟩ := x; exact ⟨t, u, v, k _ _ (.inl rfl) e⟩
  | frz ob u ih => obtain ⟨e, q⟩ := x; exact ⟨k _ _ (.inl rfl) e, ih q⟩
  | tbl ps =>
    obtain ⟨qs, e, z⟩ := x
    refine ⟨qs, k a _ (.inl rfl) e, ?_⟩
    rcases z with z | ⟨c, oc, vs, q, t, t', hc, z⟩
    · exact .inl z
    · exact .inr ⟨c, oc, vs, q, t, t', hz _ _ _ hc, z⟩
  | met f y =>
    have e : h.get? a = some (PySem.W.methodObj (.ref f) (.ref y)) := x
    show h'.get? a = some (PySem.W.methodObj (.ref f) (.ref y))
    exact k a _ (.inl rfl) e
  | ext φ => obtain ⟨p, ⟨o, e⟩, st⟩ := x; exact ⟨st _ _ p fun o q => k _ _ (.inl rfl) q, ⟨o, k _ _ (.inl rfl) e⟩, st⟩
theorem HOk.lt (x : HOk P w H h) (e : H a = some o) : a < h.objs.size := (x a o e).lt
theorem HOk.fresh (x : HOk P w H h) (e : h.objs.size ≤ a) : H a = none := by
  cases q : H a with
  | none => rfl
  | some u => exact absurd (Nat.lt_of_lt_of_le (x.lt q) e) (Nat.lt_irrefl _)
theorem HOk.kept (x : HOk P w H h) (k : ∀ b u, h.get? b = some u → h'.get? b = some u) : HOk P w H h' := fun a o e =>
  (x a o e).stay (fun b u _ q => k b u q) (fun _ q => q) fun _ _ q => q
theorem HOk.laid (x : HOk P w H h) (k : ∀ b u, h.get? b = some u → h'.get? b = some u) (hp : h.objs.size ≤ a) (new : ObjOk P w (upd H a o) h' a o) : HOk P w (upd H a o) h' := fun b u e => by
  have hn := x.fresh hp
  by_cases hb : b = a
  · subst hb; rw [upd_same] at e; cases e; exact new
  · rw [upd_ne hb] at e
    exact (x b u e).stay (fun c v _ q => k c v q) (fun c q => by rw [upd_ne (ne_of_none q hn)]; exact q) (fun c xs q => by rw [upd_ne (ne_of_none q hn)]; exact q) fun c o u q => by rw [upd_ne (ne_of_none q hn)]; exact q
end
def Rd (H : Hp) (a : Addr) (u : HO) : Prop := H a = some u ∨ ∃ o, H a = some (.frz o u)
theorem Rd.ok {P : Program} {w : World} {H : Hp} {h : Heap} {a : Addr} {u : HO} (r : Rd H a u) (x : HOk P w H h) : ObjOk P w H h a u := by
  rcases r with r | ⟨o, r⟩
  · exact x a u r
  · obtain ⟨_, q⟩ := x a _ r
    exact q
def Mut : Option HO → Prop
  | some (.lst _) => True
  | some (.dK _) => True
  | some (.dT _) => True
  | some (.set _ _) => True
  | some (.ins _ _ _) => True
  | some (.ext _) => True
  | _ => False
section
variable {P : Program} {w : World} {H : Hp} {h h' : Heap} {x e : Addr} {o' : HO}
theorem HOk.write (ok : HOk P w H h) (mu : Mut (H x)) (he : e = x ∨ H e = some (.own x)) (k : ∀ b u, b ≠ e → h.get? b = some u → h'.get? b = some u) (heo : ∃ u, h'.get? e = some u)
    (new : ObjOk P w (upd H x o') h' x o') : HOk P w (upd H x o') h' := fun b u q => by
  have nown : ∀ c y, H c = some (.own y) → c ≠ x := fun c y r z => by subst z; rw [r] at mu; exact mu
  have ntup : ∀ c xs, H c = some (.tup xs) → c ≠ x := fun c xs r z => by subst z; rw [r] at mu; exact mu
  by_cases hb : b = x
  · subst hb; rw [upd_same] at q; cases q; exact new
  · rw [upd_ne hb] at q
    by_cases hbe : b = e
    · have q' : H b = some (.own x) := by
        rcases he with z | z
        · exact absurd (hbe.trans z) hb
        · rw [hbe]; exact z
      rw [q] at q'; cases q'
      obtain ⟨v, hv⟩ := heo
      exact ⟨v, by rw [hbe]; exact hv⟩
    · refine (ok b u q).stay (fun c v hc r => k c v ?_ r) (fun c r => by rw [upd_ne (nown c b r)]; exact r) (fun c xs r => by rw [upd_ne (ntup c xs r)]; exact r) fun c ob xs r => by rw [upd_ne (fun z => by subst z; rw [r] at mu; exact mu)]; exact r
      rcases hc with rfl | hc
      · exact hbe
      · rintro rfl
        rcases he with z | z
        · exact nown c b hc z
        · rw [hc] at z; cases z; exact hb rfl
end
structure Un (fs ex : List Addr) (H H' : Hp) (h h' : Heap) : Prop where
  keep : ∀ b o, h.get? b = some o → H b = none → b ∉ fs → b ∉ ex → h'.get? b = some o
  slot : ∀ b o, h.get? b = some o → H b = none → b ∈ fs → b ∉ ex → ∃ sl, h'.get? b = some { o with slots := sl }
  free : ∀ b o, h.get? b = some o → H b = none → b ∉ ex → H' b = none
  there : ∀ b o, h.get? b = some o → b ∉ ex → ∃ o', h'.get? b = some o'
  tups : ∀ b xs, H b = some (.tup xs) → H' b = some (.tup xs)
  frzs : ∀ b o u, H b = some (.frz o u) → H' b = some (.frz o u)
  tbls : ∀ b ps, H b = some (.tbl ps) → ∃ more, H' b = some (.tbl (ps ++ more))
section
variable {fs fs' ex ex' : List Addr} {H H1 H2 : Hp} {h h1 h2 h' : Heap} {a x e : Addr} {o : HO}
theorem Un.any (u : Un fs ex H H1 h h1) {b : Addr} {ob : Obj} (q : h.get? b = some ob) (n : H b = none) (hx : b ∉ ex) : ∃ sl, h1.get? b = some { ob with slots := sl } := by
  by_cases hb : b ∈ fs
  · exact u.slot b ob q n hb hx
  · exact ⟨ob.slots, u.keep b ob q n hb hx⟩
theorem Un.kept (k : ∀ b u, h.get? b = some u → h'.get? b = some u) : Un fs ex H H h h' :=
  ⟨fun b ob q _ _ _ => k b ob q, fun b ob q _ _ _ => ⟨ob.slots, k b ob q⟩, fun _ _ _ n _ => n, fun b ob q _ => ⟨ob, k b ob q⟩, fun _ _ q => q, fun _ _ _ q => q, fun _ ps q => ⟨#[], by rw [q]; simp⟩⟩
theorem Un.refl : Un fs ex H H h h := Un.kept fun _ _ q => q
theorem Un.laid (k : ∀ b u, h.get? b = some u → h'.get? b = some u) (hp : h.objs.size ≤ a) (hn : H a = none) : Un fs ex H (upd H a o) h h' where
  keep := fun b u q _ _ _ => k b u q
  slot := fun b u q _ _ _ => ⟨u.slots, k b u q⟩
  free := fun b u q n _ => by rw [upd_ne (Nat.ne_of_lt (Nat.lt_of_lt_of_le (Heap.lt_size q) hp))]; exact n
  there := fun b u q _ => ⟨u, k b u q⟩
  tups := fun b xs q => by rw [upd_ne (ne_of_none q hn)]; exact q
  frzs := fun b u xs q => by rw [upd_ne (ne_of_none q hn)]; exact q
  tbls := fun b ps q => ⟨#[], by rw [upd_ne (ne_of_none q hn), q]; simp⟩
theorem Un.write (mu : Mut (H x)) (he : e = x ∨ H e = some (.own x)) (k : ∀ b u, b ≠ e → h.get? b = some u → h'.get? b = some u) (heo : ∃ u, h'.get? e = some u) : Un fs ex H (upd H x o) h h' := by
  have hx : ∀ b, H b = none → b ≠ x := fun b n z => by subst z; rw [n] at mu; exact mu
  have hb : ∀ b, H b = none → b ≠ e := fun b n z => by
    subst z
    rcases he with r | r
    · exact hx b n r
    · rw [n] at r; cases r
  have hm : ∀ b u, H b = some u → ¬ Mut (some u) → b ≠ x := fun b u q nm z => by subst z; rw [q] at mu; exact nm mu
  refine ⟨fun b u q n _ _ => k b u (hb b n) q, fun b u q n _ _ => ⟨u.slots, k b u (hb b n) q⟩, fun b u q n _ => by rw [upd_ne (hx b n)]; exact n, fun b u q _ => ?_,
    fun b xs q => by rw [upd_ne (hm b _ q fun z => z)]; exact q, fun b u xs q => by rw [upd_ne (hm b _ q fun z => z)]; exact q, fun b ps q => ⟨#[], by rw [upd_ne (hm b _ q fun z => z), q]; simp⟩⟩
  by_cases hbe : b = e
  · subst hbe; exact heo
  · exact ⟨u, k b u hbe q⟩
end
def trk (h : Heap) (H : Hp) : List Addr := (List.range h.objs.size).filter fun a => (H a).isSome
def hidT (h : Heap) (H : Hp) : Heap := PySem.W.hideAll h (trk h H)
theorem hidT_size (h : Heap) (H : Hp) : (hidT h H).objs.size = h.objs.size := PySem.W.hideAll_size _ _
theorem hidT_get {h : Heap} {H : Hp} {b : Addr} {o : Obj} (e : h.get? b = some o) (n : H b = none) : (hidT h H).get? b = some o :=
  PySem.W.hideAll_get _ e fun hm => by
    have q : (H b).isSome = true := (List.mem_filter.mp hm).2
    rw [n] at q; simp at q
theorem of_hidT {h : Heap} {H : Hp} {b : Addr} {o : Obj} (e : (hidT h H).get? b = some o) : h.get? b = some o ∧ H b = none := by
  have e' : h.get? b = some o := PySem.W.of_hideAll (trk h H) e
  refine ⟨e', ?_⟩
  cases q : H b with
  | none => rfl
  | some x =>
    have hm : b ∈ trk h H := List.mem_filter.mpr ⟨List.mem_range.mpr (Heap.lt_size e'), by simp [q]⟩
    have z : (hidT h H).get? b = none := PySem.W.hideAll_none (trk h H) hm
    rw [z] at e; cases e
end L2
namespace L2
open PySem PySem.Spec PyProof.Rows
structure Mod (K : PySem.W.Frag) (mg : Str → Option Value) (base : Heap) : Prop where
  kin : K.In base
  glob : base.Ns mainGlobals mg
  blt : ∃ mb, base.Ns builtinsNs mb ∧ ∀ x : Str, x ≠ "__name__" → mb x = bootBuiltins x
  nolimit : base.NoLimit
structure Cx where
  prog : Program
  w : World
  K : PySem.W.Frag
  mg : Str → Option Value
  base : Heap
  A : Around
  N : List Str
  s₀ : Shared
  H₀ : Hp
  env : Env
  outer : List Env
  stack : List Env
  ex : List Addr
  fn : Str → Bool
  calm : Bool
  pn : List (Addr × Obj)
  xe : Value → Shared → Prop
def frs (l : List Env) : List Addr := l.filterMap (·.frame)
abbrev Cx.fs (X : Cx) : List Addr := frs X.outer
def Vis (sc : Scope) (x : Str) : Prop := sc.names.lookup x = some .local ∨ sc.names.lookup x = some .cell ∨ sc.names.lookup x = some .free
def Loc (sc : Scope) (x : Str) : Prop := sc.names.lookup x = some .local ∨ sc.names.lookup x = some .cell
def Look (env : Env) (h : Heap) (m : Str → Option Value) (x : Str) (u : Value) : Prop :=
  (env.kindOf x = some .local ∧ m x = some u) ∨ ((env.kindOf x = some .cell ∨ env.kindOf x = some .free) ∧ ∃ c, env.cells.lookup x = some c ∧ h.IsCell c (some u))
structure Cx.Ok (X : Cx) : Prop where
  mod : Mod X.K X.mg X.base
  kind : X.env.scope.kind = .function
  glob : X.env.globals = mainGlobals
  blt : X.env.builtins = builtinsNs
  above : X.s₀.heap.objs.size ≤ X.env.locals
  inj : ∀ x y c, X.env.cells.lookup x = some c → X.env.cells.lookup y = some c → x = y
  has : ∀ x, (X.env.kindOf x = some .cell ∨ X.env.kindOf x = some .free) → ∃ c, X.env.cells.lookup x = some c
  cab : ∀ x c, X.fn x = true → X.env.cells.lookup x = some c → X.s₀.heap.objs.size ≤ c
  hd : X.calm = true → X.A.handled = none
  frames : X.A.frames = some X.stack
  stk : X.stack = X.outer ∨ (X.stack = X.env :: X.outer ∧ X.env.frame = some X.env.locals)
  exf : ∀ b ∈ X.ex, b ≠ X.env.locals ∧ ∀ x c, X.env.cells.lookup x = some c → c ≠ b
  bs : ∀ b o, X.base.get? b = some o → X.s₀.heap.get? b = some o ∧ X.H₀ b = none
  bsz : X.base.objs.size ≤ X.s₀.heap.objs.size
  noex : ∀ b o, X.base.get? b = some o → b ∉ X.ex
  exfs : ∀ b ∈ X.ex, b ∉ X.fs
  funs : X.s₀.heap.FunFrames X.base X.outer
  frf : ∀ b ∈ X.fs, X.H₀ b = none
structure Inv (X : Cx) (pins : List (Addr × Obj)) (σ : List (Option V)) (H : Hp) (s : Shared) : Prop where
  ok : X.Ok
  os : s.os = X.s₀.os
  bare : AllBare s.gens
  base : Un X.fs X.ex X.H₀ H X.s₀.heap s.heap
  loc : ∃ m, s.heap.Ns X.env.locals m ∧ ∀ (i : Nat) (x : Str) (v : V), X.N[i]? = some x → σ[i]? = some (some v) → Vis X.env.scope x → ∃ u, RelV v u ∧ Look X.env s.heap m x u
  cell : ∀ x c, X.env.cells.lookup x = some c → ∃ v, s.heap.IsCell c v
  free : H X.env.locals = none
  freeC : ∀ x c, X.env.cells.lookup x = some c → H c = none
  pin : ∀ p ∈ X.pn ++ pins, s.heap.get? p.1 = some p.2 ∧ H p.1 = none ∧ p.1 ≠ X.env.locals ∧ p.1 ∉ X.fs ∧ ∀ v, p.2.data ≠ .cell v
  hok : HOk X.prog X.w H s.heap
  len : σ.length = X.N.length
section
variable {X : Cx} {pins : List (Addr × Obj)} {σ : List (Option V)} {H H' : Hp} {s : Shared} {h' : Heap}
theorem Cx.Ok.nofr (ok : X.Ok) {b : Addr} {o : Obj} (e : X.base.get? b = some o) : b ∉ X.fs := fun hb => by
  have := (ok.funs.mem hb).1
  rw [e] at this; cases this
theorem Inv.bs (I : Inv X pins σ H s) : ∀ b o, X.base.get? b = some o → s.heap.get? b = some o ∧ H b = none := fun b o e =>
  ⟨I.base.keep b o (I.ok.bs b o e).1 (I.ok.bs b o e).2 (I.ok.nofr e) (I.ok.noex b o e), I.base.free b o (I.ok.bs b o e).1 (I.ok.bs b o e).2 (I.ok.noex b o e)⟩
theorem Inv.bk (I : Inv X pins σ H s) : ∀ b o, X.base.get? b = some o → s.heap.get? b = some o := fun b o e => (I.bs b o e).1
theorem Inv.mod (I : Inv X pins σ H s) : Mod X.K X.mg X.base := I.ok.mod
theorem Inv.kIn (I : Inv X pins σ H s) : X.K.In s.heap := I.ok.mod.kin.keeps I.bk
theorem Inv.lt (I : Inv X pins σ H s) : X.env.locals < s.heap.objs.size := let ⟨_, hn, _⟩ := I.loc; hn.lt
theorem Inv.sz (I : Inv X pins σ H s) : X.s₀.heap.objs.size ≤ s.heap.objs.size := Nat.le_trans I.ok.above (Nat.le_of_lt I.lt)
theorem Inv.nofs (I : Inv X pins σ H s) {a : Addr} (h : s.heap.objs.size ≤ a) : a ∉ X.fs := fun hb => by
  obtain ⟨_, o, ho, _⟩ := I.ok.funs.mem hb
  exact absurd (Nat.lt_of_lt_of_le (Heap.lt_size ho) (Nat.le_trans I.sz h)) (Nat.lt_irrefl _)
theorem Inv.cne (I : Inv X pins σ H s) : ∀ x c, X.env.cells.lookup x = some c → c ≠ X.env.locals := fun x c e z => by
  obtain ⟨v, o, ho, hd⟩ := I.cell x c e
  obtain ⟨m, ⟨o', es, ep, ho', hd', _⟩, _⟩ := I.loc
  rw [z, ho'] at ho; cases ho; rw [hd'] at hd; cases hd
theorem Inv.funs (I : Inv X pins σ H s) : s.heap.FunFrames X.base X.outer := by
  have all : ∀ (l : List Env), (∀ b ∈ frs l, b ∈ X.fs) → X.s₀.heap.FunFrames X.base l → s.heap.FunFrames X.base l := by
    intro l
    induction l with
    | nil => intro _ _; trivial
    | cons env r ih =>
      intro hs hl
      obtain ⟨hk, ⟨L, o, hf, hn, ho, hd⟩, hr⟩ := hl
      have hL : L ∈ X.fs := hs L (by unfold frs; rw [List.filterMap_cons, hf]; exact List.mem_cons_self)
      obtain ⟨sl, e⟩ := I.base.slot L o ho (I.ok.frf L hL) hL fun z => I.ok.exfs L z hL
      exact ⟨hk, ⟨L, _, hf, hn, e, hd⟩, ih (fun b hb => hs b (by unfold frs; rw [List.filterMap_cons, hf]; exact List.mem_cons_of_mem _ hb)) hr⟩
  exact all X.outer (fun _ hb => hb) I.ok.funs
theorem Inv.stack (I : Inv X pins σ H s) : s.heap.FunFrames X.base X.stack := by
  rcases I.ok.stk with e | ⟨e, hf⟩
  · rw [e]; exact I.funs
  · rw [e]
    obtain ⟨m, hn, _⟩ := I.loc
    refine .cons (by rw [I.ok.kind]; decide) hf hn ?_ I.funs
    exact Heap.get?_none_of_le (Nat.le_trans I.ok.bsz I.ok.above)
theorem Inv.stkSub (I : Inv X pins σ H s) : ∀ b ∈ frs X.stack, b ∈ X.env.locals :: X.fs := fun b hb => by
  rcases I.ok.stk with e | ⟨e, hf⟩
  · rw [e] at hb; exact List.mem_cons_of_mem _ hb
  · rw [e] at hb
    unfold frs at hb
    rw [List.filterMap_cons, hf] at hb
    exact hb
theorem Inv.stkFree (I : Inv X pins σ H s) : ∀ b ∈ frs X.stack, H b = none := fun b hb => by
  rcases List.mem_cons.mp (I.stkSub b hb) with e | hb
  · rw [e]; exact I.free
  · obtain ⟨_, o, ho, _⟩ := I.ok.funs.mem hb
    exact I.base.free b o ho (I.ok.frf b hb) fun z => I.ok.exfs b z hb
theorem Inv.step {g' : Array GenState} {t' : Nat} {d' : Drawn} {ch : List Addr} (I : Inv X pins σ H s)
    (hch : ∀ b ∈ ch, (b ∈ X.ex ∨ X.s₀.heap.objs.size ≤ b) ∧ b ≠ X.env.locals ∧ (∀ x c, X.env.cells.lookup x = some c → c ≠ b) ∧ ∀ p ∈ X.pn ++ pins, p.1 ≠ b)
    (keep : ∀ b o, b ≠ X.env.locals → b ∉ X.fs → b ∉ ch → s.heap.get? b = some o → H b = none → h'.get? b = some o)
    (slot : ∀ b o, b ≠ X.env.locals → b ∈ X.fs → b ∉ ch → s.heap.get? b = some o → H b = none → ∃ sl, h'.get? b = some { o with slots := sl }) (free : ∀ b o, b ∉ ch → s.heap.get? b = some o → H b = none → H' b = none)
    (there : ∀ b o, b ∉ ch → s.heap.get? b = some o → ∃ o', h'.get? b = some o')
    (tups : ∀ b xs, H b = some (.tup xs) → H' b = some (.tup xs)) (frzs : ∀ b o u, H b = some (.frz o u) → H' b = some (.frz o u)) (tbls : ∀ b ps, H b = some (.tbl ps) → ∃ more, H' b = some (.tbl (ps ++ more)))
    (ns : ∀ m, s.heap.Ns X.env.locals m → h'.Ns X.env.locals m) (hok : HOk X.prog X.w H' h') (hg : AllBare g') :
    Inv X pins σ H' { s with heap := h', gens := g', drawn := d', toks := t' } := by
  have neL : ∀ b o, X.s₀.heap.get? b = some o → b ≠ X.env.locals := fun b o e => Nat.ne_of_lt (Nat.lt_of_lt_of_le (Heap.lt_size e) I.ok.above)
  have neC : ∀ b o, X.s₀.heap.get? b = some o → b ∉ X.ex → b ∉ ch := fun b o e hx hb => by
    rcases (hch b hb).1 with z | z
    · exact hx z
    · exact absurd (Nat.lt_of_lt_of_le (Heap.lt_size e) z) (Nat.lt_irrefl _)
  have cellK : ∀ x c, X.env.cells.lookup x = some c → ∀ v, s.heap.IsCell c v → h'.IsCell c v := fun x c e v ⟨o, ho, hd⟩ => by
    have nch : c ∉ ch := fun z => (hch c z).2.2.1 x c e rfl
    by_cases hc : c ∈ X.fs
    · obtain ⟨sl, q⟩ := slot c o (I.cne x c e) hc nch ho (I.freeC x c e)
      exact ⟨_, q, hd⟩
    · exact ⟨o, keep c o (I.cne x c e) hc nch ho (I.freeC x c e), hd⟩
  refine ⟨I.ok, I.os, hg, ⟨fun b o e n hb hx => ?_, fun b o e n hb hx => ?_, fun b o e n hx => ?_, fun b o e hx => ?_, fun b xs e => tups b xs (I.base.tups b xs e), fun b o xs e => frzs b o xs (I.base.frzs b o xs e), fun b ps e => ?_⟩, ?_, fun x c e => ?_, ?_, fun x c e => ?_, fun p hp => ?_, hok, I.len⟩
  · exact keep b o (neL b o e) hb (neC b o e hx) (I.base.keep b o e n hb hx) (I.base.free b o e n hx)
  · obtain ⟨sl, e1⟩ := I.base.slot b o e n hb hx
    obtain ⟨sl', e2⟩ := slot b _ (neL b o e) hb (neC b o e hx) e1 (I.base.free b o e n hx)
    exact ⟨sl', e2⟩
  · obtain ⟨o', e1⟩ := I.base.there b o e hx
    exact free b o' (neC b o e hx) e1 (I.base.free b o e n hx)
  · obtain ⟨o', e1⟩ := I.base.there b o e hx
    exact there b o' (neC b o e hx) e1
  · obtain ⟨m1, e1⟩ := I.base.tbls b ps e
    obtain ⟨m2, e2⟩ := tbls b _ e1
    exact ⟨m1 ++ m2, by rw [e2, Array.append_assoc]⟩
  · obtain ⟨m, hn, hl⟩ := I.loc
    refine ⟨m, ns m hn, fun i x v e1 e2 e3 => ?_⟩
    obtain ⟨u, r, l⟩ := hl i x v e1 e2 e3
    refine ⟨u, r, ?_⟩
    rcases l with l | ⟨k, c, e, z⟩
    · exact .inl l
    · exact .inr ⟨k, c, e, cellK x c e _ z⟩
  · obtain ⟨v, z⟩ := I.cell x c e
    exact ⟨v, cellK x c e v z⟩
  · obtain ⟨m, ⟨o, _, _, ho, _⟩, _⟩ := I.loc
    exact free _ o (fun z => (hch _ z).2.1 rfl) ho I.free
  · obtain ⟨v, o, ho, hd⟩ := I.cell x c e
    exact free c o (fun z => (hch c z).2.2.1 x c e rfl) ho (I.freeC x c e)
  · obtain ⟨e, n, ne, nf, d⟩ := I.pin p hp
    have nch : p.1 ∉ ch := fun z => (hch p.1 z).2.2.2 p hp rfl
    exact ⟨keep p.1 p.2 ne nf nch e n, free p.1 p.2 nch e n, ne, nf, d⟩
theorem Inv.un {t' : Nat} (I : Inv X pins σ H s) (u : Un X.fs [] H H' s.heap h') (hok : HOk X.prog X.w H' h') : Inv X pins σ H' { s with heap := h', toks := t' } := by
  obtain ⟨m, ⟨o, es, ep, ho, r⟩, _⟩ := id I.loc
  obtain ⟨sl, hL⟩ := u.any ho I.free (by simp)
  exact I.step (g' := s.gens) (d' := s.drawn) (ch := []) (fun _ z => nomatch z) (fun b o _ hb _ e n => u.keep b o e n hb (by simp)) (fun b o _ hb _ e n => u.slot b o e n hb (by simp)) (fun b o _ e n => u.free b o e n (by simp)) (fun b o _ e => u.there b o e (by simp)) u.tups u.frzs u.tbls (fun m' hm => by
    obtain ⟨o', es', ep', ho', r'⟩ := hm
    rw [ho] at ho'; cases ho'
    exact ⟨_, es', ep', hL, r'⟩) hok I.bare
theorem Inv.call {g' : Array GenState} {t' : Nat} {d' : Drawn} {ch : List Addr} (I : Inv X pins σ H s) (u : Un (frs X.stack) ch H H' s.heap h') (hok : HOk X.prog X.w H' h') (hg : AllBare g')
    (hch : ∀ b ∈ ch, (b ∈ X.ex ∨ X.s₀.heap.objs.size ≤ b) ∧ b ≠ X.env.locals ∧ (∀ x c, X.env.cells.lookup x = some c → c ≠ b) ∧ ∀ p ∈ X.pn ++ pins, p.1 ≠ b) :
    Inv X pins σ H' { s with heap := h', gens := g', drawn := d', toks := t' } := by
  obtain ⟨m, ⟨o, es, ep, ho, r⟩, _⟩ := id I.loc
  obtain ⟨sl, hL⟩ := u.any ho I.free fun z => (hch _ z).2.1 rfl
  exact I.step (ch := ch) hch (fun b o hL hb hc e n => u.keep b o e n (fun z => (List.mem_cons.mp (I.stkSub b z)).elim hL hb) hc) (fun b o _ _ hc e n => u.any e n hc) (fun b o hc e n => u.free b o e n hc) (fun b o hc e => u.there b o e hc) u.tups u.frzs u.tbls (fun m' hm => by
    obtain ⟨o', es', ep', ho', r'⟩ := hm
    rw [ho] at ho'; cases ho'
    exact ⟨_, es', ep', hL, r'⟩) hok hg
theorem Inv.turned {t' : Nat} {it : Addr} (I : Inv X pins σ H s) (k : ∀ b o, b ≠ it → s.heap.get? b = some o → h'.get? b = some o) (hn : H it = none) (hL : it ≠ X.env.locals)
    (h1 : it ∈ X.ex ∨ X.s₀.heap.objs.size ≤ it) (h2 : ∀ x c, X.env.cells.lookup x = some c → c ≠ it) (h3 : ∀ p ∈ X.pn ++ pins, p.1 ≠ it) : Inv X pins σ H { s with heap := h', toks := t' } := by
  have nit : ∀ b u, H b = some u → b ≠ it := fun b u e z => by rw [z, hn] at e; cases e
  refine I.step (g' := s.gens) (d' := s.drawn) (ch := [it]) (fun b hb => ?_) (fun b o _ _ hc e _ => k b o (fun z => hc (by simp [z])) e) (fun b o _ _ hc e _ => ⟨o.slots, k b o (fun z => hc (by simp [z])) e⟩) (fun _ _ _ _ n => n)
    (fun b o hc e => ⟨o, k b o (fun z => hc (by simp [z])) e⟩) (fun _ _ e => e) (fun _ _ _ e => e) (fun b ps e => ⟨#[], by rw [e]; simp⟩) (fun m hm => ?_) (fun b u e => ?_) I.bare
  · have e : b = it := by simpa using hb
    subst e
    exact ⟨h1, hL, h2, h3⟩
  · obtain ⟨o, es, ep, ho, r⟩ := hm
    exact ⟨o, es, ep, k _ o (Ne.symm hL) ho, r⟩
  · refine (I.hok b u e).stay (fun c v hc q => k c v ?_ q) (fun _ q => q) fun _ _ q => q
    rcases hc with z | z
    · rw [z]; exact nit b u e
    · exact nit c _ z
theorem Inv.tok (I : Inv X pins σ H s) (t : Nat) : Inv X pins σ H { s with toks := t } := I.un (h' := s.heap) (t' := t) Un.refl I.hok
theorem Inv.kept {t' : Nat} (I : Inv X pins σ H s) (k : ∀ b u, s.heap.get? b = some u → h'.get? b = some u) : Inv X pins σ H { s with heap := h', toks := t' } := I.un (Un.kept k) (I.hok.kept k)
theorem Inv.laid {a : Addr} {o : HO} {t' : Nat} (I : Inv X pins σ H s) (k : ∀ b u, s.heap.get? b = some u → h'.get? b = some u) (hp : s.heap.objs.size ≤ a) (new : ObjOk X.prog X.w (upd H a o) h' a o) :
    Inv X pins σ (upd H a o) { s with heap := h', toks := t' } := I.un (Un.laid k hp (I.hok.fresh hp)) (I.hok.laid k hp new)
theorem Inv.write {x e : Addr} {o : HO} {t' : Nat} (I : Inv X pins σ H s) (mu : Mut (H x)) (he : e = x ∨ H e = some (.own x)) (k : ∀ b u, b ≠ e → s.heap.get? b = some u → h'.get? b = some u) (heo : ∃ u, h'.get? e = some u)
    (new : ObjOk X.prog X.w (upd H x o) h' x o) : Inv X pins σ (upd H x o) { s with heap := h', toks := t' } := I.un (Un.write mu he k heo) (I.hok.write mu he k heo new)
theorem Inv.pins_of {pins' : List (Addr × Obj)} (I : Inv X pins σ H s) (h : ∀ p ∈ pins', s.heap.get? p.1 = some p.2 ∧ H p.1 = none ∧ p.1 ≠ X.env.locals ∧ p.1 ∉ X.fs ∧ ∀ v, p.2.data ≠ .cell v) : Inv X pins' σ H s :=
  ⟨I.ok, I.os, I.bare, I.base, I.loc, I.cell, I.free, I.freeC, fun p hp => (List.mem_append.mp hp).elim (fun z => I.pin p (List.mem_append_left _ z)) (h p), I.hok, I.len⟩
theorem nodup_ix {N : List Str} (hN : N.Nodup) {i j : Nat} {x : Str} (a : N[i]? = some x) (b : N[j]? = some x) : i = j := by
  obtain ⟨h1, e1⟩ := List.getElem?_eq_some_iff.mp a
  obtain ⟨h2, e2⟩ := List.getElem?_eq_some_iff.mp b
  exact (List.getElem_inj hN).mp (e1.trans e2.symm)
theorem store_ok2 {M : Model} {A : Around} {E : Value → Shared → Prop} {i : Nat} {x : Str} {v : V} {u : Value} {Q : Unit → Shared → Prop} (I : Inv X pins σ H s) (hN : X.N.Nodup) (hi : X.N[i]? = some x) (hx : Loc X.env.scope x) (r : RelV v u)
    (h : ∀ s', Inv X pins (σ.set i (some v)) H s' → (∃ a, Heap.SameBut a s.heap s'.heap ∧ (a = X.env.locals ∨ X.env.cells.lookup x = some a)) → Q () s') (hf : X.fn x = true ∨ X.env.scope.names.lookup x = some .local := by first | exact .inl rfl | exact .inr rfl | assumption) : wpAny M A (storeName X.env x u) Q E s := by
  obtain ⟨m, hn, hl⟩ := id I.loc
  have hcls : (X.env.scope.kind == .class || (X.env.scope.kind == .module && X.env.locals != X.env.globals)) = false := by rw [I.ok.kind]; rfl
  have hiσ : i < σ.length := by rw [I.len]; exact (List.getElem?_eq_some_iff.mp hi).1
  have cne := I.cne
  have tracked : ∀ {a : Addr} {h' : Heap}, (∃ o, s.heap.get? a = some o ∧ H a = none) → Heap.SameBut a s.heap h' → HOk X.prog X.w H h' := fun {a h'} ha hs b ob e => by
    obtain ⟨_, _, hfree⟩ := ha
    refine (I.hok b ob e).stay (fun c w' hc q => (hs.2 c ?_).trans q) (fun _ q => q) fun _ _ q => q
    rintro rfl
    rcases hc with rfl | hc
    · rw [hfree] at e; cases e
    · rw [hfree] at hc; cases hc
  rcases hx with hk | hk
  · refine wpAny_storeName_local hk hn (fun h' hn' hs => ?_) hcls
    obtain ⟨oL, _, _, hoL, _⟩ := id hn
    refine h _ ⟨I.ok, I.os, I.bare, ⟨fun b o e n hb hx => ?_, fun b o e n hb hx => ?_, I.base.free, fun b o e hx => ?_, I.base.tups, I.base.frzs, I.base.tbls⟩, ⟨_, hn', fun j y v' e1 e2 e3 => ?_⟩, fun y c e => ?_, I.free, I.freeC, fun p hp => ?_, tracked ⟨oL, hoL, I.free⟩ hs, by simpa using I.len⟩ ⟨_, hs, .inl rfl⟩
    · exact (hs.2 b (Nat.ne_of_lt (Nat.lt_of_lt_of_le (Heap.lt_size e) I.ok.above))).trans (I.base.keep b o e n hb hx)
    · obtain ⟨sl, e1⟩ := I.base.slot b o e n hb hx
      exact ⟨sl, (hs.2 b (Nat.ne_of_lt (Nat.lt_of_lt_of_le (Heap.lt_size e) I.ok.above))).trans e1⟩
    · obtain ⟨o', e1⟩ := I.base.there b o e hx
      exact ⟨o', (hs.2 b (Nat.ne_of_lt (Nat.lt_of_lt_of_le (Heap.lt_size e) I.ok.above))).trans e1⟩
    · by_cases hj : j = i
      · subst hj
        rw [hi] at e1; cases e1
        rw [List.getElem?_set_self hiσ] at e2
        cases e2
        exact ⟨u, r, .inl ⟨hk, by simp⟩⟩
      · rw [List.getElem?_set_ne (Ne.symm hj)] at e2
        obtain ⟨u', r', q⟩ := hl j y v' e1 e2 e3
        refine ⟨u', r', ?_⟩
        rcases q with ⟨k, e⟩ | ⟨k, c, e, z⟩
        · refine .inl ⟨k, ?_⟩
          have : y ≠ x := fun e => hj (nodup_ix hN e1 (e ▸ hi))
          simp [this, e]
        · exact .inr ⟨k, c, e, z.sameBut hs (cne y c e)⟩
    · obtain ⟨w', z⟩ := I.cell y c e
      exact ⟨w', z.sameBut hs (cne y c e)⟩
    · obtain ⟨e, n, ne, nf, d⟩ := I.pin p hp
      exact ⟨(hs.2 p.1 ne).trans e, n, ne, nf, d⟩
  · have hfn : X.fn x = true := by
      rcases hf with z | z
      · exact z
      · rw [z] at hk; cases hk
    obtain ⟨c, hc⟩ := I.ok.has x (.inl hk)
    obtain ⟨w', z⟩ := I.cell x c hc
    refine wpAny_storeName_cell I.ok.kind hk hc z (fun h' hc' hs => ?_)
    obtain ⟨oc, hoc, hocd⟩ := id z
    refine h { s with heap := h' } ⟨I.ok, I.os, I.bare, ⟨fun b o e n hb hx => ?_, fun b o e n hb hx => ?_, I.base.free, fun b o e hx => ?_, I.base.tups, I.base.frzs, I.base.tbls⟩, ⟨m, hn.sameBut hs (Ne.symm (cne x c hc)), fun j y v' e1 e2 e3 => ?_⟩, fun y c' e => ?_, I.free, I.freeC, fun p hp => ?_, tracked ⟨oc, hoc, I.freeC x c hc⟩ hs, by simpa using I.len⟩ ⟨c, hs, .inr hc⟩
    · exact (hs.2 b (Nat.ne_of_lt (Nat.lt_of_lt_of_le (Heap.lt_size e) (I.ok.cab x c hfn hc)))).trans (I.base.keep b o e n hb hx)
    · obtain ⟨sl, e1⟩ := I.base.slot b o e n hb hx
      exact ⟨sl, (hs.2 b (Nat.ne_of_lt (Nat.lt_of_lt_of_le (Heap.lt_size e) (I.ok.cab x c hfn hc)))).trans e1⟩
    · obtain ⟨o', e1⟩ := I.base.there b o e hx
      exact ⟨o', (hs.2 b (Nat.ne_of_lt (Nat.lt_of_lt_of_le (Heap.lt_size e) (I.ok.cab x c hfn hc)))).trans e1⟩
    · by_cases hj : j = i
      · subst hj
        rw [hi] at e1; cases e1
        rw [List.getElem?_set_self hiσ] at e2
        cases e2
        exact ⟨u, r, .inr ⟨.inl hk, c, hc, hc'⟩⟩
      · rw [List.getElem?_set_ne (Ne.symm hj)] at e2
        obtain ⟨u', r', q⟩ := hl j y v' e1 e2 e3
        refine ⟨u', r', ?_⟩
        rcases q with q | ⟨k, c', e, z'⟩
        · exact .inl q
        · refine .inr ⟨k, c', e, z'.sameBut hs ?_⟩
          rintro rfl
          exact hj (nodup_ix hN e1 (I.ok.inj _ _ _ e hc ▸ hi))
    · by_cases hcc : c' = c
      · subst hcc; exact ⟨_, hc'⟩
      · obtain ⟨w2, z2⟩ := I.cell y c' e
        exact ⟨w2, z2.sameBut hs hcc⟩
    · obtain ⟨e, n, ne, nf, d⟩ := I.pin p hp
      refine ⟨(hs.2 p.1 ?_).trans e, n, ne, nf, d⟩
      intro q
      rw [q, hoc] at e
      have q' : oc = p.2 := Option.some.inj e
      exact d w' (by rw [← q']; exact hocd)
theorem store_ok {M : Model} {A : Around} {E : Value → Shared → Prop} {i : Nat} {x : Str} {v : V} {u : Value} {Q : Unit → Shared → Prop} (I : Inv X pins σ H s) (hN : X.N.Nodup) (hi : X.N[i]? = some x) (hx : Loc X.env.scope x) (r : RelV v u)
    (h : ∀ s', Inv X pins (σ.set i (some v)) H s' → Q () s') (hf : X.fn x = true ∨ X.env.scope.names.lookup x = some .local := by first | exact .inl rfl | exact .inr rfl | assumption) : wpAny M A (storeName X.env x u) Q E s :=
  store_ok2 I hN hi hx r (fun s' I' _ => h s' I') hf
theorem Inv.call' {s' : Shared} {ch : List Addr} (I : Inv X pins σ H s) (ho : s'.os = s.os) (u : Un (frs X.stack) ch H H' s.heap s'.heap) (hok : HOk X.prog X.w H' s'.heap) (hg : AllBare s'.gens)
    (hch : ∀ b ∈ ch, (b ∈ X.ex ∨ X.s₀.heap.objs.size ≤ b) ∧ b ≠ X.env.locals ∧ (∀ x c, X.env.cells.lookup x = some c → c ≠ b) ∧ ∀ p ∈ X.pn ++ pins, p.1 ≠ b) : Inv X pins σ H' s' := by
  obtain ⟨h', g', d', t', o'⟩ := s'
  have e : o' = s.os := ho
  subst e
  exact I.call (g' := g') (t' := t') (d' := d') u hok hg hch
end
abbrev XK := Value → Option Addr → Hp → Prop
abbrev St := List (Option V)
abbrev VK := V → Hp → Prop
abbrev TE := St → Hp → VK → Prop
abbrev TT := St → Hp → (Bool → Hp → Prop) → Prop
abbrev TA := St → Hp → (List V → Hp → Prop) → Prop
structure Ends where
  nx : St → Hp → Prop
  rt : VK
  bk : St → Hp → Prop := fun _ _ => False
  ct : St → Hp → Prop := fun _ _ => False
abbrev TS := Ends → St → Hp → Prop
def EP (X : Cx) (pins : List (Addr × Obj)) (σ : St) (Q : VK) (u : Value) (s' : Shared) : Prop := ∃ v H', Inv X pins σ H' s' ∧ RelV v u ∧ Q v H'
def TP (X : Cx) (pins : List (Addr × Obj)) (σ : St) (Q : Bool → Hp → Prop) (b : Bool) (s' : Shared) : Prop := ∃ H', Inv X pins σ H' s' ∧ Q b H'
def AP (X : Cx) (pins : List (Addr × Obj)) (σ : St) (Q : List V → Hp → Prop) (us : List Value) (s' : Shared) : Prop := ∃ vs H', Inv X pins σ H' s' ∧ Vals vs us ∧ Q vs H'
def SP (X : Cx) (pins : List (Addr × Obj)) (D : Ends) (f : Flow) (s' : Shared) : Prop :=
  match f with
  | .next => ∃ σ' H', Inv X pins σ' H' s' ∧ D.nx σ' H'
  | .brk => ∃ σ' H', Inv X pins σ' H' s' ∧ D.bk σ' H'
  | .cont => ∃ σ' H', Inv X pins σ' H' s' ∧ D.ct σ' H'
  | .ret u => ∃ v σ' H', Inv X pins σ' H' s' ∧ RelV v u ∧ D.rt v H'
def PE (X : Cx) (e : Expr) (t : TE) : Prop :=
  ∀ (pins : List (Addr × Obj)) (s : Shared) (σ : St) (H : Hp) (Q : VK), Inv X pins σ H s → t σ H Q → wpAny (model X.prog X.w) X.A (eval e X.env) (EP X pins σ Q) X.xe s
def PT (X : Cx) (e : Expr) (t : TT) : Prop :=
  ∀ (pins : List (Addr × Obj)) (s : Shared) (σ : St) (H : Hp) (Q : Bool → Hp → Prop), Inv X pins σ H s → t σ H Q → wpAny (model X.prog X.w) X.A (isTrue e X.env (eval e X.env)) (TP X pins σ Q) X.xe s
def PW (X : Cx) (e : Expr) (t : TT) : Prop :=
  ∀ (whole : Sem Value) (pins : List (Addr × Obj)) (s : Shared) (σ : St) (H : Hp) (Q : Bool → Hp → Prop), Inv X pins σ H s → t σ H Q → wpAny (model X.prog X.w) X.A (isTrue e X.env whole) (TP X pins σ Q) X.xe s
theorem PW.pt {X : Cx} {e : Expr} {t : TT} (h : PW X e t) : PT X e t := h _
def PA (X : Cx) (es : List Expr) (t : TA) : Prop :=
  ∀ (pos : Pos) (pins : List (Addr × Obj)) (s : Shared) (σ : St) (H : Hp) (Q : List V → Hp → Prop), Inv X pins σ H s → t σ H Q → wpAny (model X.prog X.w) X.A (spliced (backTo pos (starEach es X.env))) (AP X pins σ Q) X.xe s
def PS (X : Cx) (st : Stmt) (t : TS) : Prop :=
  ∀ (pins : List (Addr × Obj)) (s : Shared) (σ : St) (H : Hp) (D : Ends), Inv X pins σ H s → t D σ H → wpAny (model X.prog X.w) X.A (exec st X.env) (SP X pins D) X.xe s
def PSs (X : Cx) (st : List Stmt) (t : TS) : Prop :=
  ∀ (pins : List (Addr × Obj)) (s : Shared) (σ : St) (H : Hp) (D : Ends), Inv X pins σ H s → t D σ H → wpAny (model X.prog X.w) X.A (execs st X.env) (SP X pins D) X.xe s
theorem thn {α : Type} {t : Sem α} {Q Q' : α → Shared → Prop} {M : Model} {A : Around} {E : Value → Shared → Prop} {s : Shared} (h : wpAny M A t Q E s) (hQ : ∀ a s, Q a s → Q' a s) : wpAny M A t Q' E s := wpAny_mono h hQ fun _ _ x => x
end L2
namespace L2
open PySem PySem.Spec PyProof.Rows
section
variable {X : Cx}
theorem bin {a b : Expr} {ta tb : TE} (ha : PE X a ta) (hb : PE X b tb) {pins : List (Addr × Obj)} {s : Shared} {σ : St} {H : Hp} {R : V → V → Hp → Prop} (I : Inv X pins σ H s) (h : ta σ H fun x H1 => tb σ H1 fun y H2 => R x y H2)
    {α : Type} {Q : α → Shared → Prop} {f : Value → Value → Sem α}
    (hf : ∀ v u s2 x y H2, Inv X pins σ H2 s2 → RelV x v → RelV y u → R x y H2 → wpAny (model X.prog X.w) X.A (f v u) Q X.xe s2) :
    wpAny (model X.prog X.w) X.A (eval a X.env) (fun v s₁ => wpAny (model X.prog X.w) X.A (eval b X.env) (fun u s₂ => wpAny (model X.prog X.w) X.A (f v u) Q X.xe s₂) X.xe s₁) X.xe s := by
  refine thn (ha pins s σ H _ I h) fun v s1 ⟨x, H1, I1, r1, q1⟩ => ?_
  refine thn (hb pins s1 σ H1 _ I1 q1) fun u s2 ⟨y, H2, I2, r2, q2⟩ => ?_
  exact hf v u s2 x y H2 I2 r1 r2 q2
inductive tVar (i : Nat) (σ : St) (H : Hp) (Q : V → Hp → Prop) : Prop
  | mk (v : V) (_ : σ[i]? = some (some v)) (_ : Q v H) : tVar i σ H Q
def tC (v : V) : TE := fun _ H Q => Q v H
theorem pe_var {i : Nat} {x : Str} {pos : Pos} (hN : X.N[i]? = some x) (hv : Vis X.env.scope x) (hd : (x == ("__debug__" : Str)) = false := by decide) (hcd : (x == ("__classdict__" : Str)) = false := by decide) : PE X (.Name x pos) (tVar i) := by
  intro pins s σ H Q I h
  obtain ⟨v, e, h⟩ := h
  obtain ⟨m, hn, hl⟩ := I.loc
  obtain ⟨u, r, l⟩ := hl i x v hN e hv
  have fin : EP X pins σ Q u s := ⟨v, H, I, r, h⟩
  rcases l with ⟨hk, hm⟩ | ⟨hk, c, hc, hcell⟩
  · exact wpAny_Name (wpAny_loadName_local I.ok.kind hk hn hm fin) hd
  · rcases hk with hk | hk
    · exact wpAny_Name (wpAny_loadName_cell I.ok.kind hk hc hcell fin) hd
    · exact wpAny_Name (wpAny_loadName_free I.ok.kind hk hc hcell fin hcd) hd
theorem pe_int {i j pos} : PE X (.Constant (.int i) j pos) (tC (.int i)) := fun _ _ _ H _ I h => wpAny_Constant_int ⟨.int i, H, I.tok _, ⟨_, rfl⟩, h⟩
theorem pe_bl {b j pos} : PE X (.Constant (.bool b) j pos) (tC (.bl b)) := fun _ _ _ H _ I h => Constant_bool ⟨.bl b, H, I, rfl, h⟩
theorem pe_non {j pos} : PE X (.Constant .none j pos) (tC .non) := fun _ _ _ H _ I h => Constant_none ⟨.non, H, I, rfl, h⟩
theorem pe_str {x j pos} : PE X (.Constant (.str x) j pos) (tC (.str x)) := fun _ _ _ H _ I h => Calls.Constant_str ⟨.str x, H, I.tok _, ⟨_, rfl⟩, h⟩
def Gl (X : Cx) (x : Str) : Prop := X.env.kindOf x = some .globalImplicit
theorem ld_glob {E : Value → Shared → Prop} {pins : List (Addr × Obj)} {s : Shared} {σ : St} {H : Hp} {x : Str} {u : Value} {pos : Pos} {Q : Value → Shared → Prop} (I : Inv X pins σ H s) (hg : Gl X x) (hm : X.mg x = some u) (h : Q u s)
    (hd : (x == ("__debug__" : Str)) = false := by decide) : wpAny (model X.prog X.w) X.A (eval (.Name x pos) X.env) Q E s :=
  Calls.Name_function_global I.ok.kind hg (Calls.loadGlobal_global (by rw [I.ok.glob]; exact I.mod.glob.keeps I.bk) hm h) hd
theorem ld_blt {E : Value → Shared → Prop} {pins : List (Addr × Obj)} {s : Shared} {σ : St} {H : Hp} {x : Str} {u : Value} {pos : Pos} {Q : Value → Shared → Prop} (I : Inv X pins σ H s) (hg : Gl X x) (hm : X.mg x = none) (hv : bootBuiltins x = some u) (h : Q u s)
    (hn : x ≠ "__name__" := by decide) (hd : (x == ("__debug__" : Str)) = false := by decide) : wpAny (model X.prog X.w) X.A (eval (.Name x pos) X.env) Q E s := by
  obtain ⟨mb, h1, h2⟩ := I.mod.blt
  exact Calls.Name_function_global I.ok.kind hg (Calls.loadGlobal_builtin (by rw [I.ok.glob]; exact I.mod.glob.keeps I.bk) hm (by rw [I.ok.blt]; exact h1.keeps I.bk) ((h2 x hn).trans hv) h) hd
theorem pe_glob {x : Str} {v : V} {u : Value} {pos : Pos} (hg : Gl X x) (hm : X.mg x = some u) (r : RelV v u) (hd : (x == ("__debug__" : Str)) = false := by decide) : PE X (.Name x pos) (tC v) :=
  fun _ _ _ H _ I h => ld_glob I hg hm ⟨v, H, I, r, h⟩ hd
theorem pe_bltn {x : Str} {v : V} {u : Value} {pos : Pos} (hg : Gl X x) (hm : X.mg x = none) (hv : bootBuiltins x = some u) (r : RelV v u) (hn : x ≠ "__name__" := by decide) (hd : (x == ("__debug__" : Str)) = false := by decide) : PE X (.Name x pos) (tC v) :=
  fun _ _ _ H _ I h => ld_blt I hg hm hv ⟨v, H, I, r, h⟩ hn hd
variable {a b : Expr} {ta tb : TE} {pos : Pos}
variable {tA tB' : TT} {rest : List Expr}
def tAnd (t u : TT) : TT := fun σ H Q => t σ H fun c H1 => if c = true then u σ H1 Q else Q false H1
def tOr (t u : TT) : TT := fun σ H Q => t σ H fun c H1 => if c = true then Q true H1 else u σ H1 Q
def tNot (t : TT) : TT := fun σ H Q => t σ H fun c H1 => Q (!c) H1
theorem pw_and1 (ha : PT X a tA) : PW X (.BoolOp .And [a] pos) tA := by
  intro wh pins s σ H Q I h
  refine isTrue_and (thn (ha pins s σ H Q I h) fun c s1 e => ?_)
  cases c with
  | true => exact isTrue_and_nil e
  | false => exact e
theorem pw_or1 (ha : PT X a tA) : PW X (.BoolOp .Or [a] pos) tA := by
  intro wh pins s σ H Q I h
  refine isTrue_or (thn (ha pins s σ H Q I h) fun c s1 e => ?_)
  cases c with
  | false => exact isTrue_or_nil e
  | true => exact e
theorem pw_and (ha : PT X a tA) (hb : PW X (.BoolOp .And (b :: rest) pos) tB') : PW X (.BoolOp .And (a :: b :: rest) pos) (tAnd tA tB') := by
  intro wh pins s σ H Q I h
  refine isTrue_and (thn (ha pins s σ H _ I h) fun c s1 ⟨H1, I1, q1⟩ => ?_)
  cases c with
  | true => exact hb wh pins s1 σ H1 Q I1 q1
  | false => exact ⟨H1, I1, q1⟩
theorem pw_or (ha : PT X a tA) (hb : PW X (.BoolOp .Or (b :: rest) pos) tB') : PW X (.BoolOp .Or (a :: b :: rest) pos) (tOr tA tB') := by
  intro wh pins s σ H Q I h
  refine isTrue_or (thn (ha pins s σ H _ I h) fun c s1 ⟨H1, I1, q1⟩ => ?_)
  cases c with
  | true => exact ⟨H1, I1, q1⟩
  | false => exact hb wh pins s1 σ H1 Q I1 q1
theorem pt_not (ha : PT X a tA) : PT X (.UnaryOp .Not a pos) (tNot tA) := by
  intro pins s σ H Q I h
  exact isTrue_not (ha pins s σ H (fun c H1 => Q (!c) H1) I h)
def tAndV (ta tb : TE) : TE := fun σ H Q => ta σ H fun x H1 => ∃ c, x = .bl c ∧ if c = true then tb σ H1 Q else Q (.bl false) H1
def tOrV (ta tb : TE) : TE := fun σ H Q => ta σ H fun x H1 => ∃ c, x = .bl c ∧ if c = true then Q (.bl true) H1 else tb σ H1 Q
theorem pe_one {op} {t : TE} (h : PE X a t) : PE X (.BoolOp op [a] pos) t := fun pins s σ H Q I hw => BoolOp_one (h pins s σ H Q I hw)
theorem pe_and (ha : PE X a ta) (hb : PE X (.BoolOp .And (b :: rest) pos) tb) : PE X (.BoolOp .And (a :: b :: rest) pos) (tAndV ta tb) := by
  intro pins s σ H Q I h
  refine BoolOp_and (thn (ha pins s σ H _ I h) fun v s1 ⟨x, H1, I1, r1, q1⟩ => ?_)
  obtain ⟨c, rfl, q1⟩ := q1
  cases r1
  refine wpAny_truthy_bool ?_
  cases c with
  | true => exact hb pins s1 σ H1 Q I1 q1
  | false => exact ⟨.bl false, H1, I1, rfl, q1⟩
theorem pe_or (ha : PE X a ta) (hb : PE X (.BoolOp .Or (b :: rest) pos) tb) : PE X (.BoolOp .Or (a :: b :: rest) pos) (tOrV ta tb) := by
  intro pins s σ H Q I h
  refine BoolOp_or (thn (ha pins s σ H _ I h) fun v s1 ⟨x, H1, I1, r1, q1⟩ => ?_)
  obtain ⟨c, rfl, q1⟩ := q1
  cases r1
  refine wpAny_truthy_bool ?_
  cases c with
  | false => exact hb pins s1 σ H1 Q I1 q1
  | true => exact ⟨.bl true, H1, I1, rfl, q1⟩
end
end L2
namespace L2
open PySem PySem.Spec PyProof.Rows
def SqL (K : PySem.W.Frag) (H : Hp) (a : Addr) (xs : List V) : Prop :=
  Rd H a (.lst xs) ∨
    ∃ (o : Obj) (its : Array Value) (n : Nat), K.lookup a = some o ∧ o.cls = .type "list" ∧ o.dict = none ∧ o.data = .seq its n ∧ its.size ≤ sizeLine ∧ Vals xs its.toList
def SqT (K : PySem.W.Frag) (H : Hp) (a : Addr) (xs : List V) : Prop :=
  Rd H a (.tup xs) ∨
    ∃ (o : Obj) (its : Array Value) (n : Nat), K.lookup a = some o ∧ o.cls = .type "tuple" ∧ o.data = .seq its n ∧ its.size ≤ sizeLine ∧ Vals xs its.toList
def absV : Value → Option V
  | .none => some .non
  | .bool b => some (.bl b)
  | .int i _ => some (.int i)
  | .str x _ => some (.str x)
  | .bytes b _ => some (.byt b)
  | .float b _ => some (.flt b)
  | .ref a => some (.ref a)
  | .type n => some (.ty n)
  | _ => none
theorem RelV.abs {x : V} {u : Value} (r : RelV x u) : absV u = some x := by
  cases x with
  | non => cases r; rfl
  | bl _ => cases r; rfl
  | int _ => obtain ⟨t, rfl⟩ := r; rfl
  | str _ => obtain ⟨t, rfl⟩ := r; rfl
  | byt _ => obtain ⟨t, rfl⟩ := r; rfl
  | flt _ => obtain ⟨t, rfl⟩ := r; rfl
  | ref _ => cases r; rfl
  | ty _ => cases r; rfl
theorem RelV.inj {x y : V} {u : Value} (r : RelV x u) (q : RelV y u) : x = y := Option.some.inj (r.abs.symm.trans q.abs)
theorem Vals.inj : ∀ {xs ys : List V} {us : List Value}, Vals xs us → Vals ys us → xs = ys
  | _, _, _, .nil, .nil => rfl
  | _, _, _, .cons r t, .cons r' t' => by rw [r.inj r', Vals.inj t t']
section
variable {X : Cx} {pins : List (Addr × Obj)} {σ : St} {H : Hp} {s : Shared} {a : Addr} {xs ys : List V}
theorem SqL.of {K : PySem.W.Frag} (h : H a = some (.lst xs)) : SqL K H a xs := .inl (.inl h)
theorem SqT.of {K : PySem.W.Frag} (h : H a = some (.tup xs)) : SqT K H a xs := .inl (.inl h)
theorem Inv.list (I : Inv X pins σ H s) (h : SqL X.K H a xs) : ∃ its : List Value, Vals xs its ∧ PlainL s.heap a its.toArray ∧ xs.length ≤ sizeLine := by
  rcases h with h | ⟨o, its, n, hk, hc, hd, hs, hz, r⟩
  · obtain ⟨z, its, n, r, e⟩ := h.ok I.hok
    exact ⟨its, r, ⟨_, n, e, rfl, rfl, rfl⟩, z⟩
  · refine ⟨its.toList, r, ⟨o, n, I.kIn a o hk, hc, hd, by simpa using hs⟩, ?_⟩
    have e := r.length
    simp only [Array.length_toList] at e
    omega
theorem Inv.tuple (I : Inv X pins σ H s) (h : SqT X.K H a xs) : ∃ its : List Value, Vals xs its ∧ IsTup s.heap a its.toArray ∧ xs.length ≤ sizeLine := by
  rcases h with h | ⟨o, its, n, hk, hc, hs, hz, r⟩
  · obtain ⟨z, its, r, p⟩ := h.ok I.hok
    exact ⟨its, r, p, z⟩
  · refine ⟨its.toList, r, ⟨o, I.kIn a o hk, hc, n, by simpa using hs⟩, ?_⟩
    have e := r.length
    simp only [Array.length_toList] at e
    omega
theorem Inv.list_inj (I : Inv X pins σ H s) (h : SqL X.K H a xs) (h' : SqL X.K H a ys) : xs = ys := by
  obtain ⟨its, r, ⟨o, n, e, _, _, d⟩, _⟩ := I.list h
  obtain ⟨its', r', ⟨o', n', e', _, _, d'⟩, _⟩ := I.list h'
  rw [e] at e'; cases e'
  rw [d] at d'
  injection d' with d1 _
  have : its = its' := by simpa using congrArg Array.toList d1
  subst this
  exact r.inj r'
theorem Inv.tuple_inj (I : Inv X pins σ H s) (h : SqT X.K H a xs) (h' : SqT X.K H a ys) : xs = ys := by
  obtain ⟨its, r, ⟨o, e, _, n, d⟩, _⟩ := I.tuple h
  obtain ⟨its', r', ⟨o', e', _, n', d'⟩, _⟩ := I.tuple h'
  rw [e] at e'; cases e'
  rw [d] at d'
  injection d' with d1 _
  have : its = its' := by simpa using congrArg Array.toList d1
  subst this
  exact r.inj r'
end
abbrev Cx.wish (X : Cx) (E : Value → Shared → Prop) : Cx := { X with xe := E }
abbrev Cx.nox (X : Cx) : Cx := X.wish fun _ _ => False
theorem Cx.Ok.wish {X : Cx} (ok : X.Ok) (E : Value → Shared → Prop) : (X.wish E).Ok :=
  ⟨ok.mod, ok.kind, ok.glob, ok.blt, ok.above, ok.inj, ok.has, ok.cab, ok.hd, ok.frames, ok.stk, ok.exf, ok.bs, ok.bsz, ok.noex, ok.exfs, ok.funs, ok.frf⟩
theorem Cx.Ok.unwish {X : Cx} {E : Value → Shared → Prop} (ok : (X.wish E).Ok) : X.Ok :=
  ⟨ok.mod, ok.kind, ok.glob, ok.blt, ok.above, ok.inj, ok.has, ok.cab, ok.hd, ok.frames, ok.stk, ok.exf, ok.bs, ok.bsz, ok.noex, ok.exfs, ok.funs, ok.frf⟩
section
variable {X : Cx} {pins : List (Addr × Obj)} {σ : St} {H : Hp} {s : Shared} {E : Value → Shared → Prop}
theorem Inv.wish (I : Inv X pins σ H s) (E : Value → Shared → Prop) : Inv (X.wish E) pins σ H s := ⟨I.ok.wish E, I.os, I.bare, I.base, I.loc, I.cell, I.free, I.freeC, I.pin, I.hok, I.len⟩
theorem Inv.unwish (I : Inv (X.wish E) pins σ H s) : Inv X pins σ H s := ⟨I.ok.unwish, I.os, I.bare, I.base, I.loc, I.cell, I.free, I.freeC, I.pin, I.hok, I.len⟩
theorem SP.unwish {D : Ends} {f : Flow} {s' : Shared} (h : SP (X.wish E) pins D f s') : SP X pins D f s' := by
  cases f with
  | next => obtain ⟨σ', H', I, q⟩ := h; exact ⟨σ', H', I.unwish, q⟩
  | brk => obtain ⟨σ', H', I, q⟩ := h; exact ⟨σ', H', I.unwish, q⟩
  | cont => obtain ⟨σ', H', I, q⟩ := h; exact ⟨σ', H', I.unwish, q⟩
  | ret u => obtain ⟨v, σ', H', I, r, q⟩ := h; exact ⟨v, σ', H', I.unwish, r, q⟩
theorem PSs.nox {st : List Stmt} {t : TS} (h : PSs X.nox st t) : PSs X st t := fun pins s σ H D I hw =>
  wpAny_mono (h pins s σ H D (I.wish _) hw) (fun _ _ q => q.unwish) fun _ _ z => False.elim z
end
section
variable {X : Cx} {st : Stmt} {rest : List Stmt} {t u : TS} {e : Expr} {te : TE} {pos : Pos}
def tNext : TS := fun D σ H => D.nx σ H
def tSeq (t u : TS) : TS := fun D σ H => t { D with nx := u D } σ H
theorem pss_nil : PSs X [] tNext := fun _ _ σ H _ I h => wpAny_execs_nil ⟨σ, H, I, h⟩
theorem pss_cons (h1 : PS X st t) (h2 : PSs X rest u) : PSs X (st :: rest) (tSeq t u) := by
  intro pins s σ H D I h
  refine wpAny_execs_cons (thn (h1 pins s σ H { D with nx := u D } I h) fun f s1 q => ?_)
  cases f with
  | next =>
    obtain ⟨σ', H', I', q⟩ := q
    exact h2 pins s1 σ' H' D I' q
  | ret v => exact q
  | brk => exact q
  | cont => exact q
theorem pss_one (h1 : PS X st t) : PSs X [st] t := by
  intro pins s σ H D I h
  refine wpAny_execs_cons (thn (h1 pins s σ H D I h) fun f s1 q => ?_)
  cases f with
  | next => exact wpAny_execs_nil q
  | ret v => exact q
  | brk => exact q
  | cont => exact q
theorem Inv.quiet {pins : List (Addr × Obj)} {σ : St} {H : Hp} {s : Shared} (I : Inv X pins σ H s) : interactive X.env = false := by simp [interactive, I.ok.kind]
def tDrop (te : TE) : TS := fun D σ H => te σ H fun _ H1 => D.nx σ H1
theorem ps_expr (he : PE X e te) (hs : swapsWith e none pos.line X.env = pure false := by rfl) : PS X (.Expr e pos) (tDrop te) := by
  intro pins s σ H D I h
  exact wpAny_Expr_any (thn (he pins s σ H _ I h) fun v s1 ⟨x, H1, I1, r1, q1⟩ => ⟨σ, H1, I1, q1⟩) I.quiet hs
def tRet (te : TE) : TS := fun D σ H => te σ H D.rt
theorem ps_ret (he : PE X e te) : PS X (.Return (some e) pos) (tRet te) := by
  intro pins s σ H D I h
  exact wpAny_Return_some (thn (he pins s σ H _ I h) fun v s1 ⟨x, H1, I1, r1, q1⟩ => ⟨x, σ, H1, I1, r1, q1⟩)
def tIfS (c : TT) (t u : TS) : TS := fun D σ H => c σ H fun b H1 => if b = true then t D σ H1 else u D σ H1
theorem ps_if {c : Expr} {a b : List Stmt} {tc : TT} (hc : PT X c tc) (ha : PSs X a t) (hb : PSs X b u) : PS X (.If c a b pos) (tIfS tc t u) := by
  intro pins s σ H D I h
  refine wpAny_If (thn (hc pins s σ H _ I h) fun d s1 ⟨H1, I1, q1⟩ => ?_)
  cases d with
  | true => exact ha pins s1 σ H1 D I1 q1
  | false => exact hb pins s1 σ H1 D I1 q1
def tNever : TS := fun _ _ _ => False
theorem ps_never : PS X st tNever := fun _ _ _ _ _ _ h => h.elim
theorem pss_never {sts : List Stmt} : PSs X sts tNever := fun _ _ _ _ _ _ h => h.elim
end
abbrev TG := V → St → Hp → (St → Hp → Prop) → Prop
def PG (X : Cx) (target : Expr) (t : TG) : Prop :=
  ∀ (pins : List (Addr × Obj)) (s : Shared) (σ : St) (H : Hp) (v : V) (u : Value) (Q : St → Hp → Prop), Inv X pins σ H s → RelV v u → t v σ H Q →
    wpAny (model X.prog X.w) X.A (assign target X.env u) (fun _ s' => ∃ σ' H', Inv X pins σ' H' s' ∧ Q σ' H') X.xe s
abbrev TIp := V → V → Hp → VK → Prop
def PIp (X : Cx) (op : Operator) (t : TIp) : Prop :=
  ∀ (pins : List (Addr × Obj)) (s : Shared) (σ : St) (H : Hp) (x y : V) (v u : Value) (Q : VK), Inv X pins σ H s → RelV x v → RelV y u → t x y H Q →
    wpAny (model X.prog X.w) X.A (inplaceOp op v u) (EP X pins σ Q) X.xe s
section
variable {X : Cx} {pos : Pos}
def gName (i : Nat) : TG := fun v σ H Q => Q (σ.set i (some v)) H
theorem pg_name {i : Nat} {x : Str} (hN : X.N.Nodup) (hi : X.N[i]? = some x) (hx : Loc X.env.scope x) (hf : X.fn x = true ∨ X.env.scope.names.lookup x = some .local := by first | exact .inl rfl | exact .inr rfl | assumption) : PG X (.Name x pos) (gName i) := by
  intro pins s σ H v u Q I r h
  exact wpAny_assign_Name (store_ok I hN hi hx r (fun s' I' => ⟨_, H, I', h⟩) hf)
def tAsg (te : TE) (g : TG) : TS := fun D σ H => te σ H fun x H1 => g x σ H1 D.nx
theorem ps_set {i : Nat} {x : Str} {e : Expr} {te : TE} {pos' : Pos} (hN : X.N.Nodup) (hi : X.N[i]? = some x) (hx : Loc X.env.scope x) (he : PE X e te) (hs : swapsWith e (some (.Name x pos')) pos.line X.env = pure false := by rfl) (hf : X.fn x = true ∨ X.env.scope.names.lookup x = some .local := by first | exact .inl rfl | exact .inr rfl | assumption) :
    PS X (.Assign [.Name x pos'] e pos) (tAsg te (gName i)) := by
  intro pins s σ H D I h
  refine wpAny_Assign_Name (thn (he pins s σ H _ I h) fun v s1 ⟨y, H1, I1, r1, q1⟩ => ?_) hs
  exact store_ok I1 hN hi hx r1 (fun s2 I2 => ⟨_, H1, I2, q1⟩) hf
def tAug (i : Nat) (te : TE) (ti : TIp) : TS := fun D σ H => ∃ x, σ[i]? = some (some x) ∧ te σ H fun y H1 => ti x y H1 fun z H2 => D.nx (σ.set i (some z)) H2
theorem ps_aug {i : Nat} {x : Str} {e : Expr} {te : TE} {op : Operator} {ti : TIp} {pos' : Pos} (hN : X.N.Nodup) (hi : X.N[i]? = some x) (hx : Loc X.env.scope x) (he : PE X e te) (ho : PIp X op ti) (hf : X.fn x = true ∨ X.env.scope.names.lookup x = some .local := by first | exact .inl rfl | exact .inr rfl | assumption) :
    PS X (.AugAssign (.Name x pos') op e pos) (tAug i te ti) := by
  intro pins s σ H D I h
  obtain ⟨v, e1, h⟩ := h
  obtain ⟨m, hn, hl⟩ := I.loc
  have vis : Vis X.env.scope x := by rcases hx with k | k; exact .inl k; exact .inr (.inl k)
  obtain ⟨u, r, l⟩ := hl i x v hi e1 vis
  refine wpAny_AugAssign_Name ?_
  have go : wpAny (model X.prog X.w) X.A (eval e X.env) (fun w s₂ => wpAny (model X.prog X.w) X.A (inplaceOp op u w) (fun r s₃ => wpAny (model X.prog X.w) X.A (storeName X.env x r) (fun _ => SP X pins D .next) X.xe s₃) X.xe s₂) X.xe s := by
    refine thn (he pins s σ H _ I h) fun w s1 ⟨y, H1, I1, r1, q1⟩ => ?_
    refine thn (ho pins s1 σ H1 v y u w _ I1 r r1 q1) fun z s2 ⟨zv, H2, I2, r2, q2⟩ => ?_
    exact store_ok I2 hN hi hx r2 (fun s3 I3 => ⟨_, H2, I3, q2⟩) hf
  rcases l with ⟨hk, hm⟩ | ⟨hk, c, hc, hcell⟩
  · exact wpAny_loadName_local I.ok.kind hk hn hm go
  · rcases hk with hk | hk
    · exact wpAny_loadName_cell I.ok.kind hk hc hcell go
    · rcases hx with k | k
      · have : X.env.scope.names.lookup x = some .free := hk
        rw [k] at this; cases this
      · have : X.env.scope.names.lookup x = some .free := hk
        rw [k] at this; cases this
end
section
variable {X : Cx} {pos : Pos}
def tWhile (c : TT) (tb : TS) : TS := fun D σ H => ∃ W : Nat → St → Hp → Prop, (∃ m, W m σ H) ∧ ∀ m σ H, W m σ H →
  c σ H fun b H1 => if b = true then ∃ N : St → Hp → Prop, (∀ σ' H', N σ' H' → ∃ m', m' < m ∧ W m' σ' H') ∧ tb { D with nx := N, ct := N, bk := D.nx } σ H1 else D.nx σ H1
theorem ps_while {c : Expr} {body : List Stmt} {tc : TT} {tb : TS} (hp : PassesOwn (model X.prog X.w) X.A X.env X.xe) (hc : PT X c tc) (hb : PSs X body tb) : PS X (.While c body [] pos) (tWhile tc tb) := by
  intro pins s σ H D I h
  obtain ⟨W, ⟨m0, w0⟩, turn⟩ := h
  refine wpAny_While (codeAny_whileLoop (fun n s' => ∃ σ' H', Inv X pins σ' H' s' ∧ W n σ' H') ?_ m0 ⟨σ, H, I, w0⟩)
  rintro n s1 ⟨σ1, H1, I1, w1⟩
  refine wpAny_passesOwn hp (thn (hc pins s1 σ1 H1 _ I1 (turn n σ1 H1 w1)) fun b s2 ⟨H2, I2, q2⟩ => ?_)
  cases b with
  | true =>
    obtain ⟨N, hN, q2⟩ := q2
    rw [if_pos rfl]
    refine wpAny_passesOwn hp (thn (hb pins s2 σ1 H2 _ I2 q2) fun f s3 q3 => ?_)
    cases f with
    | next =>
      obtain ⟨σ3, H3, I3, n3⟩ := q3
      obtain ⟨m', hm, w3⟩ := hN σ3 H3 n3
      exact ⟨m', hm, σ3, H3, I3, w3⟩
    | cont =>
      obtain ⟨σ3, H3, I3, n3⟩ := q3
      obtain ⟨m', hm, w3⟩ := hN σ3 H3 n3
      exact ⟨m', hm, σ3, H3, I3, w3⟩
    | brk => exact q3
    | ret v => exact q3
  | false =>
    rw [if_neg Bool.false_ne_true]
    exact wpAny_execs_nil ⟨σ1, H2, I2, q2⟩
end
structure It where
  go : Nat → Hp → Prop
  yld : Nat → Hp → V → Hp → Prop
  stop : Nat → Hp → Prop
def FpOk (X : Cx) (pins : List (Addr × Obj)) (H : Hp) (b : Addr) : Prop :=
  H b = none ∧ b ≠ X.env.locals ∧ b ∉ X.fs ∧ (b ∈ X.ex ∨ X.s₀.heap.objs.size ≤ b) ∧ (∀ x c, X.env.cells.lookup x = some c → c ≠ b) ∧ ∀ p ∈ X.pn ++ pins, p.1 ≠ b
theorem Inv.fpOk {X : Cx} {pins : List (Addr × Obj)} {σ : St} {H H' : Hp} {s : Shared} {b : Addr} (I : Inv X pins σ H s) (hb : s.heap.objs.size ≤ b) (hn : H' b = none) : FpOk X pins H' b := by
  refine ⟨hn, Nat.ne_of_gt (Nat.lt_of_lt_of_le I.lt hb), I.nofs hb, .inr (Nat.le_trans I.sz hb), fun x c e z => ?_, fun p hp z => ?_⟩
  · obtain ⟨v, q⟩ := I.cell x c e
    exact absurd (Nat.lt_of_lt_of_le q.lt (by rw [z]; exact hb)) (Nat.lt_irrefl _)
  · exact absurd (Nat.lt_of_lt_of_le (Heap.lt_size (I.pin p hp).1) (by rw [z]; exact hb)) (Nat.lt_irrefl _)
abbrev Calm (X : Cx) : Prop := X.calm = true
structure Turn (P : Program) (w : World) (K : PySem.W.Frag) (tg : Expr) (J : It) (fp : List Addr) (it : Addr) (tn : Nat → Heap → Prop) (rd : Cx → Prop := Calm) : Prop where
  mem : it ∈ fp
  obj : ∀ i h, tn i h → ∀ b ∈ fp, ∃ o, h.get? b = some o ∧ ∀ v, o.data ≠ .cell v
  keep : ∀ i h h', tn i h → (∀ b ∈ fp, ∀ o, h.get? b = some o → h'.get? b = some o) → tn i h'
  item : ∀ (X : Cx), X.prog = P → X.w = w → X.K = K → rd X → ∀ (i : Nat) (pins : List (Addr × Obj)) (s : Shared) (σ : St) (H : Hp) (E : Value → Shared → Prop), Inv X pins σ H s → (∀ b ∈ fp, FpOk X pins H b) → tn i s.heap → J.go i H →
    wpAny (model P w) X.A (pyNext (.ref it)) (fun r s1 => ∃ u, r = some u ∧
      wpAny (model P w) X.A (letOwnedTupleGo tg (.ref it) u) (fun _ s2 => ∃ x H', Inv X pins σ H' s2 ∧ RelV x u ∧ J.yld i H x H' ∧ tn (i + 1) s2.heap ∧ ∀ b ∈ fp, H' b = none) E s1) E s
  done : ∀ (X : Cx), X.prog = P → X.w = w → X.K = K → rd X → ∀ (i : Nat) (pins : List (Addr × Obj)) (s : Shared) (σ : St) (H : Hp) (E : Value → Shared → Prop), Inv X pins σ H s → (∀ b ∈ fp, FpOk X pins H b) → tn i s.heap → J.stop i H →
    wpAny (model P w) X.A (pyNext (.ref it)) (fun r s1 => r = none ∧ Inv X pins σ H s1) E s
  self : ∀ (A : Around) (i : Nat) (s : Shared) (Q : Value → Shared → Prop) (E : Value → Shared → Prop), tn i s.heap → Q (.ref it) s → wpAny (model P w) A (pyIter (.ref it)) Q E s
abbrev TI := St → Hp → (It → Hp → Prop) → Prop
def PIEr (rd : Cx → Prop) (X : Cx) (pins : List (Addr × Obj)) (σ : St) (tg : Expr) (R : It → Hp → Prop) (itv : Value) (s2 : Shared) : Prop :=
  ∃ (it : Addr) (fp : List Addr) (tn : Nat → Heap → Prop) (J : It) (H' : Hp), itv = .ref it ∧ Inv X pins σ H' s2 ∧ Turn X.prog X.w X.K tg J fp it tn rd ∧ tn 0 s2.heap ∧ (∀ b ∈ fp, FpOk X pins H' b) ∧ R J H'
abbrev PIE := PIEr Calm
def PIr (rd : Cx → Prop) (X : Cx) (tg iter : Expr) (wi : TI) : Prop :=
  ∀ (pins : List (Addr × Obj)) (s : Shared) (σ : St) (H : Hp) (R : It → Hp → Prop), Inv X pins σ H s → wi σ H R →
    wpAny (model X.prog X.w) X.A (eval iter X.env) (fun v s1 => wpAny (model X.prog X.w) X.A (pyIter v) (PIEr rd X pins σ tg R) X.xe s1) X.xe s
abbrev PI := PIr Calm
theorem go_of {M : Model} {A : Around} {E : Value → Shared → Prop} {s : Shared} {tg : Expr} {it : Addr} {u : Value} {o : Obj} {n : String} {vs : Array Value} {Q : Unit → Shared → Prop} (ho : s.heap.get? it = some o) (hc : o.cls = .type n) (hd : o.data = .fields vs)
    (hn : ["enumerate", "zip", "dict_itemiterator", "dict_reverseitemiterator", "odict_iterator", "itertools.zip_longest", "itertools.pairwise"].contains n = false) (hQ : Q () s) : wpAny M A (letOwnedTupleGo tg (.ref it) u) Q E s := by
  unfold letOwnedTupleGo
  cases tg <;> first
    | exact wpAny_pure hQ
    | (cases u <;> first
        | exact wpAny_pure hQ
        | (refine wpAny_bind (wpAny_load ho ?_)
           rw [hc, hd]
           show wpAny M A (if (["enumerate", "zip", "dict_itemiterator", "dict_reverseitemiterator", "odict_iterator", "itertools.zip_longest", "itertools.pairwise"].contains n && vs[0]? == some (rawInt _)) = true then _ else _) Q E s
           rw [if_neg (by intro h; rw [hn, Bool.false_and] at h; cases h)]
           exact wpAny_pure hQ))
def Itl (K : PySem.W.Frag) (a : Addr) : It :=
  ⟨fun i H => ∃ xs x, SqL K H a xs ∧ xs[i]? = some x, fun i H x H' => H' = H ∧ ∀ xs, SqL K H a xs → xs[i]? = some x, fun i H => ∃ xs, SqL K H a xs ∧ xs.length ≤ i⟩
def Itt (K : PySem.W.Frag) (a : Addr) : It :=
  ⟨fun i H => ∃ xs x, SqT K H a xs ∧ xs[i]? = some x, fun i H x H' => H' = H ∧ ∀ xs, SqT K H a xs → xs[i]? = some x, fun i H => ∃ xs, SqT K H a xs ∧ xs.length ≤ i⟩
def Itr (lo : Int) (n : Nat) : It := ⟨fun i _ => i < n, fun i H x H' => H' = H ∧ x = .int (lo + i), fun i _ => n ≤ i⟩
theorem turn_list {P : Program} {w : World} {K : PySem.W.Frag} {tg : Expr} (a it : Addr) : Turn P w K tg (Itl K a) [it] it (fun i h => h.IsListIter it a i) where
  mem := by simp
  obj := fun i h st b hb => by
    have e : b = it := by simpa using hb
    subst e
    obtain ⟨o, e, c, d⟩ := st
    exact ⟨o, e, fun v z => by rw [d] at z; cases z⟩
  keep := fun i h h' st k => st.at fun o e => k it (by simp) o e
  item := by
    intro X hP hw hK hc i pins s σ H E I hf st hg
    subst hP hw hK
    obtain ⟨xs, x, hq, hx⟩ := hg
    obtain ⟨its, rv, p, hz⟩ := I.list hq
    obtain ⟨u, hu, ru⟩ := rv.get hx
    obtain ⟨f0, f1, f2, f3, f4, f5⟩ := hf it (by simp)
    refine wpAny_pyNext_list_item st p.isList (x := u) (by simpa using hu) fun h' st' sb => ?_
    have I1 : Inv X pins σ H { s with heap := h' } := I.turned (t' := s.toks) (fun b o hb e => (sb.2 b hb).trans e) f0 f1 f3 f4 f5
    obtain ⟨o, e, c, d⟩ := id st'
    exact ⟨u, rfl, go_of (s := { s with heap := h' }) e c d (by decide) ⟨x, H, I1, ru, ⟨rfl, fun ys hy => by rw [I.list_inj hy hq]; exact hx⟩, st', fun b hb => (hf b hb).1⟩⟩
  done := by
    intro X hP hw hK hc i pins s σ H E I hf st hg
    subst hP hw hK
    obtain ⟨xs, hq, hx⟩ := hg
    obtain ⟨its, rv, p, hz⟩ := I.list hq
    obtain ⟨f0, f1, f2, f3, f4, f5⟩ := hf it (by simp)
    have hl := rv.length
    exact wpAny_pyNext_list_end (I.ok.hd hc) st p.isList (by simp; omega) fun h' eb => ⟨rfl, I.turned (t' := s.toks) (fun b o hb e => eb b o hb e) f0 f1 f3 f4 f5⟩
  self := fun _ _ _ _ _ st h => wpAny_pyIter_listiter st h
theorem turn_tuple {P : Program} {w : World} {K : PySem.W.Frag} {tg : Expr} (a it : Addr) : Turn P w K tg (Itt K a) [it] it (fun i h => h.IsTupleIter it a i) where
  mem := by simp
  obj := fun i h st b hb => by
    have e : b = it := by simpa using hb
    subst e
    obtain ⟨o, e, c, d⟩ := st
    exact ⟨o, e, fun v z => by rw [d] at z; cases z⟩
  keep := fun i h h' st k => st.at fun o e => k it (by simp) o e
  item := by
    intro X hP hw hK hc i pins s σ H E I hf st hg
    subst hP hw hK
    obtain ⟨xs, x, hq, hx⟩ := hg
    obtain ⟨its, rv, p, hz⟩ := I.tuple hq
    obtain ⟨u, hu, ru⟩ := rv.get hx
    obtain ⟨f0, f1, f2, f3, f4, f5⟩ := hf it (by simp)
    refine wpAny_pyNext_tuple_item st (show s.heap.IsTuple a its.toArray from p) (x := u) (by simpa using hu) fun h' st' sb => ?_
    have I1 : Inv X pins σ H { s with heap := h' } := I.turned (t' := s.toks) (fun b o hb e => (sb.2 b hb).trans e) f0 f1 f3 f4 f5
    obtain ⟨o, e, c, d⟩ := id st'
    exact ⟨u, rfl, go_of (s := { s with heap := h' }) e c d (by decide) ⟨x, H, I1, ru, ⟨rfl, fun ys hy => by rw [I.tuple_inj hy hq]; exact hx⟩, st', fun b hb => (hf b hb).1⟩⟩
  done := by
    intro X hP hw hK hc i pins s σ H E I hf st hg
    subst hP hw hK
    obtain ⟨xs, hq, hx⟩ := hg
    obtain ⟨its, rv, p, hz⟩ := I.tuple hq
    obtain ⟨f0, f1, f2, f3, f4, f5⟩ := hf it (by simp)
    have hl := rv.length
    exact wpAny_pyNext_tuple_end (I.ok.hd hc) st (show s.heap.IsTuple a its.toArray from p) (by simp; omega) fun h' eb => ⟨rfl, I.turned (t' := s.toks) (fun b o hb e => eb b o hb e) f0 f1 f3 f4 f5⟩
  self := fun _ _ _ _ _ st h => wpAny_pyIter_tupleiter st h
theorem turn_range {P : Program} {w : World} {K : PySem.W.Frag} {tg : Expr} (it : Addr) (lo : Int) (n : Nat) : Turn P w K tg (Itr lo n) [it] it (fun i h => IsRangeIter h it (lo + (i : Nat) * 1) ((n : Int) - (i : Nat)) 1) where
  mem := by simp
  obj := fun i h st b hb => by
    have e : b = it := by simpa using hb
    subst e
    exact ⟨_, st, fun v z => by
      have z' : Data.fields _ = Data.cell v := z
      cases z'⟩
  keep := fun i h h' st k => k it (by simp) _ st
  item := by
    intro X hP hw hK hc i pins s σ H E I hf st hg
    subst hP hw hK
    obtain ⟨f0, f1, f2, f3, f4, f5⟩ := hf it (by simp)
    have W := Walks.range (prog := X.prog) (w := X.w) (I.ok.hd hc) it lo 1 n
    refine W.item i s _ _ hg st fun v h' tk hv st' kk => ?_
    obtain ⟨t, rfl⟩ := hv
    have I1 : Inv X pins σ H { s with heap := h', toks := tk } := I.turned (fun b o hb e => kk b o (by simpa using hb) e) f0 f1 f3 f4 f5
    refine ⟨_, rfl, go_of (s := { s with heap := h', toks := tk }) (n := "range_iterator") st' rfl rfl (by decide) ⟨.int (lo + i), H, I1, ⟨t, ?_⟩, ⟨rfl, rfl⟩, st', fun b hb => (hf b hb).1⟩⟩
    rw [Int.mul_one]
  done := by
    intro X hP hw hK hc i pins s σ H E I hf st hg
    subst hP hw hK
    obtain ⟨f0, f1, f2, f3, f4, f5⟩ := hf it (by simp)
    exact wpAny_pyNext_range_end (I.ok.hd hc) st (by have : n ≤ i := hg; omega) fun h' eb => ⟨rfl, I.turned (t' := s.toks) (fun b o hb e => eb b o hb e) f0 f1 f3 f4 f5⟩
  self := fun _ _ _ _ _ st h => wpAny_pyIter_rangeiter st h
end L2
namespace L2
open PySem PySem.Spec PyProof.Rows
section
variable {X : Cx} {tg : Expr}
def iList (K : PySem.W.Frag) (tl : TE) : TI := fun σ H R => tl σ H fun x H1 => ∃ a, x = .ref a ∧ (∃ xs, SqL K H1 a xs) ∧ R (Itl K a) H1
def iTup (K : PySem.W.Frag) (tl : TE) : TI := fun σ H R => tl σ H fun x H1 => ∃ a, x = .ref a ∧ (∃ xs, SqT K H1 a xs) ∧ R (Itt K a) H1
theorem pi_list {l : Expr} {tl : TE} (hl : PE X l tl) : PI X tg l (iList X.K tl) := by
  intro pins s σ H R I h
  refine thn (hl pins s σ H _ I h) fun v s1 ⟨x, H1, I1, r1, q1⟩ => ?_
  obtain ⟨a, e, ⟨xs, hq⟩, q⟩ := q1
  subst e
  cases r1
  obtain ⟨its, rv, p, hz⟩ := I1.list hq
  refine wpAny_pyIter_list p.isList ?_
  refine ⟨s1.heap.objs.size, [s1.heap.objs.size], _, _, H1, rfl, I1.kept (t' := s1.toks) fun b o e => Heap.get?_push_of_some _ e, turn_list a _, ⟨_, Heap.get?_push_size _ rfl, rfl, rfl⟩, fun b hb => ?_, q⟩
  have e : b = s1.heap.objs.size := by simpa using hb
  subst e
  exact I1.fpOk (Nat.le_refl _) (I1.hok.fresh (Nat.le_refl _))
theorem pi_tup {l : Expr} {tl : TE} (hl : PE X l tl) : PI X tg l (iTup X.K tl) := by
  intro pins s σ H R I h
  refine thn (hl pins s σ H _ I h) fun v s1 ⟨x, H1, I1, r1, q1⟩ => ?_
  obtain ⟨a, e, ⟨xs, hq⟩, q⟩ := q1
  subst e
  cases r1
  obtain ⟨its, rv, p, hz⟩ := I1.tuple hq
  refine wpAny_pyIter_tuple (show s1.heap.IsTuple a its.toArray from p) ?_
  refine ⟨s1.heap.objs.size, [s1.heap.objs.size], _, _, H1, rfl, I1.kept (t' := s1.toks) fun b o e => Heap.get?_push_of_some _ e, turn_tuple a _, ⟨_, Heap.get?_push_size _ rfl, rfl, rfl⟩, fun b hb => ?_, q⟩
  have e : b = s1.heap.objs.size := by simpa using hb
  subst e
  exact I1.fpOk (Nat.le_refl _) (I1.hok.fresh (Nat.le_refl _))
theorem range_it {pins : List (Addr × Obj)} {σ : St} {H : Hp} {s : Shared} {R : It → Hp → Prop} {E : Value → Shared → Prop} {lo hi : Int} {t u v : Tok} {tk : Nat} (I : Inv X pins σ H s) (h1 : -(2 ^ 62) ≤ lo) (h2 : lo < 2 ^ 62) (h3 : -(2 ^ 62) ≤ hi) (h4 : hi < 2 ^ 62)
    (q : R (Itr lo (hi - lo).toNat) H) : wpAny (model X.prog X.w) X.A (pyIter (.ref s.heap.objs.size)) (PIE X pins σ tg R) E { s with heap := s.heap.push { cls := .type "range", data := .fields #[.int lo t, .int hi u, .int 1 v] }, toks := tk } := by
  refine wpAny_pyIter_range (IsRange.new ..) (small_one h1 h2 h3 h4) ?_
  have I1 : Inv X pins σ H { s with heap := s.heap.push { cls := .type "range", data := .fields #[.int lo t, .int hi u, .int 1 v] }, toks := tk } := I.kept fun b o e => Heap.get?_push_of_some _ e
  refine ⟨(s.heap.push { cls := .type "range", data := .fields #[.int lo t, .int hi u, .int 1 v] }).objs.size, [(s.heap.push { cls := .type "range", data := .fields #[.int lo t, .int hi u, .int 1 v] }).objs.size], _, _, H, rfl,
    I1.kept (t' := tk) fun b o e => Heap.get?_push_of_some _ e, turn_range _ lo (hi - lo).toNat, ?_, fun b hb => ?_, q⟩
  · have e1 : lo + ((0 : Nat) : Int) * 1 = lo := by simp
    have e2 : (((hi - lo).toNat : Nat) : Int) - ((0 : Nat) : Int) = Builtin.Range.rangeSize lo hi 1 := by rw [rangeSize_one]; split <;> omega
    show IsRangeIter _ _ (lo + ((0 : Nat) : Int) * 1) ((((hi - lo).toNat : Nat) : Int) - ((0 : Nat) : Int)) 1
    rw [e1, e2]
    exact Heap.get?_push_size _ rfl
  · have e : b = (s.heap.push { cls := .type "range", data := .fields #[.int lo t, .int hi u, .int 1 v] }).objs.size := by simpa using hb
    subst e
    exact I1.fpOk (Nat.le_refl _) (I1.hok.fresh (Nat.le_refl _))
def iRng1 (ta : TA) : TI := fun σ H R => ta σ H fun vs H1 => ∃ j : Int, vs = [.int j] ∧ -(2 ^ 62) ≤ j ∧ j < 2 ^ 62 ∧ R (Itr 0 j.toNat) H1
def iRng2 (ta : TA) : TI := fun σ H R => ta σ H fun vs H1 => ∃ i j : Int, vs = [.int i, .int j] ∧ (-(2 ^ 62) ≤ i ∧ i < 2 ^ 62 ∧ -(2 ^ 62) ≤ j ∧ j < 2 ^ 62) ∧ R (Itr i (j - i).toNat) H1
theorem pi_range1 {a : Expr} {ta : TA} {p pos : Pos} (hg : Gl X "range") (hm : X.mg "range" = none) (ha : PA X [a] ta) (hs : starEach [a] X.env = [(false, eval a X.env)] := by rfl) : PI X tg (.Call (.Name "range" p) [a] [] pos) (iRng1 ta) := by
  intro pins s σ H R I h
  refine Call_ (ld_blt I hg hm boot_range (PyProof.Rows.callWith_type1 (thn (ha pos pins s σ H _ I h) fun us s1 ⟨vs, H1, I1, r1, q1⟩ => ?_) hs rfl))
  obtain ⟨j, e, q1, q2, q⟩ := q1
  subst e
  cases r1 with
  | cons r rr =>
    cases rr
    obtain ⟨t, rfl⟩ := r
    exact call_range_1 (range_it I1 (by omega) (by omega) q1 q2 (by simpa using q))
theorem pi_range2 {a b : Expr} {ta : TA} {p pos : Pos} (hg : Gl X "range") (hm : X.mg "range" = none) (ha : PA X [a, b] ta) (hs : starEach [a, b] X.env = [(false, eval a X.env), (false, eval b X.env)] := by rfl) (hs2 : starEach [b] X.env = [(false, eval b X.env)] := by rfl) :
    PI X tg (.Call (.Name "range" p) [a, b] [] pos) (iRng2 ta) := by
  intro pins s σ H R I h
  refine Call_ (ld_blt I hg hm boot_range (PyProof.Rows.callWith_type1 (thn (ha pos pins s σ H _ I h) fun us s1 ⟨vs, H1, I1, r1, q1⟩ => ?_) (by rw [hs, hs2]) (by rw [hs2]; rfl)))
  obtain ⟨i, j, e, ⟨q1, q2, q3, q4⟩, q⟩ := q1
  subst e
  cases r1 with
  | cons r rr =>
    cases rr with
    | cons r' rr =>
      cases rr
      obtain ⟨t, rfl⟩ := r
      obtain ⟨t', rfl⟩ := r'
      exact call_range_2 (range_it I1 q1 q2 q3 q4 q)
def tFor (wi : TI) (g : TG) (tb : TS) : TS := fun D σ H => wi σ H fun J H1 => ∃ W : Nat → Nat → St → Hp → Prop, (∃ m, W 0 m σ H1) ∧ ∀ i m σ H, W i m σ H →
  (J.stop i H ∧ D.nx σ H) ∨ (J.go i H ∧ ∃ N : St → Hp → Prop, (∀ σ' H', N σ' H' → ∃ m', m' < m ∧ W (i + 1) m' σ' H') ∧ ∀ x H', J.yld i H x H' → g x σ H' fun σ2 H2 => tb { D with nx := N, ct := N, bk := D.nx } σ2 H2)
def pinsAt (fp : List Addr) (h : Heap) : List (Addr × Obj) := fp.filterMap fun b => (h.get? b).map fun o => (b, o)
theorem mem_pinsAt {fp : List Addr} {h : Heap} {b : Addr} {o : Obj} (hb : b ∈ fp) (e : h.get? b = some o) : (b, o) ∈ pinsAt fp h := List.mem_filterMap.mpr ⟨b, hb, by rw [e]; rfl⟩
theorem of_pinsAt {fp : List Addr} {h : Heap} {p : Addr × Obj} (hp : p ∈ pinsAt fp h) : p.1 ∈ fp ∧ h.get? p.1 = some p.2 := by
  obtain ⟨b, hb, e⟩ := List.mem_filterMap.mp hp
  cases q : h.get? b with
  | none => rw [q] at e; cases e
  | some o =>
    rw [q] at e
    have e' : (b, o) = p := Option.some.inj e
    subst e'
    exact ⟨hb, q⟩
theorem Inv.pinned {pins : List (Addr × Obj)} {σ : St} {H : Hp} {s : Shared} {fp : List Addr} (I : Inv X pins σ H s) (hf : ∀ b ∈ fp, FpOk X pins H b) (ho : ∀ b ∈ fp, ∃ o, s.heap.get? b = some o ∧ ∀ v, o.data ≠ .cell v) : Inv X (pins ++ pinsAt fp s.heap) σ H s :=
  I.pins_of fun p hp => (List.mem_append.mp hp).elim (fun z => I.pin p (List.mem_append_right _ z)) fun z => by
    obtain ⟨hb, e⟩ := of_pinsAt z
    obtain ⟨f0, f1, f2, _⟩ := hf p.1 hb
    obtain ⟨o, e', d⟩ := ho p.1 hb
    rw [e] at e'; cases e'
    exact ⟨e, f0, f1, f2, d⟩
theorem Inv.unpinned {pins pl : List (Addr × Obj)} {σ : St} {H : Hp} {s : Shared} (I : Inv X (pins ++ pl) σ H s) : Inv X pins σ H s := I.pins_of fun p hp => I.pin p (List.mem_append_right _ (List.mem_append_left _ hp))
theorem ps_for {iter : Expr} {body : List Stmt} {wi : TI} {g : TG} {tb : TS} {pos : Pos} (hp : PassesOwn (model X.prog X.w) X.A X.env X.xe) (hc : X.calm = true) (hi : PI X tg iter wi) (hg : PG X tg g) (hb : PSs X body tb)
    (hs : ∀ x, foldedSetIterable iter X.env x = pure x := by intro _; rfl) : PS X (.For tg iter body [] pos) (tFor wi g tb) := by
  intro pins s σ H D I h
  refine wpAny_For (thn (hi pins s σ H _ I h) fun v s1 h1 => thn h1 fun itv s2 h2 => ?_) hs
  obtain ⟨it, fp, tn, J, H2, e, I2, T, st2, f2, W, ⟨m0, w0⟩, turn⟩ := h2
  subst e
  have stat : ∀ {H' : Hp}, (∀ b ∈ fp, H' b = none) → ∀ b ∈ fp, FpOk X pins H' b := fun hn b hb => ⟨hn b hb, (f2 b hb).2⟩
  refine codeAny_forLoop_any (fun n s' => ∃ i σ' H', Inv X pins σ' H' s' ∧ tn i s'.heap ∧ (∀ b ∈ fp, H' b = none) ∧ W i n σ' H') ?_ m0 ⟨0, σ, H2, I2, st2, fun b hb => (f2 b hb).1, w0⟩
  rintro n s3 ⟨i, σ3, H3, I3, st3, fr3, w3⟩
  rcases turn i n σ3 H3 w3 with ⟨stop, qn⟩ | ⟨go, N, hN, step⟩
  · refine wpAny_passesOwn hp (thn (T.done X rfl rfl rfl hc i pins s3 σ3 H3 X.xe I3 (stat fr3) st3 stop) fun r s4 ⟨hr, I4⟩ => ?_)
    subst hr
    exact wpAny_execs_nil ⟨σ3, H3, I4, qn⟩
  · refine wpAny_passesOwn hp (thn (T.item X rfl rfl rfl hc i pins s3 σ3 H3 X.xe I3 (stat fr3) st3 go) fun r s4 ⟨u, hr, h4⟩ => ?_)
    subst hr
    refine wpAny_passesOwn hp (thn h4 fun _ s5 ⟨x, H5, I5, r5, y5, st5, fr5⟩ => ?_)
    have I5' := I5.pinned (stat fr5) (T.obj _ _ st5)
    refine wpAny_passesOwn hp (thn (hg _ s5 σ3 H5 x u _ I5' r5 (step x H5 y5)) fun _ s6 ⟨σ6, H6, I6, q6⟩ => ?_)
    refine wpAny_passesOwn hp (thn (hb _ s6 σ6 H6 _ I6 q6) fun f s7 q7 => ?_)
    have again : ∀ {σ7 : St} {H7 : Hp}, Inv X (pins ++ pinsAt fp s5.heap) σ7 H7 s7 → N σ7 H7 → ∃ m, m < n ∧ ∃ i σ' H', Inv X pins σ' H' s7 ∧ tn i s7.heap ∧ (∀ b ∈ fp, H' b = none) ∧ W i m σ' H' := fun {σ7 H7} I7 n7 => by
      obtain ⟨m', hm, w7⟩ := hN σ7 H7 n7
      refine ⟨m', hm, i + 1, σ7, H7, I7.unpinned, T.keep _ _ _ st5 fun b hb o e => (I7.pin (b, o) (List.mem_append_right _ (List.mem_append_right _ (mem_pinsAt hb e)))).1, fun b hb => ?_, w7⟩
      obtain ⟨o, e, d⟩ := T.obj _ _ st5 b hb
      exact (I7.pin (b, o) (List.mem_append_right _ (List.mem_append_right _ (mem_pinsAt hb e)))).2.1
    cases f with
    | next => obtain ⟨σ7, H7, I7, n7⟩ := q7; exact again I7 n7
    | cont => obtain ⟨σ7, H7, I7, n7⟩ := q7; exact again I7 n7
    | brk => obtain ⟨σ7, H7, I7, q7⟩ := q7; exact ⟨σ7, H7, I7.unpinned, q7⟩
    | ret v => obtain ⟨x7, σ7, H7, I7, r7, q7⟩ := q7; exact ⟨x7, σ7, H7, I7.unpinned, r7, q7⟩
end
theorem for_list {K : PySem.W.Frag} {a : Addr} {xs : List V} {g : TG} {tb : TS} {D : Ends} {σ : St} {H : Hp} (Pv : Nat → St → Hp → Prop) (h0 : Pv 0 σ H) (hl : ∀ i σ H, i ≤ xs.length → Pv i σ H → SqL K H a xs)
    (hs : ∀ i x σ H, xs[i]? = some x → Pv i σ H → g x σ H fun σ2 H2 => tb { D with nx := Pv (i + 1), ct := Pv (i + 1), bk := D.nx } σ2 H2) (hd : ∀ σ H, Pv xs.length σ H → D.nx σ H) :
    ∃ W : Nat → Nat → St → Hp → Prop, (∃ m, W 0 m σ H) ∧ ∀ i m σ H, W i m σ H →
      ((Itl K a).stop i H ∧ D.nx σ H) ∨ ((Itl K a).go i H ∧ ∃ N : St → Hp → Prop, (∀ σ' H', N σ' H' → ∃ m', m' < m ∧ W (i + 1) m' σ' H') ∧ ∀ x H', (Itl K a).yld i H x H' → g x σ H' fun σ2 H2 => tb { D with nx := N, ct := N, bk := D.nx } σ2 H2) := by
  refine ⟨fun i m σ H => m = xs.length - i ∧ i ≤ xs.length ∧ Pv i σ H, ⟨xs.length, by simp, Nat.zero_le _, h0⟩, ?_⟩
  rintro i m σ H ⟨rfl, hi, p⟩
  have q := hl i σ H hi p
  by_cases hlt : i < xs.length
  · refine .inr ⟨⟨xs, xs[i], q, by simp [hlt]⟩, Pv (i + 1), fun σ' H' p' => ⟨xs.length - (i + 1), by omega, rfl, hlt, p'⟩, fun x H' y => ?_⟩
    obtain ⟨e, y⟩ := y
    subst e
    exact hs i x σ _ (y xs q) p
  · have e : i = xs.length := by omega
    subst e
    exact .inl ⟨⟨xs, q, Nat.le_refl _⟩, hd σ H p⟩
theorem for_range {lo : Int} {n : Nat} {g : TG} {tb : TS} {D : Ends} {σ : St} {H : Hp} (Pv : Nat → St → Hp → Prop) (h0 : Pv 0 σ H)
    (hs : ∀ i σ H, i < n → Pv i σ H → g (.int (lo + i)) σ H fun σ2 H2 => tb { D with nx := Pv (i + 1), ct := Pv (i + 1), bk := D.nx } σ2 H2) (hd : ∀ σ H, Pv n σ H → D.nx σ H) :
    ∃ W : Nat → Nat → St → Hp → Prop, (∃ m, W 0 m σ H) ∧ ∀ i m σ H, W i m σ H →
      ((Itr lo n).stop i H ∧ D.nx σ H) ∨ ((Itr lo n).go i H ∧ ∃ N : St → Hp → Prop, (∀ σ' H', N σ' H' → ∃ m', m' < m ∧ W (i + 1) m' σ' H') ∧ ∀ x H', (Itr lo n).yld i H x H' → g x σ H' fun σ2 H2 => tb { D with nx := N, ct := N, bk := D.nx } σ2 H2) := by
  refine ⟨fun i m σ H => m = n - i ∧ i ≤ n ∧ Pv i σ H, ⟨n, by simp, Nat.zero_le _, h0⟩, ?_⟩
  rintro i m σ H ⟨rfl, hi, p⟩
  by_cases hlt : i < n
  · refine .inr ⟨hlt, Pv (i + 1), fun σ' H' p' => ⟨n - (i + 1), by omega, rfl, hlt, p'⟩, fun x H' y => ?_⟩
    obtain ⟨e, y⟩ := y
    subst e y
    exact hs i σ _ hlt p
  · have e : i = n := by omega
    subst e
    exact .inl ⟨Nat.le_refl _, hd σ H p⟩
end L2
namespace L2
open PySem PySem.Spec PyProof.Rows
abbrev R2 := V → V → Hp → VK → Prop
def OpR (X : Cx) (f : Value → Value → Sem Value) (r : R2) : Prop :=
  ∀ (pins : List (Addr × Obj)) (s : Shared) (σ : St) (H : Hp) (x y : V) (v u : Value) (Q : VK), Inv X pins σ H s → RelV x v → RelV y u → r x y H Q →
    wpAny (model X.prog X.w) X.A (f v u) (EP X pins σ Q) X.xe s
def UnR (X : Cx) (f : Value → Sem Value) (r : V → Hp → VK → Prop) : Prop :=
  ∀ (pins : List (Addr × Obj)) (s : Shared) (σ : St) (H : Hp) (x : V) (v : Value) (Q : VK), Inv X pins σ H s → RelV x v → r x H Q →
    wpAny (model X.prog X.w) X.A (f v) (EP X pins σ Q) X.xe s
def CallR (X : Cx) (f : Value) (r : List V → Hp → VK → Prop) : Prop :=
  ∀ (pins : List (Addr × Obj)) (s : Shared) (σ : St) (H : Hp) (xs : List V) (us : List Value) (Q : VK), Inv X pins σ H s → Vals xs us → r xs H Q →
    wpAny (model X.prog X.w) X.A (call f us) (EP X pins σ Q) X.xe s
def TruR (X : Cx) (r : V → Hp → (Bool → Hp → Prop) → Prop) : Prop :=
  ∀ (pins : List (Addr × Obj)) (s : Shared) (σ : St) (H : Hp) (x : V) (v : Value) (Q : Bool → Hp → Prop), Inv X pins σ H s → RelV x v → r x H Q →
    wpAny (model X.prog X.w) X.A (truthy v) (TP X pins σ Q) X.xe s
def tOp (r : R2) (ta tb : TE) : TE := fun σ H Q => ta σ H fun x H1 => tb σ H1 fun y H2 => r x y H2 Q
def tUn (r : V → Hp → VK → Prop) (ta : TE) : TE := fun σ H Q => ta σ H fun x H1 => r x H1 Q
def rI (C : Int → Int → Prop) (g : Int → Int → V) : R2 := fun x y H Q => ∃ i j, x = .int i ∧ y = .int j ∧ C i j ∧ Q (g i j) H
def rI0 (g : Int → Int → V) : R2 := fun x y H Q => ∃ i j, x = .int i ∧ y = .int j ∧ Q (g i j) H
def rU (g : Int → V) : V → Hp → VK → Prop := fun x H Q => ∃ i, x = .int i ∧ Q (g i) H
section
variable {X : Cx} {a b c : Expr} {ta tb tc : TE} {pos : Pos}
theorem binT (ha : PE X a ta) (hb : PE X b tb) {pins : List (Addr × Obj)} {s : Shared} {σ : St} {H : Hp} {R : V → V → Hp → Prop} (I : Inv X pins σ H s)
    (h : ta σ H fun x H1 => tb σ H1 fun y H2 => R x y H2) {Q : Value → Shared → Prop} {f : Value → Value → Sem Value}
    (hf : ∀ v u s2 x y H2, Inv X pins σ H2 s2 → RelV x v → RelV y u → R x y H2 → wpAny (model X.prog X.w) X.A (f v u) Q X.xe s2) :
    wpAny (model X.prog X.w) X.A (eval a X.env) (fun v s₁ => wpAny (model X.prog X.w) X.A (eval b X.env) (fun u s₂ => wpAny (model X.prog X.w) X.A (f v u) Q X.xe s₂) X.xe s₁) X.xe s := by
  refine thn (ha pins s σ H _ I h) fun v s1 ⟨x, H1, I1, r1, q1⟩ => ?_
  refine thn (hb pins s1 σ H1 _ I1 q1) fun u s2 ⟨y, H2, I2, r2, q2⟩ => ?_
  exact hf v u s2 x y H2 I2 r1 r2 q2
theorem pe_op {op : Operator} {r : R2} (ho : OpR X (binaryOp op) r) (ha : PE X a ta) (hb : PE X b tb) : PE X (.BinOp a op b pos) (tOp r ta tb) := by
  intro pins s σ H Q I h
  exact wpAny_BinOp (binT ha hb I h fun v u s2 x y H2 I2 rx ry q => ho pins s2 σ H2 x y v u Q I2 rx ry q)
theorem pe_un {op : UnaryOp} {r : V → Hp → VK → Prop} (ho : UnR X (unaryOp op) r) (ha : PE X a ta) : PE X (.UnaryOp op a pos) (tUn r ta) := by
  intro pins s σ H Q I h
  exact UnaryOp_ (thn (ha pins s σ H _ I h) fun v s1 ⟨x, H1, I1, r1, q1⟩ => ho pins s1 σ H1 x v Q I1 r1 q1)
theorem opI {f : Value → Value → Sem Value} {C : Int → Int → Prop} {g : Int → Int → Int}
    (rule : ∀ (i j : Int) (t u : Tok) (s : Shared) (Q : Value → Shared → Prop) (E : Value → Shared → Prop), C i j → Q (.int (g i j) s.toks) { s with toks := s.toks + 1 } → wpAny (model X.prog X.w) X.A (f (.int i t) (.int j u)) Q E s) :
    OpR X f (rI C fun i j => .int (g i j)) := by
  intro pins s σ H x y v u Q I rx ry h
  obtain ⟨i, j, rfl, rfl, hc, q⟩ := h
  obtain ⟨t, rfl⟩ := rx
  obtain ⟨t', rfl⟩ := ry
  exact rule i j t t' s _ _ hc ⟨.int (g i j), H, I.tok _, ⟨_, rfl⟩, q⟩
theorem opI0 {f : Value → Value → Sem Value} {g : Int → Int → Int}
    (rule : ∀ (i j : Int) (t u : Tok) (s : Shared) (Q : Value → Shared → Prop) (E : Value → Shared → Prop), Q (.int (g i j) s.toks) { s with toks := s.toks + 1 } → wpAny (model X.prog X.w) X.A (f (.int i t) (.int j u)) Q E s) :
    OpR X f (rI0 fun i j => .int (g i j)) := by
  intro pins s σ H x y v u Q I rx ry h
  obtain ⟨i, j, rfl, rfl, q⟩ := h
  obtain ⟨t, rfl⟩ := rx
  obtain ⟨t', rfl⟩ := ry
  exact rule i j t t' s _ _ ⟨.int (g i j), H, I.tok _, ⟨_, rfl⟩, q⟩
theorem opB0 {f : Value → Value → Sem Value} {g : Int → Int → Bool}
    (rule : ∀ (i j : Int) (t u : Tok) (s : Shared) (Q : Value → Shared → Prop) (E : Value → Shared → Prop), Q (.bool (g i j)) s → wpAny (model X.prog X.w) X.A (f (.int i t) (.int j u)) Q E s) :
    OpR X f (rI0 fun i j => .bl (g i j)) := by
  intro pins s σ H x y v u Q I rx ry h
  obtain ⟨i, j, rfl, rfl, q⟩ := h
  obtain ⟨t, rfl⟩ := rx
  obtain ⟨t', rfl⟩ := ry
  exact rule i j t t' s _ _ ⟨.bl (g i j), H, I, rfl, q⟩
def CDiv (i j : Int) : Prop := 0 < j ∧ j < 1073741824
def CPow (i j : Int) : Prop := 0 ≤ j ∧ j ≤ 1000000 ∧ i.natAbs < 2 ^ 64
def CMul (i j : Int) : Prop := (-(2 ^ 64) < i ∧ i < 2 ^ 64) ∨ (-(2 ^ 64) < j ∧ j < 2 ^ 64)
theorem CMul.ok {i j : Int} (h : CMul i j) : IntMulOk i j := by
  rcases h with ⟨h1, h2⟩ | ⟨h1, h2⟩
  · exact .of_left (intBits_le_64 h1 h2)
  · exact .of_right (intBits_le_64 h1 h2)
theorem op_add : OpR X (binaryOp .Add) (rI0 fun i j => .int (i + j)) := opI0 fun _ _ _ _ _ _ _ q => add_int q
theorem op_sub : OpR X (binaryOp .Sub) (rI0 fun i j => .int (i - j)) := opI0 fun _ _ _ _ _ _ _ q => sub_int q
theorem op_mul : OpR X (binaryOp .Mult) (rI CMul fun i j => .int (i * j)) := opI fun _ _ _ _ _ _ _ hc q => mul_int q hc.ok
theorem op_fdiv : OpR X (binaryOp .FloorDiv) (rI CDiv fun i j => .int (i / j)) := opI fun i j _ _ _ _ _ hc q => by
  have h1 : (0 : Int) < j := hc.1
  have h2 : j < 1073741824 := hc.2
  exact floordiv_int (by omega) (by rw [Int.fdiv_eq_ediv_of_nonneg i (by omega)]; exact q) (.inl (PyProof.noPylong_small (by omega)))
theorem op_mod : OpR X (binaryOp .Mod) (rI (fun _ j => 0 < j) fun i j => .int (i % j)) := opI fun i j _ _ _ _ _ hc q => by
  have h1 : (0 : Int) < j := hc
  exact mod_int' (by omega) (by rw [Int.fmod_eq_emod_of_nonneg i (by omega)]; exact q)
theorem op_pow : OpR X (binaryOp .Pow) (rI CPow fun i j => .int (i ^ j.toNat)) := opI fun _ _ _ _ _ _ _ hc q => pow_int_small hc.1 hc.2.1 hc.2.2 q
theorem iop_add : OpR X (inplaceOp .Add) (rI0 fun i j => .int (i + j)) := opI0 fun _ _ _ _ _ _ _ q => iadd_int q
theorem unI {f : Value → Sem Value} {g : Int → Int}
    (rule : ∀ (i : Int) (t : Tok) (s : Shared) (Q : Value → Shared → Prop) (E : Value → Shared → Prop), Q (.int (g i) s.toks) { s with toks := s.toks + 1 } → wpAny (model X.prog X.w) X.A (f (.int i t)) Q E s) :
    UnR X f (rU fun i => .int (g i)) := by
  intro pins s σ H x v Q I rx h
  obtain ⟨i, rfl, q⟩ := h
  obtain ⟨t, rfl⟩ := rx
  exact rule i t s _ _ ⟨.int (g i), H, I.tok _, ⟨_, rfl⟩, q⟩
theorem un_neg : UnR X (unaryOp .USub) (rU fun i => .int (-i)) := unI fun _ _ _ _ _ q => neg_int q
end
def scal : V → V → Bool
  | .non, .non => true | .non, .int _ => true | .int _, .non => true | .non, .bl _ => true | .bl _, .non => true | .non, .str _ => true | .str _, .non => true
  | .int _, .int _ => true | .bl _, .bl _ => true | .str _, .str _ => true | .byt _, .byt _ => true
  | .int _, .str _ => true | .str _, .int _ => true | .bl _, .str _ => true | .str _, .bl _ => true
  | _, _ => false
def rEq : R2 := fun x y H Q => scal x y = true ∧ Q (.bl (decide (x = y))) H
def rNe : R2 := fun x y H Q => scal x y = true ∧ Q (.bl (!decide (x = y))) H
theorem dec_int {i j : Int} : decide (V.int i = V.int j) = (i == j) := by
  rw [Bool.eq_iff_iff]
  simp
theorem dec_bl {i j : Bool} : decide (V.bl i = V.bl j) = (i == j) := by
  rw [Bool.eq_iff_iff]
  simp
theorem dec_str {i j : Str} : decide (V.str i = V.str j) = (i == j) := by
  rw [Bool.eq_iff_iff]
  simp
theorem dec_byt {i j : Array UInt8} : decide (V.byt i = V.byt j) = (i.toList == j.toList) := by
  rw [Bool.eq_iff_iff]
  cases i
  cases j
  simp
section
variable {X : Cx} {a b c : Expr} {ta tb tc : TE} {pos : Pos}
theorem fin_bl {pins : List (Addr × Obj)} {σ : St} {H : Hp} {s : Shared} {Q : VK} {k k' : Bool} (I : Inv X pins σ H s) (q : Q (.bl k) H) (e : k = k') : EP X pins σ Q (.bool k') s := by
  subst e
  exact ⟨.bl k, H, I, rfl, q⟩
theorem op_eq : OpR X (compareOp .Eq) rEq := by
  intro pins s σ H x y v u Q I rx ry h
  obtain ⟨hs, q⟩ := h
  cases x with
  | non =>
    cases rx
    cases y with
    | non => cases ry; exact PySem.EqNone.eq_none_none (fin_bl I q (by simp))
    | bl j => cases ry; exact PySem.EqNone.eq_none_bool (fin_bl I q (by simp))
    | int j => obtain ⟨t', rfl⟩ := ry; exact PySem.EqNone.eq_none_int (fin_bl I q (by simp))
    | str j => obtain ⟨t', rfl⟩ := ry; exact PySem.EqNone.eq_none_str (fin_bl I q (by simp))
    | _ => exact absurd (show false = true from hs) Bool.false_ne_true
  | bl i =>
    cases rx
    cases y with
    | non => cases ry; exact PySem.EqNone.eq_bool_none (fin_bl I q (by simp))
    | bl j => cases ry; exact eq_bool (fin_bl I q dec_bl)
    | str j => obtain ⟨t', rfl⟩ := ry; exact PySem.EqMixed.eq_bool_str (fin_bl I q (by simp))
    | _ => exact absurd (show false = true from hs) Bool.false_ne_true
  | int i =>
    obtain ⟨t, rfl⟩ := rx
    cases y with
    | non => cases ry; exact PySem.EqNone.eq_int_none (fin_bl I q (by simp))
    | int j => obtain ⟨t', rfl⟩ := ry; exact eq_int (fin_bl I q dec_int)
    | str j => obtain ⟨t', rfl⟩ := ry; exact PySem.EqMixed.eq_int_str (fin_bl I q (by simp))
    | _ => exact absurd (show false = true from hs) Bool.false_ne_true
  | str i =>
    obtain ⟨t, rfl⟩ := rx
    cases y with
    | non => cases ry; exact PySem.EqNone.eq_str_none (fin_bl I q (by simp))
    | bl j => cases ry; exact PySem.EqMixed.eq_str_bool (fin_bl I q (by simp))
    | int j => obtain ⟨t', rfl⟩ := ry; exact PySem.EqMixed.eq_str_int (fin_bl I q (by simp))
    | str j => obtain ⟨t', rfl⟩ := ry; exact eq_str (fin_bl I q dec_str)
    | _ => exact absurd (show false = true from hs) Bool.false_ne_true
  | byt i =>
    obtain ⟨t, rfl⟩ := rx
    cases y with
    | byt j => obtain ⟨t', rfl⟩ := ry; exact PySem.W.eq_bytes (fin_bl I q dec_byt)
    | _ => exact absurd (show false = true from hs) Bool.false_ne_true
  | _ => cases y <;> exact absurd (show false = true from hs) Bool.false_ne_true
theorem op_ne : OpR X (compareOp .NotEq) rNe := by
  intro pins s σ H x y v u Q I rx ry h
  obtain ⟨hs, q⟩ := h
  cases x with
  | non =>
    cases rx
    cases y with
    | non => cases ry; exact PySem.EqNone.ne_none_none (fin_bl I q (by simp))
    | bl j => cases ry; exact PySem.EqNone.ne_none_bool (fin_bl I q (by simp))
    | int j => obtain ⟨t', rfl⟩ := ry; exact PySem.EqNone.ne_none_int (fin_bl I q (by simp))
    | str j => obtain ⟨t', rfl⟩ := ry; exact PySem.EqNone.ne_none_str (fin_bl I q (by simp))
    | _ => exact absurd (show false = true from hs) Bool.false_ne_true
  | bl i =>
    cases rx
    cases y with
    | non => cases ry; exact PySem.EqNone.ne_bool_none (fin_bl I q (by simp))
    | bl j => cases ry; exact ne_bool (fin_bl I q (congrArg not dec_bl))
    | str j => obtain ⟨t', rfl⟩ := ry; exact PySem.EqMixed.ne_bool_str (fin_bl I q (by simp))
    | _ => exact absurd (show false = true from hs) Bool.false_ne_true
  | int i =>
    obtain ⟨t, rfl⟩ := rx
    cases y with
    | non => cases ry; exact PySem.EqNone.ne_int_none (fin_bl I q (by simp))
    | int j => obtain ⟨t', rfl⟩ := ry; exact ne_int (fin_bl I q (congrArg not dec_int))
    | str j => obtain ⟨t', rfl⟩ := ry; exact PySem.EqMixed.ne_int_str (fin_bl I q (by simp))
    | _ => exact absurd (show false = true from hs) Bool.false_ne_true
  | str i =>
    obtain ⟨t, rfl⟩ := rx
    cases y with
    | non => cases ry; exact PySem.EqNone.ne_str_none (fin_bl I q (by simp))
    | bl j => cases ry; exact PySem.EqMixed.ne_str_bool (fin_bl I q (by simp))
    | int j => obtain ⟨t', rfl⟩ := ry; exact PySem.EqMixed.ne_str_int (fin_bl I q (by simp))
    | str j => obtain ⟨t', rfl⟩ := ry; exact ne_str (fin_bl I q (congrArg not dec_str))
    | _ => exact absurd (show false = true from hs) Bool.false_ne_true
  | byt i =>
    obtain ⟨t, rfl⟩ := rx
    cases y with
    | byt j => obtain ⟨t', rfl⟩ := ry; exact PySem.W.ne_bytes (fin_bl I q (congrArg not dec_byt))
    | _ => exact absurd (show false = true from hs) Bool.false_ne_true
  | _ => cases y <;> exact absurd (show false = true from hs) Bool.false_ne_true
theorem op_lt : OpR X (compareOp .Lt) (rI0 fun i j => .bl (decide (i < j))) := opB0 fun _ _ _ _ _ _ _ q => lt_int q
theorem op_le : OpR X (compareOp .LtE) (rI0 fun i j => .bl (decide (i ≤ j))) := opB0 fun _ _ _ _ _ _ _ q => le_int q
theorem op_gt : OpR X (compareOp .Gt) (rI0 fun i j => .bl (decide (j < i))) := opB0 fun _ _ _ _ _ _ _ q => gt_int q
theorem op_ge : OpR X (compareOp .GtE) (rI0 fun i j => .bl (decide (j ≤ i))) := opB0 fun _ _ _ _ _ _ _ q => ge_int q
theorem op_isN : OpR X (compareOp .Is) (fun x y H Q => y = .non ∧ Q (.bl (decide (x = .non))) H) := by
  intro pins s σ H x y v u Q I rx ry h
  obtain ⟨rfl, q⟩ := h
  cases ry
  refine is_none_gen (fin_bl I q ?_)
  cases x <;> first
    | (cases rx; rfl)
    | (obtain ⟨t, rfl⟩ := rx; rfl)
theorem nomark (b : Expr) {op : CmpOp} (h : op ≠ .In := by decide) (h2 : op ≠ .NotIn := by decide) : behindInMarks op b = false := by
  have e1 : (op == CmpOp.In) = false := by cases op <;> first | rfl | exact absurd rfl h
  have e2 : (op == CmpOp.NotIn) = false := by cases op <;> first | rfl | exact absurd rfl h2
  cases b <;> simp [behindInMarks, e1, e2]
theorem pe_cmpR {op : CmpOp} {r : R2} (ho : OpR X (compareOp op) r) (ha : PE X a ta) (hb : PE X b tb) (hm : behindInMarks op b = false) : PE X (.Compare a [op] [b] pos) (tOp r ta tb) := by
  intro pins s σ H Q I h
  exact wpAny_Compare1 (binT ha hb I h fun v u s2 x y H2 I2 rx ry q => ho pins s2 σ H2 x y v u Q I2 rx ry q) hm
inductive OneB (x : V) (k : Bool → Prop) : Prop
  | mk (c : Bool) (_ : x = .bl c) (_ : k c) : OneB x k
def tTest (t : TE) : TT := fun σ H Q => t σ H fun x H' => OneB x fun k => Q k H'
theorem pt_cmpR {op : CmpOp} {r : R2} (ho : OpR X (compareOp op) r) (ha : PE X a ta) (hb : PE X b tb) (hm : behindInMarks op b = false) : PT X (.Compare a [op] [b] pos) (tTest (tOp r ta tb)) := by
  intro pins s σ H Q I h
  refine wpAny_isTrue_Compare1 (thn (ha pins s σ H _ I h) fun v s1 ⟨x, H1, I1, r1, q1⟩ => thn (hb pins s1 σ H1 _ I1 q1) fun u s2 ⟨y, H2, I2, r2, q2⟩ =>
    thn (ho pins s2 σ H2 x y v u _ I2 r1 r2 q2) fun c s3 ⟨z, H3, I3, r3, k, e, q3⟩ => ?_) hm
  subst e
  cases r3
  exact wpAny_truthy_bool ⟨H3, I3, q3⟩
def TruV (K : PySem.W.Frag) (x : V) (H : Hp) (k : Bool) : Prop :=
  match x with
  | .non => k = false
  | .bl b => k = b
  | .int i => k = (i != 0)
  | .str y => y.length ≤ sizeLine ∧ k = ((y.length : Int) != 0)
  | .byt y => y.size ≤ sizeLine ∧ k = ((y.size : Int) != 0)
  | .ref p => (∃ xs, SqL K H p xs ∧ k = !xs.isEmpty) ∨ (∃ xs, SqT K H p xs ∧ k = !xs.isEmpty) ∨ ∃ kvs, H p = some (.dK kvs) ∧ k = !kvs.isEmpty
  | _ => False
theorem isEmpty_kv {κ : Type} {kvs : List (κ × V)} {vs : List (κ × Value)} (r : KV kvs vs) : (!vs.isEmpty) = !kvs.isEmpty := by
  cases r <;> rfl
theorem isEmpty_of {xs : List V} {its : List Value} (r : Vals xs its) : (!its.toArray.isEmpty) = !xs.isEmpty := by
  cases r <;> simp
theorem line63 : (sizeLine : Nat) < 2 ^ 63 := by rw [sizeLine_eq]; decide
theorem tru_ok : TruR X (fun x H Q => ∃ k, TruV X.K x H k ∧ Q k H) := by
  intro pins s σ H x v Q I rx h
  obtain ⟨k, e, q⟩ := h
  have hl := line63
  have hs : sizeLine = 16777216 := sizeLine_eq
  cases x with
  | non =>
    cases rx
    have e' : k = false := e
    subst e'
    exact truthy_none ⟨H, I, q⟩
  | bl b =>
    cases rx
    have e' : k = b := e
    subst e'
    exact wpAny_truthy_bool ⟨H, I, q⟩
  | int i =>
    obtain ⟨t, rfl⟩ := rx
    have e' : k = (i != 0) := e
    subst e'
    exact PySem.P.truthy_int ⟨H, I, q⟩
  | str y =>
    obtain ⟨t, rfl⟩ := rx
    obtain ⟨hy, e'⟩ : y.length ≤ sizeLine ∧ k = ((y.length : Int) != 0) := e
    subst e'
    exact PySem.P.truthy_str (by omega) ⟨H, I.tok _, q⟩
  | byt y =>
    obtain ⟨t, rfl⟩ := rx
    obtain ⟨hy, e'⟩ : y.size ≤ sizeLine ∧ k = ((y.size : Int) != 0) := e
    subst e'
    exact PySem.W.truthy_bytes (by omega) ⟨H, I.tok _, q⟩
  | ref p =>
    cases rx
    have e' : (∃ xs, SqL X.K H p xs ∧ k = !xs.isEmpty) ∨ (∃ xs, SqT X.K H p xs ∧ k = !xs.isEmpty) ∨ ∃ kvs, H p = some (.dK kvs) ∧ k = !kvs.isEmpty := e
    rcases e' with ⟨xs, hx, e'⟩ | ⟨xs, hx, e'⟩ | ⟨kvs, hx, e'⟩
    · subst e'
      obtain ⟨its, r, pl, hz⟩ := I.list hx
      have hlen := r.length
      exact wpAny_truthy_list pl.isList (by simp only [List.size_toArray]; omega) ⟨H, I.tok _, by rw [isEmpty_of r]; exact q⟩
    · subst e'
      obtain ⟨its, r, pl, hz⟩ := I.tuple hx
      have hlen := r.length
      exact truthy_tuple pl (by simp only [List.size_toArray]; omega) ⟨H, I.tok _, by rw [isEmpty_of r]; exact q⟩
    · subst e'
      obtain ⟨hz, hS, vs, r, m⟩ : kvs.length ≤ sizeLine ∧ (p == sysModules) = false ∧ ∃ vs, KV kvs vs ∧ s.heap.DictOf (mixKind X.prog X.w) p vs := I.hok p _ hx
      have hlen : kvs.length = vs.length := Paired.length r
      exact wpAny_truthy_dict hS m (by omega) ⟨H, I.tok _, by rw [isEmpty_kv r]; exact q⟩
  | _ => exact (show False from e).elim
theorem pt_truth (ha : PE X a ta) (he : ∀ whole, isTrue a X.env whole = (do let v ← whole; standAt a.pos; holding [v] (truthy v))) :
    PT X a (fun σ H Q => ta σ H fun x H' => ∃ k, TruV X.K x H' k ∧ Q k H') := by
  intro pins s σ H Q I h
  exact isTrue_plain (thn (ha pins s σ H _ I h) fun v s1 ⟨x, H1, I1, r1, q1⟩ => tru_ok pins s1 σ H1 x v Q I1 r1 q1) (he _)
theorem vals1 {x : V} {us : List Value} (r : Vals [x] us) : ∃ u, us = [u] ∧ RelV x u := by
  cases r with
  | cons r1 r2 => cases r2; exact ⟨_, rfl, r1⟩
theorem vals2 {x y : V} {us : List Value} (r : Vals [x, y] us) : ∃ u w', us = [u, w'] ∧ RelV x u ∧ RelV y w' := by
  cases r with
  | cons r1 r2 =>
    cases r2 with
    | cons r3 r4 => cases r4; exact ⟨_, _, rfl, r1, r3⟩
theorem call_max2 (hc : X.calm = true) : CallR X (.builtin "max") (fun xs H Q => ∃ i j, xs = [.int i, .int j] ∧ Q (.int (if j > i then j else i)) H) := by
  intro pins s σ H xs us Q I r h
  obtain ⟨i, j, rfl, q⟩ := h
  obtain ⟨u, w', rfl, ⟨t, rfl⟩, ⟨t', rfl⟩⟩ := vals2 r
  refine max_two_ints (I.ok.hd hc) fun h' tk k => ⟨_, H, I.kept k, ?_, q⟩
  by_cases hj : j > i
  · rw [if_pos hj, if_pos hj]; exact ⟨_, rfl⟩
  · rw [if_neg hj, if_neg hj]; exact ⟨_, rfl⟩
theorem call_int1 : CallR X (.type "int") (fun xs H Q => (∃ i, xs = [.int i] ∧ Q (.int i) H) ∨ ∃ k, xs = [.bl k] ∧ Q (.int (if k then 1 else 0)) H) := by
  intro pins s σ H xs us Q I r h
  rcases h with ⟨i, rfl, q⟩ | ⟨k, rfl, q⟩
  · obtain ⟨u, rfl, t, rfl⟩ := vals1 r
    exact call_int_int ⟨.int i, H, I, ⟨_, rfl⟩, q⟩
  · obtain ⟨u, rfl, r1⟩ := vals1 r
    cases r1
    exact call_int_bool ⟨.int (if k then 1 else 0), H, I.tok _, ⟨_, rfl⟩, q⟩
end
end L2
namespace L2
open PySem PySem.Spec PyProof.Rows
structure ObjM (h : Heap) (x dx C : Addr) (mA : Str → Option Value) : Prop where
  obj : h.get? x = some (PySem.W.instObj C dx)
  ns : h.Ns1 dx mA
  ne : dx ≠ x
theorem lookIn_ns {h : Heap} {dx : Addr} {mA : Str → Option Value} (n : h.Ns1 dx mA) : ∃ od, h.get? dx = some od ∧ ∀ name, PySem.W.lookIn name od = some (mA name) := by
  obtain ⟨o, es, ep, ho, hd, hk, _, hm⟩ := n
  refine ⟨o, ho, fun name => ?_⟩
  have e := hm name
  unfold nsFind findBy at e
  rw [← Array.find?_toList] at e
  unfold PySem.W.lookIn
  rw [hd]
  dsimp only
  split
  · rename_i y q
    rw [q] at e
    exact congrArg some e
  · rename_i q
    rw [q] at e
    have a : es.toList.any (·.refKey) = false := by
      rw [List.any_eq_false]
      intro y hy
      obtain ⟨z, t, hkey⟩ := hk y (Array.mem_toList_iff.mp hy)
      simp [DictEntry.refKey, hkey]
    have a' : ¬ es.toList.any (·.refKey) = true := by rw [a]; exact Bool.false_ne_true
    rw [if_neg a']
    exact congrArg some e
theorem ObjM.look {h : Heap} {x dx C : Addr} {mA : Str → Option Value} (I : ObjM h x dx C mA) : ∃ od, PySem.W.InstAt h x (PySem.W.instObj C dx) C (some od) ∧ ∀ name, PySem.W.lookIn name od = some (mA name) :=
  let ⟨od, ho, hl⟩ := lookIn_ns I.ns
  ⟨od, ⟨I.obj, rfl, rfl, ho⟩, hl⟩
section
variable {P : Program} {w : World} {H H' : Hp} {h h' : Heap} {a C dx : Addr} {fs fs' : List (Str × V)}
theorem ins_get (hok : HOk P w H h) (e : H a = some (.ins C dx fs)) : ∃ mA, ObjM h a dx C mA ∧ (∀ f, RelO (fs.lookup f) (mA f)) ∧ PySem.Within mA (fs.map (·.1)) ∧ fs.length ≤ 1000 ∧ H dx = some (.own a) := by
  obtain ⟨d, z, ne, ob, mA, n, r, q⟩ := (show ObjOk P w H h a (.ins C dx fs) from hok a _ e)
  exact ⟨mA, ⟨ob, n, ne⟩, r, q, z, d⟩
end
structure Cls (K : PySem.W.Frag) (C : Addr) : Prop where
  pg : PySem.W.plainGet K C Str.empty = true
  hd : PySem.W.hasDictIn K C = true
  po : PySem.W.plainOver K C = true
  sa : PySem.W.findIn K (.ref C) "__setattr__" = some (some (.builtin "object.__setattr__"))
theorem Cls.get {K : PySem.W.Frag} {C : Addr} (c : Cls K C) (f : Str) : PySem.W.plainGet K C f = true := c.pg
section
variable {X : Cx} {pins : List (Addr × Obj)} {σ : St} {H : Hp} {s : Shared} {A : Around} {E : Value → Shared → Prop} {Q : Value → Shared → Prop} {c : Value} {b : Bool}
inductive TyOf (K : PySem.W.Frag) (H : Hp) : V → Value → Prop where
  | non : TyOf K H .non (.type "NoneType")
  | bl (x : Bool) : TyOf K H (.bl x) (.type "bool")
  | int (i : Int) : TyOf K H (.int i) (.type "int")
  | str (x : Str) : TyOf K H (.str x) (.type "str")
  | flt (x : UInt64) : TyOf K H (.flt x) (.type "float")
  | lst {a : Addr} {xs : List V} (e : H a = some (.lst xs)) : TyOf K H (.ref a) (.type "list")
  | frz {a : Addr} {o : Obj} {xs : List V} (e : H a = some (.frz o (.lst xs))) : TyOf K H (.ref a) (.type "list")
  | tup {a : Addr} {xs : List V} (e : H a = some (.tup xs)) : TyOf K H (.ref a) (.type "tuple")
  | dK {a : Addr} {kvs : List (Key × V)} (e : H a = some (.dK kvs)) : TyOf K H (.ref a) (.type "dict")
  | dT {a : Addr} {kvs : List (List Key × V)} (e : H a = some (.dT kvs)) : TyOf K H (.ref a) (.type "dict")
  | ins {a C dx : Addr} {fs : List (Str × V)} (e : H a = some (.ins C dx fs)) (cl : Cls K C) (ha : PySem.W.findIn K (.ref C) "__class__" = some (some (.builtin "object.__class__")))
      (hn : PySem.W.specialIn K (.builtin "object.__class__") "__get__" = some (some (.builtin "getset_descriptor.__get__"))) (htk : PySem.W.takesIn K (.builtin "object.__class__") = some true)
      (hm : PySem.W.mroIn K C (.type "object") = some true) : TyOf K H (.ref a) (.ref C)
theorem isinst_ok {x : V} {u t : Value} (I : Inv X pins σ H s) (rx : RelV x u) (ty : TyOf X.K H x t) (e : PySem.W.kitOne X.K t c = some b) (h : ∀ tk, Q (.bool b) { s with toks := tk }) :
    wpAny (model X.prog X.w) A (call (.builtin "isinstance") [u, c]) Q E s := by
  cases ty with
  | non => cases (show u = Value.none from rx); exact PySem.W.kia_one PySem.W.kitx_none I.kIn True.intro e (fun z => nomatch z) h
  | bl y => cases (show u = Value.bool y from rx); exact PySem.W.kia_one PySem.W.kitx_bool I.kIn True.intro e (fun z => nomatch z) h
  | int i => obtain ⟨t, q⟩ := (show ∃ t, u = Value.int i t from rx); cases q; exact PySem.W.kia_one PySem.W.kitx_int I.kIn True.intro e (fun z => nomatch z) h
  | str y => obtain ⟨t, q⟩ := (show ∃ t, u = Value.str y t from rx); cases q; exact PySem.W.kia_one PySem.W.kitx_str I.kIn True.intro e (fun z => nomatch z) h
  | flt y => obtain ⟨t, q⟩ := (show ∃ t, u = Value.float y t from rx); cases q; exact PySem.W.kia_one PySem.W.kitx_float I.kIn True.intro e (fun z => nomatch z) h
  | @lst a xs ea =>
    cases (show u = Value.ref a from rx)
    obtain ⟨_, _, n, _, h1⟩ := (show ObjOk X.prog X.w H s.heap a (.lst xs) from I.hok a _ ea)
    exact PySem.W.kia_one PySem.W.kitx_list I.kIn ⟨_, h1, rfl⟩ e (fun z => nomatch z) h
  | @frz a ob xs ea =>
    cases (show u = Value.ref a from rx)
    obtain ⟨_, _, _, n, _, h1⟩ := (show ObjOk X.prog X.w H s.heap a (.frz ob (.lst xs)) from I.hok a _ ea)
    exact PySem.W.kia_one PySem.W.kitx_list I.kIn ⟨_, h1, rfl⟩ e (fun z => nomatch z) h
  | @tup a xs ea =>
    cases (show u = Value.ref a from rx)
    obtain ⟨_, _, _, p⟩ := (show ObjOk X.prog X.w H s.heap a (.tup xs) from I.hok a _ ea)
    obtain ⟨o, h1, h2, _⟩ := p
    exact PySem.W.kia_one PySem.W.kitx_tuple I.kIn ⟨o, h1, h2⟩ e (fun z => nomatch z) h
  | @dK a kvs ea =>
    cases (show u = Value.ref a from rx)
    obtain ⟨_, _, vs, _, p⟩ := (show ObjOk X.prog X.w H s.heap a (.dK kvs) from I.hok a _ ea)
    obtain ⟨o, es, ep, h1, h2, _⟩ := p
    exact PySem.W.kia_one PySem.W.kitx_dict I.kIn ⟨o, h1, h2.1⟩ e (fun z => nomatch z) h
  | @dT a kvs ea =>
    cases (show u = Value.ref a from rx)
    obtain ⟨_, _, xs, _, o, es, ep, h1, h2, _⟩ := (show ObjOk X.prog X.w H s.heap a (.dT kvs) from I.hok a _ ea)
    exact PySem.W.kia_one PySem.W.kitx_dict I.kIn ⟨o, h1, h2.1⟩ e (fun z => nomatch z) h
  | @ins a C dx fs ea cl ha hn htk hm =>
    cases (show u = Value.ref a from rx)
    obtain ⟨mA, O, _⟩ := ins_get I.hok ea
    obtain ⟨od, J, _⟩ := O.look
    exact PySem.W.kia_one (PySem.W.kitx_own (cl.get _) cl.hd ha hn htk hm) I.kIn J e (fun z => nomatch z) h
end
end L2
namespace L2
open PySem PySem.Spec PyProof.Rows
structure Room (k : Nat) (A : Around) : Prop where
  hd : A.handled = none
  gd : A.guards = some []
  dp : A.depth + 3 * k + 5 < recursionLimit
  un : A.units + 16 * k + 200 < cLine
theorem Room.mono {j k : Nat} {A : Around} (r : Room k A) (h : j ≤ k) : Room j A := ⟨r.hd, r.gd, by have := r.dp; omega, by have := r.un; omega⟩
theorem Room.deeper {k : Nat} {A : Around} (r : Room (k + 1) A) (env : Env) : Room k (A.deeper env) :=
  ⟨r.hd, r.gd, by have := r.dp; show A.depth + 1 + 3 * k + 5 < _; omega, by have := r.un; show A.units + 3 + 16 * k + 200 < _; omega⟩
theorem Room.depth {k : Nat} {A : Around} (r : Room k A) : A.depth < recursionLimit := by have := r.dp; omega
theorem Room.units {k : Nat} {A : Around} (r : Room k A) : A.units + 64 < cLine := by have := r.un; omega
def tNil : TA := fun _ H Q => Q [] H
def tCons (ta : TE) (tr : TA) : TA := fun σ H Q => ta σ H fun x H1 => tr σ H1 fun xs H2 => Q (x :: xs) H2
section
variable {X : Cx} {e : Expr} {es : List Expr} {te : TE} {t : TA} {pos : Pos}
theorem pa_nil : PA X [] tNil := fun _ _ _ _ H Q I h => Calls.spliced_nil ⟨[], H, I, .nil, h⟩
theorem pa_cons (ha : PE X e te) (hr : PA X es t) (hs : starEach (e :: es) X.env = (false, eval e X.env) :: starEach es X.env := by rfl) : PA X (e :: es) (tCons te t) := by
  intro pos pins s σ H Q I h
  rw [hs]
  show wpAny _ _ (spliced ((false, eval e X.env) :: backTo pos (starEach es X.env))) _ _ s
  refine Calls.spliced_cons (thn (ha pins s σ H _ I h) fun u s1 ⟨x, H1, I1, r1, q1⟩ => ?_)
  exact thn (hr pos pins s1 σ H1 _ I1 q1) fun us s2 ⟨xs, H2, I2, r2, q2⟩ => ⟨x :: xs, H2, I2, .cons r1 r2, q2⟩
def tTup (t : TA) : TE := fun σ H Q => t σ H fun xs H1 => xs.length ≤ sizeLine ∧ ∀ p, H1 p = none → Q (.ref p) (upd H1 p (.tup xs))
def tLst (t : TA) : TE := fun σ H Q => t σ H fun xs H1 => xs.length ≤ sizeLine ∧ ∀ p, H1 p = none → Q (.ref p) (upd H1 p (.lst xs))
theorem pe_tup {x1} (h : PA X es t) : PE X (.Tuple es x1 pos) (tTup t) := by
  intro pins s σ H Q I hq
  refine wpAny_Tuple_spliced (thn (h pos pins s σ H _ I hq) fun us s1 ⟨xs, H1, I1, r, z, q⟩ => ⟨by rw [← r.length]; exact z, ?_⟩)
  have hf : H1 s1.heap.objs.size = none := I1.hok.fresh (Nat.le_refl _)
  refine ⟨.ref s1.heap.objs.size, upd H1 s1.heap.objs.size (.tup xs), I1.laid (t' := s1.toks) (fun b u e => Heap.get?_push_of_some _ e) (Nat.le_refl _) ?_, rfl, q _ hf⟩
  exact ⟨z, us, r, ⟨_, Heap.get?_push_size _ rfl, rfl, _, rfl⟩⟩
theorem pe_lst (h : PA X es t) : PE X (.List es pos) (tLst t) := by
  intro pins s σ H Q I hq
  refine wpAny_List_spliced (thn (h pos pins s σ H _ I hq) fun us s1 ⟨xs, H1, I1, r, z, q⟩ => ⟨by rw [← r.length]; exact z, ?_⟩)
  have hf : H1 s1.heap.objs.size = none := I1.hok.fresh (Nat.le_refl _)
  refine ⟨.ref s1.heap.objs.size, upd H1 s1.heap.objs.size (.lst xs), I1.laid (t' := s1.toks) (fun b u e => Heap.get?_push_of_some _ e) (Nat.le_refl _) ?_, rfl, q _ hf⟩
  exact ⟨z, us, 0, r, Heap.get?_push_size _ rfl⟩
end
abbrev Sp := List V → Hp → VK → XK → Prop
abbrev CXT := List Env → Hp → Shared → XK → Value → Shared → Prop
structure Env0 (P : Program) (w : World) (K : PySem.W.Frag) (mg : Str → Option Value) (base : Heap) (A : Around) (outer : List Env) (s : Shared) (H : Hp) : Prop where
  frames : A.frames = some outer
  mod : Mod K mg base
  bs : ∀ b o, base.get? b = some o → s.heap.get? b = some o ∧ H b = none
  bsz : base.objs.size ≤ s.heap.objs.size
  funs : s.heap.FunFrames base outer
  frf : ∀ b ∈ frs outer, H b = none
  hok : HOk P w H s.heap
  bare : AllBare s.gens
def CE (outer : List Env) (P : Program) (w : World) (H : Hp) (s : Shared) (Q : VK) (u : Value) (s' : Shared) : Prop :=
  ∃ v H', s'.os = s.os ∧ AllBare s'.gens ∧ Un (frs outer) [] H H' s.heap s'.heap ∧ HOk P w H' s'.heap ∧ RelV v u ∧ Q v H'
def CR (CX : CXT) (outer : List Env) (P : Program) (w : World) (H : Hp) (s : Shared) (Q : VK) (E : XK) (r : Result) (s' : Shared) : Prop :=
  match r with
  | .ok (.ret u) => CE outer P w H s Q u s'
  | .ok _ => False
  | .error e => CX outer H s E e s'
structure FnOk (P : Program) (w : World) (K : PySem.W.Frag) (mg : Str → Option Value) (base : Heap) (CX : CXT) (k : Nat) (f : Addr) (fd : FuncData) (ps : List Str) (sp : Sp) : Prop where
  len : ∀ vs H Q E, sp vs H Q E → vs.length = ps.length
  run : ∀ (A : Around) (outer : List Env) (s : Shared) (H : Hp) (args : Args) (us : List Value) (vs : List V) (Q : VK) (E : XK), Room k A → Env0 P w K mg base A outer s H → BindsTo s fd args (ps.zip us) → Vals vs us → sp vs H Q E →
    codeAny (model P w) A (.call (.ref f) args) (CR CX outer P w H s Q E) s
theorem FnOk.mono {P : Program} {w : World} {K : PySem.W.Frag} {mg : Str → Option Value} {base : Heap} {CX : CXT} {j k : Nat} {f : Addr} {fd : FuncData} {ps : List Str} {sp : Sp} (F : FnOk P w K mg base CX j f fd ps sp) (h : j ≤ k) :
    FnOk P w K mg base CX k f fd ps sp := ⟨F.len, fun A outer s H args us vs Q E hr => F.run A outer s H args us vs Q E (hr.mono h)⟩
theorem FnOk.imp {P : Program} {w : World} {K : PySem.W.Frag} {mg : Str → Option Value} {base : Heap} {CX : CXT} {k : Nat} {f : Addr} {fd : FuncData} {ps : List Str} {sp sp' : Sp} (F : FnOk P w K mg base CX k f fd ps sp)
    (h : ∀ vs H Q E, sp' vs H Q E → sp vs H Q E) : FnOk P w K mg base CX k f fd ps sp' :=
  ⟨fun vs H Q E q => F.len vs H Q E (h _ _ _ _ q), fun A outer s H args us vs Q E hr he hb hv hs => F.run A outer s H args us vs Q E hr he hb hv (h _ _ _ _ hs)⟩
section
variable {X : Cx} {pins : List (Addr × Obj)} {σ : St} {H : Hp} {s s' : Shared}
theorem Inv.env0 (I : Inv X pins σ H s) : Env0 X.prog X.w X.K X.mg X.base X.A X.stack s H :=
  ⟨I.ok.frames, I.ok.mod, I.bs, Nat.le_trans I.ok.bsz I.sz, I.stack, I.stkFree, I.hok, I.bare⟩
theorem Inv.after {Q : VK} {u : Value} (I : Inv X pins σ H s) (h : CE X.stack X.prog X.w H s Q u s') : EP X pins σ Q u s' := by
  obtain ⟨v, H', os, bare, un, hok, r, q⟩ := h
  obtain ⟨hh, g, d, t, os'⟩ := s'
  obtain rfl : os' = s.os := os
  exact ⟨v, H', I.call (h' := hh) (g' := g) (d' := d) (t' := t) (ch := []) un hok bare (fun b z => absurd z (by simp)), r, q⟩
end
def tCall (sp : Sp) (dvs : List V) (E : XK) (t : TA) : TE := fun σ H Q => t σ H fun vs H1 => sp (vs ++ dvs) H1 Q E
def Binds (K : PySem.W.Frag) (fd : FuncData) (ps : List Str) (ds : List Value) : Prop :=
  ∀ (s : Shared) (us : List Value), K.In s.heap → (us ++ ds).length = ps.length → BindsTo s fd ⟨us, []⟩ (ps.zip (us ++ ds))
theorem Binds.all {K : PySem.W.Frag} {fd : FuncData} {ps : List Str} (h : ∀ us : List Value, us.length = ps.length → bindArgs fd ⟨us, []⟩ = pure (ps.zip us)) : Binds K fd ps [] := fun s us _ hl => by
  rw [List.append_nil] at hl ⊢
  exact .of_eq (h us hl)
def Passes (CX : CXT) (X : Cx) (E : XK) : Prop := ∀ (pins : List (Addr × Obj)) (σ : St) (H : Hp) (s : Shared) (e : Value) (s' : Shared), Inv X pins σ H s → CX X.stack H s E e s' → X.xe e s'
section
variable {X : Cx} {CX : CXT} {k : Nat} {f C : Addr} {fd : FuncData} {ps : List Str} {sp : Sp} {dvs : List V} {ds : List Value} {E : XK} {x m : Str} {p pos apos : Pos} {e o : Expr} {es : List Expr} {ta : TE} {t : TA}
theorem run_fn {pins : List (Addr × Obj)} {σ : St} {H : Hp} {s : Shared} {Q : VK} {us : List Value} {vs : List V} (F : FnOk X.prog X.w X.K X.mg X.base CX k f fd ps sp) (hr : Room k X.A) (hb : Binds X.K fd ps ds) (hd : Vals dvs ds) (hx : Passes CX X E)
    (I : Inv X pins σ H s) (r : Vals vs us) (h : sp (vs ++ dvs) H Q E) : wpAny (model X.prog X.w) X.A (call (.ref f) us) (EP X pins σ Q) X.xe s := by
  have r2 : Vals (vs ++ dvs) (us ++ ds) := r.append hd
  have hl : (us ++ ds).length = ps.length := by rw [← r2.length]; exact F.len _ _ _ _ h
  refine wpAny_call (codeAny_mono (F.run X.A X.stack s H ⟨us, []⟩ (us ++ ds) (vs ++ dvs) Q E hr I.env0 (hb s us I.kIn hl) r2 h) fun r s' hq => ?_)
  cases r with
  | error e => exact hx pins σ H s e s' I hq
  | ok fl =>
    cases fl with
    | ret u => exact I.after hq
    | next => exact False.elim hq
    | brk => exact False.elim hq
    | cont => exact False.elim hq
theorem pe_call (F : FnOk X.prog X.w X.K X.mg X.base CX k f fd ps sp) (hr : Room k X.A) (hg : Gl X x) (hm : X.mg x = some (.ref f)) (hk : PySem.W.keepIn X.K (.ref f) = true) (hb : Binds X.K fd ps ds) (hd : Vals dvs ds) (hx : Passes CX X E)
    (ha : PA X (e :: es) t) (hdb : (x == ("__debug__" : Str)) = false := by decide) (he : starEach (e :: es) X.env = (false, eval e X.env) :: starEach es X.env := by rfl) (hpl : (backTo pos (starEach es X.env)).any (·.1) = false := by rfl) :
    PE X (.Call (.Name x p) (e :: es) [] pos) (tCall sp dvs E t) := by
  intro pins s σ H Q I h
  refine wpAny_Call_Name_kw (ld_glob I hg hm ?_ hdb)
  refine PySem.W.callWith_K (h₀ := X.base) I.ok.mod.kin hk (thn (ha pos pins s σ H _ I h) fun us s1 ⟨vs, H1, I1, r, q⟩ => ⟨I1.kIn, ?_⟩) he hpl
  exact run_fn F hr hb hd hx I1 r q
end
structure FnScope (N P : List Str) (sc : Scope) : Prop where
  kind : sc.kind = .function
  co : sc.isCoroutine = false
  gen : sc.isGenerator = false
  nd : N.Nodup
  pre : N.take P.length = P
  par : ∀ x ∈ P, sc.names.lookup x = some .local ∨ sc.names.lookup x = some .cell
  nofree : ∀ y ∈ sc.names, y.2 ≠ .free
theorem bindL_out {kindOf : Str → Option NameKind} {x : Str} : ∀ {binds : List (Str × Value)} {m : Str → Option Value}, (∀ v, (x, v) ∉ binds) → bindL kindOf binds m x = m x
  | [], _, _ => rfl
  | (n, v) :: r, m, h => by
    unfold bindL
    rw [bindL_out fun w hw => h w (List.mem_cons_of_mem _ hw)]
    split
    · have : x ≠ n := by rintro rfl; exact h v List.mem_cons_self
      simp [this]
    · rfl
theorem bindC_out {kindOf : Str → Option NameKind} {x : Str} : ∀ {binds : List (Str × Value)} {m : Str → Option Value}, (∀ v, (x, v) ∉ binds) → bindC kindOf binds m x = m x
  | [], _, _ => rfl
  | (n, v) :: r, m, h => by
    unfold bindC
    rw [bindC_out fun w hw => h w (List.mem_cons_of_mem _ hw)]
    split
    · rfl
    · have : x ≠ n := by rintro rfl; exact h v List.mem_cons_self
      simp [this]
theorem bindL_get {kindOf : Str → Option NameKind} {x : Str} {v : Value} : ∀ {P : List Str} {vs : List Value} {i : Nat} {m : Str → Option Value}, P.Nodup → P[i]? = some x → vs[i]? = some v → kindOf x = some .local →
    bindL kindOf (P.zip vs) m x = some v
  | [], _, _, _, _, h, _, _ => by simp at h
  | _ :: _, [], _, _, _, _, h, _ => by simp at h
  | p :: P, w :: vs, 0, m, nd, h1, h2, hk => by
    simp at h1 h2; subst h1; subst h2
    show bindL kindOf ((p, w) :: P.zip vs) m p = _
    unfold bindL
    rw [bindL_out fun v hv => (List.nodup_cons.mp nd).1 (List.of_mem_zip hv).1, if_pos hk]
    simp
  | p :: P, w :: vs, i + 1, m, nd, h1, h2, hk => by
    show bindL kindOf ((p, w) :: P.zip vs) m x = _
    unfold bindL
    exact bindL_get (i := i) (List.nodup_cons.mp nd).2 (by simpa using h1) (by simpa using h2) hk
theorem bindC_get {kindOf : Str → Option NameKind} {x : Str} {v : Value} : ∀ {P : List Str} {vs : List Value} {i : Nat} {m : Str → Option Value}, P.Nodup → P[i]? = some x → vs[i]? = some v → kindOf x ≠ some .local →
    bindC kindOf (P.zip vs) m x = some v
  | [], _, _, _, _, h, _, _ => by simp at h
  | _ :: _, [], _, _, _, _, h, _ => by simp at h
  | p :: P, w :: vs, 0, m, nd, h1, h2, hk => by
    simp at h1 h2; subst h1; subst h2
    show bindC kindOf ((p, w) :: P.zip vs) m p = _
    unfold bindC
    rw [bindC_out fun v hv => (List.nodup_cons.mp nd).1 (List.of_mem_zip hv).1, if_neg hk]
    simp
  | p :: P, w :: vs, i + 1, m, nd, h1, h2, hk => by
    show bindC kindOf ((p, w) :: P.zip vs) m x = _
    unfold bindC
    exact bindC_get (i := i) (List.nodup_cons.mp nd).2 (by simpa using h1) (by simpa using h2) hk
def start (N : List Str) (vs : List V) : St := vs.map some ++ List.replicate (N.length - vs.length) none
def cxOf (CX : CXT) (P : Program) (w : World) (K : PySem.W.Frag) (mg : Str → Option Value) (base : Heap) (N : List Str) (qual : Str) (scope : Scope) (f : Addr) (cd : Value) (A : Around) (outer : List Env) (s : Shared) (H : Hp) (E : XK) : Cx where
  prog := P
  w := w
  K := K
  mg := mg
  base := base
  A := A.deeper (envOfC qual scope s.heap.objs.size f cd)
  N := N
  s₀ := s
  H₀ := H
  env := envOfC qual scope s.heap.objs.size f cd
  outer := outer
  stack := envOfC qual scope s.heap.objs.size f cd :: outer
  ex := []
  calm := true
  fn := fun _ => true
  pn := []
  xe := fun e s' => wpAny (model P w) (A.deeper (envOfC qual scope s.heap.objs.size f cd)) (leaving (envOfC qual scope s.heap.objs.size f cd) e) (fun _ s'' => CX outer H s E e s'') (fun e' s'' => CX outer H s E e' s'') s'
theorem cell_has {sc : Scope} {n : Nat} {x : Str} (h : sc.names.lookup x = some .cell) : ∃ c, (cellsFrom n sc.names []).lookup x = some c := by
  have q := PySem.W.cellsFrom_some sc.names n [] (.inl h)
  exact Option.isSome_iff_exists.mp q
theorem inv_start {CX : CXT} {P : Program} {w : World} {K : PySem.W.Frag} {mg : Str → Option Value} {base : Heap} {N ps : List Str} {qual : Str} {scope : Scope} {f : Addr} {cd : Value} {A : Around} {outer : List Env} {s s1 : Shared} {H : Hp} {E : XK} {us : List Value} {vs : List V}
    (S : FnScope N ps scope) (hd : A.handled = none) (e0 : Env0 P w K mg base A outer s H) (hl : vs.length = ps.length) (r : Vals vs us)
    (x : InCallC s s.heap.objs.size (bindL (envOfC qual scope s.heap.objs.size f cd).kindOf (ps.zip us) fun _ => none) (cellsFrom (s.heap.objs.size + 1) scope.names []) (bindC (envOfC qual scope s.heap.objs.size f cd).kindOf (ps.zip us) fun _ => none) s1) :
    Inv (cxOf CX P w K mg base N qual scope f cd A outer s H E) [] (start N vs) H s1 := by
  have hpl : ps.length ≤ N.length := by have := congrArg List.length S.pre; rw [List.length_take] at this; omega
  obtain ⟨h1, tk, rfl, hk⟩ := x.done
  have noA : ∀ b : Addr, b ∉ (cxOf CX P w K mg base N qual scope f cd A outer s H E).ex := fun b z => absurd (show b ∈ ([] : List Addr) from z) (by simp)
  refine ⟨⟨e0.mod, S.kind, rfl, rfl, Nat.le_refl _, fun y z c h1 h2 => ?_, fun y hy => ?_, fun y c _ h => ?_, fun _ => hd, Around.frames_deeper e0.frames, .inr ⟨rfl, rfl⟩, fun b z => absurd z (noA b), e0.bs, e0.bsz, fun b _ _ => noA b, fun b z => absurd z (noA b), e0.funs, e0.frf⟩,
    rfl, e0.bare, Un.kept hk, ⟨_, x.toInCall.ns, fun i y v h1 h2 h3 => ?_⟩, fun y c h => ⟨_, x.cell y c h⟩, e0.hok.fresh (Nat.le_refl _), fun y c h => ?_, fun p hp => absurd (show p ∈ ([] : List (Addr × Obj)) from hp) (by simp), e0.hok.kept hk, ?_⟩
  · exact name_of_addr x.apart (PySem.mem_of_lookup h1) (PySem.mem_of_lookup h2)
  · have hy : scope.names.lookup y = some .cell ∨ scope.names.lookup y = some .free := hy
    rcases hy with hy | hy
    · exact cell_has hy
    · exact absurd rfl (S.nofree _ (PySem.mem_of_lookup hy))
  · exact Nat.le_of_lt (x.above y c (PySem.mem_of_lookup h))
  · have hi : i < vs.length := by
      unfold start at h2
      by_cases hi : i < vs.length
      · exact hi
      · rw [List.getElem?_append_right (by simpa using hi)] at h2
        rw [List.getElem?_replicate] at h2
        split at h2 <;> cases h2
    have ha : vs[i]? = some v := by
      unfold start at h2
      rw [List.getElem?_append_left (by simpa using hi), List.getElem?_map] at h2
      cases e : vs[i]? with
      | none => rw [e] at h2; cases h2
      | some a => rw [e] at h2; cases h2; rfl
    obtain ⟨u, hu, rv⟩ := r.get ha
    have hp : ps[i]? = some y := by
      rw [← S.pre, List.getElem?_take_of_lt (by omega)]; exact h1
    have ndP : ps.Nodup := by rw [← S.pre]; exact S.nd.sublist (List.take_sublist _ _)
    refine ⟨u, rv, ?_⟩
    rcases S.par y (List.mem_of_getElem? hp) with k | k
    · exact .inl ⟨k, bindL_get ndP hp hu k⟩
    · obtain ⟨c, e⟩ := cell_has (n := s.heap.objs.size + 1) k
      refine .inr ⟨.inl k, c, e, ?_⟩
      have q := x.cell y c e
      rw [bindC_get ndP hp hu (by show scope.names.lookup y ≠ _; rw [k]; decide)] at q
      exact q
  · exact e0.hok.fresh (Nat.le_of_lt (x.above y c (PySem.mem_of_lookup h)))
  · unfold start
    show _ = N.length
    rw [List.length_append, List.length_map, List.length_replicate]
    omega
theorem fn_of {CX : CXT} {P : Program} {w : World} {K : PySem.W.Frag} {mg : Str → Option Value} {base : Heap} {k : Nat} {f : Addr} {name qual : Str} {params : Arguments} {body : List Stmt} {scope : Scope} {dV kV doc pm cdv ct oc : Value} {an od : Option Addr}
    {osl : Array (Option Value)} {N ps : List Str} {sp : Sp} (lk : K.lookup f = some ⟨oc, od, .func (PySem.W.fnOf name qual params body scope dV kV doc pm an cdv ct), osl⟩) (hcd : PySem.W.codeIn K cdv qual = true) (S : FnScope N ps scope)
    (len : ∀ vs H Q E, sp vs H Q E → vs.length = ps.length)
    (hbody : ∀ (A : Around) (outer : List Env) (s : Shared) (H : Hp) (vs : List V) (Q : VK) (E : XK), Room k (A.deeper (envOfC qual scope s.heap.objs.size f cdv)) → sp vs H Q E →
      ∃ t, PSs (cxOf CX P w K mg base N qual scope f cdv A outer s H E) body t ∧ t { nx := fun _ H' => Q .non H', rt := Q } (start N vs) H) :
    FnOk P w K mg base CX (k + 1) f (PySem.W.fnOf name qual params body scope dV kV doc pm an cdv ct) ps sp := by
  refine ⟨len, fun A outer s H args us vs Q E hr e0 hb r hsp => ?_⟩
  have hl := len _ _ _ _ hsp
  have KX : K.In s.heap := e0.mod.kin.keeps fun b o e => (e0.bs b o e).1
  have lim : s.heap.NoLimit := e0.mod.nolimit.keeps fun b o e => (e0.bs b o e).1
  have hkind : ∀ y ∈ ps.zip us, scope.names.lookup y.1 = some .local ∨ (scope.names.lookup y.1 = some .cell ∧ ((cellsFrom (s.heap.objs.size + 1) scope.names []).lookup y.1).isSome = true) := fun ⟨n, v⟩ hy => by
    rcases S.par n (List.of_mem_zip hy).1 with q | q
    · exact .inl q
    · exact .inr ⟨q, PySem.W.cellsFrom_some _ _ _ (.inl q)⟩
  refine codeAny_call_function hr.depth (KX _ _ lk) rfl S.co S.gen rfl (PySem.W.codeRec_of KX hcd) (hb _ _ _ _ ?_)
  refine wpAny_newFunctionEnv_cells S.kind hkind fun env he s1 x => ?_
  subst he
  refine ⟨lim.keeps x.toInCall.keep, codeAny_func ?_⟩
  obtain ⟨t, ht, hq⟩ := hbody A outer s H vs Q E (hr.deeper _) hsp
  have I : Inv (cxOf CX P w K mg base N qual scope f cdv A outer s H E) [] (start N vs) H s1 := inv_start S hr.hd e0 hl r x
  refine wpAny_mono (ht [] s1 (start N vs) H _ I hq) (fun fl s' hs => ?_) fun e s' hs => hs
  have fin : ∀ {σ' : St} {H' : Hp} {v : V} {u : Value}, Inv (cxOf CX P w K mg base N qual scope f cdv A outer s H E) [] σ' H' s' → RelV v u → Q v H' → CE outer P w H s Q u s' :=
    fun {σ' H' v u} J rv q => ⟨v, H', J.os, J.bare, J.base, J.hok, rv, q⟩
  cases fl with
  | ret u =>
    obtain ⟨v, σ', H', J, rv, q⟩ := hs
    exact fin J rv q
  | next =>
    obtain ⟨σ', H', J, q⟩ := hs
    exact fin (v := V.non) (u := Value.none) J rfl q
  | brk =>
    obtain ⟨_, _, _, q⟩ := hs
    exact False.elim q
  | cont =>
    obtain ⟨_, _, _, q⟩ := hs
    exact False.elim q
end L2
namespace L2
open PySem PySem.Spec PyProof.Rows
section
variable {X : Cx} {x : Str} {p pos : Pos} {e : Expr} {es : List Expr} {t : TA} {id T : String} {r : List V → Hp → VK → Prop}
def tCB (r : List V → Hp → VK → Prop) (t : TA) : TE := fun σ H Q => t σ H fun vs H1 => r vs H1 Q
theorem pe_callB (hc : CallR X (.builtin id) r) (hg : Gl X x) (hm : X.mg x = none) (hv : bootBuiltins x = some (.builtin id)) (ha : PA X (e :: es) t) (hn : x ≠ "__name__" := by decide) (hdb : (x == ("__debug__" : Str)) = false := by decide)
    (he : starEach (e :: es) X.env = (false, eval e X.env) :: starEach es X.env := by rfl) (hpl : (backTo pos (starEach es X.env)).any (·.1) = false := by rfl) : PE X (.Call (.Name x p) (e :: es) [] pos) (tCB r t) := by
  intro pins s σ H Q I h
  refine wpAny_Call_Name_kw (ld_blt I hg hm hv ?_ hn hdb)
  exact PyProof.Rows.callWith_builtin1 (thn (ha pos pins s σ H _ I h) fun us s1 ⟨vs, H1, I1, r1, q1⟩ => hc pins s1 σ H1 vs us Q I1 r1 q1) he hpl
theorem pe_callTy (hc : CallR X (.type T) r) (hg : Gl X x) (hm : X.mg x = none) (hv : bootBuiltins x = some (.type T)) (ha : PA X (e :: es) t) (hn : x ≠ "__name__" := by decide) (hdb : (x == ("__debug__" : Str)) = false := by decide)
    (he : starEach (e :: es) X.env = (false, eval e X.env) :: starEach es X.env := by rfl) (hpl : (backTo pos (starEach es X.env)).any (·.1) = false := by rfl) : PE X (.Call (.Name x p) (e :: es) [] pos) (tCB r t) := by
  intro pins s σ H Q I h
  refine wpAny_Call_Name_kw (ld_blt I hg hm hv ?_ hn hdb)
  exact PyProof.Rows.callWith_type1 (thn (ha pos pins s σ H _ I h) fun us s1 ⟨vs, H1, I1, r1, q1⟩ => hc pins s1 σ H1 vs us Q I1 r1 q1) he hpl
end
end L2
namespace HT
open PySem PyProof.Rows
section
variable {prog : Program} {w : World} {A : Around} {E : Value → Shared → Prop} {s : Shared}
def sIx (n d : Nat) : Option Int → Nat
  | none => d
  | some v => if v < 0 then (v + (n : Int)).toNat else min v.toNat n
theorem sIx_none (n d : Nat) : sIx n d none = d := rfl
theorem sIx_nat (n d k : Nat) : sIx n d (some (k : Int)) = min k n := by
  show (if (k : Int) < 0 then ((k : Int) + (n : Int)).toNat else min (k : Int).toNat n) = min k n
  rw [if_neg (by omega), Int.toNat_natCast]
theorem sIx_le (n d : Nat) (hd : d ≤ n) (o : Option Int) : sIx n d o ≤ n := by
  cases o with
  | none => exact hd
  | some v =>
    show (if v < 0 then (v + (n : Int)).toNat else min v.toNat n) ≤ n
    by_cases hv : v < 0
    · rw [if_pos hv]; omega
    · rw [if_neg hv]; exact Nat.min_le_right _ _
theorem clip_eq (v : Int) (n d : Nat) : (if v < 0 then max (v + (n : Int)) 0 else min v (n : Int)) = ((sIx n d (some v) : Nat) : Int) := by
  show (if v < 0 then max (v + (n : Int)) 0 else min v (n : Int)) = (((if v < 0 then (v + (n : Int)).toNat else min v.toNat n) : Nat) : Int)
  by_cases hv : v < 0
  · simp only [if_pos hv]; omega
  · simp only [if_neg hv]; omega
theorem adjust_gen (lo hi : Option Int) (n : Nat) : Builtin.Slice.sliceAdjust lo hi 1 (n : Int) = (((sIx n 0 lo : Nat) : Int), ((sIx n n hi : Nat) : Int)) := by
  have h1 : ¬ ((1 : Int) < 0) := by omega
  unfold Builtin.Slice.sliceAdjust
  simp only [h1, if_false]
  refine Prod.ext ?_ ?_
  · cases lo with
    | none => rfl
    | some v => exact clip_eq v n 0
  · cases hi with
    | none => rfl
    | some v => exact clip_eq v n n
theorem places_gen (i j : Nat) : Builtin.Slice.slicePlaces (i : Int) (j : Int) 1 = j - i := by
  unfold Builtin.Slice.slicePlaces
  have h1 : (1 : Int) > 0 := by omega
  simp only [h1, if_true, Int.ediv_one]
  split <;> omega
theorem slicePart_ {v : Value} {o : Option Int} {Q : Option Int → Shared → Prop} (p : IsPart v o) (h : Q o s) : wpAny (model prog w) A (Builtin.Slice.slicePartIndex v) Q E s := by
  cases p with
  | none => exact slicePart_none h
  | int i t => exact slicePart_int h
theorem sliceApplied_gen {sl : Addr} {vl vu : Value} {lo hi : Option Int} {n : Nat} {Q : Int × Int × Nat → Shared → Prop} (hs : s.heap.IsSliceOf sl vl vu .none) (pl : IsPart vl lo) (pu : IsPart vu hi)
    (h : Q (((sIx n 0 lo : Nat) : Int), 1, sIx n n hi - sIx n 0 lo) s) : wpAny (model prog w) A (Builtin.Slice.sliceApplied (.ref sl) (pure (n : Int))) Q E s := by
  obtain ⟨os, hos, hcs, hds⟩ := id hs
  unfold Builtin.Slice.sliceApplied Builtin.Slice.sliceFields
  refine wpAny_bind (wpAny_bind (wpAny_field hos hds (x := vl) rfl (wpAny_bind (wpAny_field hos hds (x := vu) rfl (wpAny_bind (wpAny_field hos hds (x := .none) rfl (wpAny_pure ?_)))))))
  refine wpAny_bind (slicePart_none ?_)
  show wpAny _ _ (if ((1 : Int) == 0) = true then _ else _) _ _ s
  rw [if_neg (by decide)]
  refine wpAny_bind (slicePart_ pl (wpAny_bind (slicePart_ pu (wpAny_bind (wpAny_pure ?_)))))
  show wpAny _ _ (match Builtin.Slice.sliceAdjust lo hi 1 (n : Int) with | (lo, hi) => pure (lo, (1 : Int), Builtin.Slice.slicePlaces lo hi 1)) _ _ s
  rw [adjust_gen lo hi n]
  show wpAny _ _ (pure (((sIx n 0 lo : Nat) : Int), (1 : Int), Builtin.Slice.slicePlaces ((sIx n 0 lo : Nat) : Int) ((sIx n n hi : Nat) : Int) 1)) _ _ s
  rw [places_gen]
  exact wpAny_pure h
theorem pick_gen (xs : Array Value) (i k : Nat) : ((List.range k).filterMap fun (m : Nat) => xs[((i : Int) + (m : Int) * 1).toNat]?).toArray = ((xs.toList.drop i).take k).toArray := by
  have e : (fun (m : Nat) => xs[((i : Int) + (m : Int) * 1).toNat]?) = fun m => xs[i + m]? := by
    funext m
    have : ((i : Int) + (m : Int) * 1).toNat = i + m := by omega
    rw [this]
  rw [e]
  have := pick_run xs i k
  rw [List.filterMap_map] at this
  have e2 : ((fun x => xs[x]?) ∘ fun x => i + x) = fun m => xs[i + m]? := rfl
  rw [e2] at this
  rw [this]
theorem getItem_tuple_cut {t sl : Addr} {items : Array Value} {vl vu : Value} {lo hi : Option Int} {Q : Value → Shared → Prop} (ht : IsTup s.heap t items) (hs : s.heap.IsSliceOf sl vl vu .none) (pl : IsPart vl lo) (pu : IsPart vu hi)
    (hw : ¬ (sIx items.size 0 lo = 0 ∧ sIx items.size items.size hi = items.size))
    (h : Q (.ref s.heap.objs.size) { s with heap := s.heap.push { cls := .type "tuple", data := .seq ((items.toList.drop (sIx items.size 0 lo)).take (sIx items.size items.size hi - sIx items.size 0 lo)).toArray } })
    (hsz : items.size ≤ sizeLine) : wpAny (model prog w) A (getItem (.ref t) (.ref sl)) Q E s := by
  have htake : sizeOk (.seq ((items.toList.drop (sIx items.size 0 lo)).take (sIx items.size items.size hi - sIx items.size 0 lo)).toArray) := by
    show ((items.toList.drop (sIx items.size 0 lo)).take (sIx items.size items.size hi - sIx items.size 0 lo)).toArray.size ≤ sizeLine
    rw [List.size_toArray, List.length_take, List.length_drop, Array.length_toList]
    omega
  have hj : sIx items.size items.size hi ≤ items.size := sIx_le _ _ (Nat.le_refl _) hi
  obtain ⟨os, hos, hcs, hds⟩ := id hs
  have hTs : s.TypeIs (.ref sl) "slice" := ⟨os, hos, hcs⟩
  unfold getItem
  try with_reducible refine wpAny_holding ?_
  first | refine wpAny_bind (wpAny_pure ?_) | skip
  refine wpAny_bind (wpAny_sequenceKey ht.typeIs (by decide) ?_)
  refine wpAny_bind (wpAny_callSpecial?_slot (name := Str.ofString "__getitem__") ht.typeIs PyProof.Rows.slot_tuple_getitem
    (wpAny_call_entry PyProof.Rows.slot_tuple_getitem ht.typeIs entry_tuple_getitem ?_ (args_tuple_getitem _ _)))
  show wpAny _ _ (Builtin.Tuple.tupleItemsOf (.ref t) >>= _) _ _ s
  refine wpAny_bind (tupleItemsOf_ ht ?_)
  refine wpAny_bind (wpAny_typeOf hTs ?_)
  rw [if_pos (by decide)]
  refine wpAny_bind (sliceApplied_gen hs pl pu ?_)
  have hno : ¬ ((((sIx items.size 0 lo : Nat) : Int) == 0 && (1 : Int) == 1 && (sIx items.size items.size hi - sIx items.size 0 lo) == items.size) = true) := by
    intro q
    rw [Bool.and_eq_true, Bool.and_eq_true] at q
    have q1 : ((sIx items.size 0 lo : Nat) : Int) = 0 := eq_of_beq q.1.1
    have q2 : sIx items.size items.size hi - sIx items.size 0 lo = items.size := eq_of_beq q.2
    exact hw ⟨by omega, by omega⟩
  show wpAny _ _ (if (((sIx items.size 0 lo : Nat) : Int) == 0 && (1 : Int) == 1 && (sIx items.size items.size hi - sIx items.size 0 lo) == items.size) = true then _ else _) _ _ s
  rw [if_neg hno, pick_gen]
  first
    | exact wpAny_bind (m := Builtin.Tuple.tupleExact _) (wpAny_newObj_type (wpAny_pure ⟨_, rfl, wpAny_pure h⟩) htake)
    | exact wpAny_bind (m := Builtin.Tuple.tupleExact _) (wpAny_newObj_type (wpAny_bind (wpAny_pure (wpAny_pure ⟨_, rfl, wpAny_pure h⟩))) htake)
    | exact wpAny_bind (wpAny_bind (m := Builtin.Tuple.tupleExact _) (wpAny_newObj_type (wpAny_pure (wpAny_pure ⟨_, rfl, wpAny_pure h⟩)) htake))
    | exact wpAny_bind (wpAny_bind (m := Builtin.Tuple.tupleExact _) (wpAny_newObj_type (wpAny_pure ⟨_, rfl, wpAny_pure h⟩) htake))
end
end HT
namespace L2
open PySem PySem.Spec PyProof.Rows
abbrev TO := St → Hp → (Option Int → Hp → Prop) → Prop
def PO (X : Cx) (e : Option Expr) (t : TO) : Prop :=
  ∀ (pins : List (Addr × Obj)) (s : Shared) (σ : St) (H : Hp) (Q : Option Int → Hp → Prop), Inv X pins σ H s → t σ H Q →
    wpAny (model X.prog X.w) X.A (evalPart e X.env) (fun u s' => ∃ o H', Inv X pins σ H' s' ∧ IsPart u o ∧ Q o H') X.xe s
def tNoPart : TO := fun _ H Q => Q none H
def tPart (t : TE) : TO := fun σ H Q => t σ H fun x H1 => ∃ i, x = .int i ∧ Q (some i) H1
theorem intsAre_of {ns : List Int} : ∀ {us : List Value}, Vals (ns.map V.int) us → IntsAre us ns := by
  induction ns with
  | nil => intro us r; rw [List.map_nil] at r; cases r; exact .nil
  | cons n ns ih =>
    intro us r
    rw [List.map_cons] at r
    cases r with
    | cons r1 r2 =>
      obtain ⟨t, e⟩ := r1
      subst e
      exact .cons n t (ih r2)
section
variable {X : Cx} {e : Expr} {te : TE} {lo hi : Option Expr} {tl th : TO} {pos p2 : Pos}
theorem po_none : PO X none tNoPart := by
  intro pins s σ H Q I h
  rw [evalPart_none]
  exact wpAny_pure ⟨none, H, I, .none, h⟩
theorem po_some (h : PE X e te) : PO X (some e) (tPart te) := by
  intro pins s σ H Q I hw
  rw [evalPart_some]
  refine thn (h pins s σ H _ I hw) fun u s1 ⟨x, H1, I1, r1, q1⟩ => ?_
  obtain ⟨i, rfl, q⟩ := q1
  obtain ⟨t, rfl⟩ := r1
  exact ⟨some i, H1, I1, .int i t, q⟩
def SlR (X : Cx) (r : V → Option Int → Option Int → Hp → VK → Prop) : Prop :=
  ∀ (pins : List (Addr × Obj)) (s : Shared) (σ : St) (H : Hp) (x : V) (v vl vu : Value) (lo hi : Option Int) (sl : Addr) (Q : VK), Inv X pins σ H s → RelV x v → s.heap.IsSliceOf sl vl vu .none → IsPart vl lo → IsPart vu hi → r x lo hi H Q →
    ∃ T id, typeLookup (.type T) "__getitem__" = pure (some (.builtin id)) ∧ s.TypeIs v T ∧ wpAny (model X.prog X.w) X.A (getItem v (.ref sl)) (EP X pins σ Q) X.xe s
def tSl (r : V → Option Int → Option Int → Hp → VK → Prop) (te : TE) (tl th : TO) : TE := fun σ H Q => te σ H fun x H1 => tl σ H1 fun l H2 => th σ H2 fun u H3 => r x l u H3 Q
theorem pe_slice {r : V → Option Int → Option Int → Hp → VK → Prop} (hr : SlR X r) (he : PE X e te) (hl : PO X lo tl) (hu : PO X hi th) : PE X (.Subscript e (.Slice lo hi none p2) pos) (tSl r te tl th) := by
  intro pins s σ H Q I h
  refine Subscript_ (thn (he pins s σ H _ I h) fun v s1 ⟨x, H1, I1, r1, q1⟩ => ?_)
  refine wpAny_Slice (thn (hl pins s1 σ H1 _ I1 q1) fun vl s2 ⟨l, H2, I2, pl, q2⟩ => thn (hu pins s2 σ H2 _ I2 q2) fun vu s3 ⟨u, H3, I3, pu, q3⟩ => ?_)
  rw [evalPart_none]
  refine wpAny_pure ?_
  have I4 : Inv X pins σ H3 { s3 with heap := s3.heap.push { cls := .type "slice", data := .fields #[vl, vu, .none] } } := I3.kept (t' := s3.toks) fun b ob q => Heap.get?_push_of_some _ q
  obtain ⟨T, id, hT, ht, hg⟩ := hr pins { s3 with heap := s3.heap.push { cls := .type "slice", data := .fields #[vl, vu, .none] } } σ H3 x v vl vu l u s3.heap.objs.size Q I4 r1 (Heap.IsSliceOf.new ..) pl pu q3
  show wpAny (model X.prog X.w) X.A (subscriptTail e (.Slice lo hi none p2) v (.ref s3.heap.objs.size)) (EP X pins σ Q) X.xe { s3 with heap := s3.heap.push { cls := .type "slice", data := .fields #[vl, vu, .none] } }
  exact tail_any (ops := [.ref s3.heap.objs.size, v]) ht hT hg (by with_unfolding_all rfl)
def cutV (xs : List V) (lo hi : Option Int) : List V := (xs.drop (HT.sIx xs.length 0 lo)).take (HT.sIx xs.length xs.length hi - HT.sIx xs.length 0 lo)
theorem cutV_length (xs : List V) (lo hi : Option Int) : (cutV xs lo hi).length ≤ xs.length := by
  unfold cutV
  rw [List.length_take, List.length_drop]
  omega
def rSlT (K : PySem.W.Frag) : V → Option Int → Option Int → Hp → VK → Prop := fun x lo hi H Q => ∃ a xs, x = .ref a ∧ SqT K H a xs ∧
  ¬ (HT.sIx xs.length 0 lo = 0 ∧ HT.sIx xs.length xs.length hi = xs.length) ∧ ∀ p, H p = none → Q (.ref p) (upd H p (.tup (cutV xs lo hi)))
theorem sl_tup : SlR X (rSlT X.K) := by
  intro pins s σ H x v vl vu lo hi sl Q I rx hs pl pu h
  obtain ⟨a, xs, rfl, hx, hw, q⟩ := h
  cases rx
  obtain ⟨its, r, ht, hz⟩ := I.tuple hx
  have hlen : its.toArray.size = xs.length := by rw [List.size_toArray]; exact r.length.symm
  refine ⟨"tuple", _, PyProof.Rows.slot_tuple_getitem.lookup, ht.typeIs, ?_⟩
  refine HT.getItem_tuple_cut ht hs pl pu (by rw [hlen]; exact hw) ?_ (by rw [hlen]; exact hz)
  rw [hlen]
  refine ⟨.ref s.heap.objs.size, _, I.laid (t' := s.toks) (o := .tup (cutV xs lo hi)) (fun b ob q => Heap.get?_push_of_some _ q) (Nat.le_refl _) ?_, rfl, q _ (I.hok.fresh (Nat.le_refl _))⟩
  exact ⟨Nat.le_trans (cutV_length xs lo hi) hz, _, (r.drop (HT.sIx xs.length 0 lo)).take (HT.sIx xs.length xs.length hi - HT.sIx xs.length 0 lo), IsTup.new _ _⟩
end
end L2
namespace L2
open PySem PySem.Spec PyProof.Rows
def ixN (n : Nat) (i : Int) : Option Nat := if 0 ≤ i then (if i < n then some i.toNat else none) else if -(n : Int) ≤ i then some (i + n).toNat else none
def atI {α : Type} (xs : List α) (i : Int) : Option α := (ixN xs.length i).bind fun j => xs[j]?
theorem ixN_seq {n : Nat} {i : Int} {j : Nat} (h : ixN n i = some j) : seqIndex? i n = some j ∧ j < n ∧ -(n : Int) ≤ i ∧ i < n := by
  unfold ixN at h
  by_cases h0 : 0 ≤ i
  · rw [if_pos h0] at h
    by_cases h1 : i < n
    · rw [if_pos h1] at h
      have e : i.toNat = j := Option.some.inj h
      exact ⟨by rw [seqIndex_of h0 h1, e], by omega, by omega, h1⟩
    · rw [if_neg h1] at h; cases h
  · rw [if_neg h0] at h
    by_cases h1 : -(n : Int) ≤ i
    · rw [if_pos h1] at h
      have e : (i + n).toNat = j := Option.some.inj h
      exact ⟨by rw [seqIndex_neg (by omega) h1, e], by omega, h1, by omega⟩
    · rw [if_neg h1] at h; cases h
theorem atI_get {α : Type} {xs : List α} {i : Int} {v : α} (h : atI xs i = some v) : ∃ j, seqIndex? i xs.length = some j ∧ xs[j]? = some v ∧ j < xs.length ∧ -(xs.length : Int) ≤ i ∧ i < xs.length := by
  unfold atI at h
  cases e : ixN xs.length i with
  | none => rw [e] at h; cases h
  | some j =>
    rw [e] at h
    obtain ⟨h1, h2, h3, h4⟩ := ixN_seq e
    exact ⟨j, h1, h, h2, h3, h4⟩
theorem atI_nat {α : Type} {xs : List α} {j : Nat} {v : α} (h : xs[j]? = some v) : atI xs (j : Int) = some v := by
  have hj : j < xs.length := (List.getElem?_eq_some_iff.mp h).1
  have e : ixN xs.length (j : Int) = some j := by
    unfold ixN
    rw [if_pos (by omega), if_pos (by omega)]; simp
  unfold atI; rw [e]; exact h
def PlainIx (b : Expr) : Prop := ∀ o i, subscripted b false o i = operate [o, i] (getItem o i)
def IxR (X : Cx) (r : R2) : Prop :=
  ∀ (value slice : Expr) (pins : List (Addr × Obj)) (s : Shared) (σ : St) (H : Hp) (x y : V) (v u : Value) (Q : VK), Inv X pins σ H s → RelV x v → RelV y u → r x y H Q →
    subscripted slice false v u = operate [v, u] (getItem v u) → wpAny (model X.prog X.w) X.A (subscriptTail value slice v u) (EP X pins σ Q) X.xe s
def MtR (X : Cx) (id : String) (r : V → List V → Hp → VK → Prop) : Prop :=
  ∀ (pins : List (Addr × Obj)) (s : Shared) (σ : St) (H : Hp) (x : V) (xs : List V) (v : Value) (us : List Value) (Q : VK), Inv X pins σ H s → RelV x v → Vals xs us → r x xs H Q →
    wpAny (model X.prog X.w) X.A (call (.builtin id) (v :: us)) (EP X pins σ Q) X.xe s
section
variable {X : Cx} {a b : Expr} {ta tb : TE} {pos : Pos}
theorem pe_ix {r : R2} (hr : IxR X r) (ha : PE X a ta) (hb : PE X b tb) (hs : PlainIx b) : PE X (.Subscript a b pos) (tOp r ta tb) := by
  intro pins s σ H Q I h
  exact Subscript_ (binT ha hb I h fun v u s2 x y H2 I2 rx ry q => hr a b pins s2 σ H2 x y v u Q I2 rx ry q (hs _ _))
def rIxL (K : PySem.W.Frag) : R2 := fun x y H Q => ∃ p xs i v, x = .ref p ∧ y = .int i ∧ SqL K H p xs ∧ atI xs i = some v ∧ Q v H
def rIxT (K : PySem.W.Frag) : R2 := fun x y H Q => ∃ p xs i v, x = .ref p ∧ y = .int i ∧ SqT K H p xs ∧ atI xs i = some v ∧ Q v H
def rIxS : R2 := fun x y H Q => ∃ z i c, x = .str z ∧ y = .int i ∧ z.length ≤ sizeLine ∧ atI z.cps.toList i = some c ∧ Q (.str ⟨#[c]⟩) H
theorem ix_list : IxR X (rIxL X.K) := by
  intro value slice pins s σ H x y v u Q I rx ry h hs
  obtain ⟨p, xs, i, z, rfl, rfl, hq, he, q⟩ := h
  cases rx
  obtain ⟨t, rfl⟩ := ry
  obtain ⟨its, r, pl, hz⟩ := I.list hq
  obtain ⟨j, h1, h2, h3, h4, h5⟩ := atI_get he
  obtain ⟨w, ew, rw'⟩ := r.get h2
  have hl := r.length
  have hn := line63
  have fin : EP X pins σ Q w s := ⟨z, H, I, rw', q⟩
  by_cases h0 : 0 ≤ i
  · have hj : i.toNat = j := by
      rw [seqIndex_of h0 h5] at h1
      exact Option.some.inj h1
    exact item_listR pl.isList h0 (by omega) (by rw [hj]; simpa using ew) fin hs
  · have hj : (i + (its.toArray.size : Int)).toNat = j := by
      rw [seqIndex_neg (by omega) h4] at h1
      rw [List.size_toArray, ← hl]
      exact Option.some.inj h1
    exact subscriptTail_builtinR (x := w) pl.isList.typeIs slot_list_getitem.lookup
      (wpAny_getItem_list_neg (Q := fun r s' => r = w ∧ EP X pins σ Q r s') pl.isList (by omega) (by rw [List.size_toArray] <;> omega) (by omega) (by rw [hj]; simpa using ew) ⟨rfl, fin⟩) hs
theorem ix_tup : IxR X (rIxT X.K) := by
  intro value slice pins s σ H x y v u Q I rx ry h hs
  obtain ⟨p, xs, i, z, rfl, rfl, hq, he, q⟩ := h
  cases rx
  obtain ⟨t, rfl⟩ := ry
  obtain ⟨its, r, pl, hz⟩ := I.tuple hq
  obtain ⟨j, h1, h2, h3, h4, h5⟩ := atI_get he
  obtain ⟨w, ew, rw'⟩ := r.get h2
  have hl := r.length
  have hn := line63
  have fin : EP X pins σ Q w s := ⟨z, H, I, rw', q⟩
  exact subscriptTail_builtinR (x := w) pl.typeIs slot_tuple_getitem.lookup
    (getItem_tuple (j := j) (Q := fun r s' => r = w ∧ EP X pins σ Q r s') pl (by omega) (by omega) (by rw [List.size_toArray, ← hl]; exact h1) (by simpa using ew) ⟨rfl, fin⟩) hs
theorem ix_str : IxR X rIxS := by
  intro value slice pins s σ H x y v u Q I rx ry h hs
  obtain ⟨z, i, c, rfl, rfl, hz, he, q⟩ := h
  obtain ⟨t, rfl⟩ := rx
  obtain ⟨t', rfl⟩ := ry
  obtain ⟨j, h1, h2, h3, h4, h5⟩ := atI_get he
  have hl : z.cps.toList.length = z.length := by simp [Str.length]
  rw [hl] at h1 h4 h5
  have hn := line63
  exact tail_any (typeIs_str s z t) slot_str_getitem.lookup (getItem_str (c := c) (by
    have e1 : decide (i < -(2 ^ 63 : Int)) = false := decide_eq_false (by omega)
    have e2 : decide (i ≥ 2 ^ 63) = false := decide_eq_false (by omega)
    rw [e1, e2, Bool.or_false]) (by rw [h1]; simpa using h2) ⟨.str ⟨#[c]⟩, H, I.tok _, ⟨_, rfl⟩, q⟩) hs
def flatV : V → Bool
  | .non => true
  | .bl _ => true
  | .int _ => true
  | .str _ => true
  | _ => false
def eqV : V → V → Bool
  | .non, .non => true
  | .bl a, .bl b => a == b
  | .bl a, .int b => (if a then 1 else 0) == b
  | .int a, .bl b => a == (if b then 1 else 0)
  | .int a, .int b => a == b
  | .str a, .str b => a == b
  | _, _ => false
theorem eqAt_V {A : Around} {s : Shared} {y x : V} {u v : Value} (ry : RelV y u) (rx : RelV x v) (fy : flatV y = true) (fx : flatV x = true) : SeqAt.EqAt A s u v (eqV y x) := by
  cases y with
  | non =>
    cases ry
    cases x with
    | non => cases rx; exact SeqAt.EqAt.same _
    | bl b => cases rx; exact SeqAt.EqAt.none_bool b
    | int b => obtain ⟨t, rfl⟩ := rx; exact SeqAt.EqAt.none_int b t
    | str b => obtain ⟨t, rfl⟩ := rx; exact SeqAt.EqAt.none_str b t
    | _ => exact absurd (show false = true from fx) Bool.false_ne_true
  | bl a =>
    cases ry
    cases x with
    | non => cases rx; exact SeqAt.EqAt.bool_none a
    | bl b => cases rx; exact SeqAt.EqAt.bool_bool a b
    | int b => obtain ⟨t, rfl⟩ := rx; exact SeqAt.EqAt.bool_int a b t
    | str b => obtain ⟨t, rfl⟩ := rx; exact SeqAt.EqAt.bool_str a b t
    | _ => exact absurd (show false = true from fx) Bool.false_ne_true
  | int a =>
    obtain ⟨t', rfl⟩ := ry
    cases x with
    | non => cases rx; exact SeqAt.EqAt.int_none a t'
    | bl b => cases rx; exact SeqAt.EqAt.int_bool a t' b
    | int b => obtain ⟨t, rfl⟩ := rx; exact SeqAt.EqAt.int_int a t' b t
    | str b => obtain ⟨t, rfl⟩ := rx; exact SeqAt.EqAt.int_str a t' b t
    | _ => exact absurd (show false = true from fx) Bool.false_ne_true
  | str a =>
    obtain ⟨t', rfl⟩ := ry
    cases x with
    | non => cases rx; exact SeqAt.EqAt.str_none a t'
    | bl b => cases rx; exact SeqAt.EqAt.str_bool a t' b
    | int b => obtain ⟨t, rfl⟩ := rx; exact SeqAt.EqAt.str_int a t' b t
    | str b => obtain ⟨t, rfl⟩ := rx; exact SeqAt.EqAt.str_str a t' b t
    | _ => exact absurd (show false = true from fx) Bool.false_ne_true
  | _ => exact absurd (show false = true from fy) Bool.false_ne_true
def eqU (x : V) (u : Value) : Bool := match u with
  | .none => eqV .non x
  | .bool b => eqV (.bl b) x
  | .int i _ => eqV (.int i) x
  | .str z _ => eqV (.str z) x
  | _ => false
theorem eqU_of {x y : V} {u : Value} (r : RelV y u) (f : flatV y = true) : eqU x u = eqV y x := by
  cases y with
  | non => cases r; rfl
  | bl b => cases r; rfl
  | int i => obtain ⟨t, rfl⟩ := r; rfl
  | str z => obtain ⟨t, rfl⟩ := r; rfl
  | _ => exact absurd (show false = true from f) Bool.false_ne_true
theorem any_eqU {x : V} : ∀ {xs : List V} {us : List Value}, Vals xs us → xs.all flatV = true → us.any (eqU x) = xs.any fun y => eqV y x
  | _, _, .nil, _ => rfl
  | y :: xs, u :: us, .cons r t, f => by
    rw [List.all_cons, Bool.and_eq_true] at f
    rw [List.any_cons, List.any_cons, eqU_of r f.1, any_eqU t f.2]
theorem mem_eqAt {A : Around} {s : Shared} {x : V} {v : Value} (rx : RelV x v) (fx : flatV x = true) : ∀ {xs : List V} {us : List Value}, Vals xs us → xs.all flatV = true → ∀ u ∈ us, SeqAt.EqAt A s u v (eqU x u)
  | _, _, .nil, _ => fun u hu => by cases hu
  | y :: xs, u :: us, .cons r t, f => fun u' hu => by
    rw [List.all_cons, Bool.and_eq_true] at f
    rcases List.mem_cons.mp hu with rfl | hu
    · rw [eqU_of r f.1]; exact eqAt_V r rx f.1 fx
    · exact mem_eqAt rx fx t f.2 u' hu
def inV (x : V) (xs : List V) : Bool := xs.any fun y => eqV y x
def rIn (K : PySem.W.Frag) (neg : Bool) : R2 := fun x y H Q => ∃ p xs, y = .ref p ∧ (SqL K H p xs ∨ SqT K H p xs) ∧ flatV x = true ∧ xs.all flatV = true ∧ Q (.bl (if neg then !inV x xs else inV x xs)) H
theorem op_in_seq : OpR X (compareOp .In) (rIn X.K false) := by
  intro pins s σ H x y v u Q I rx ry h
  obtain ⟨p, xs, rfl, hq, fx, fs, q⟩ := h
  cases ry
  rcases hq with hq | hq
  · obtain ⟨its, r, pl, hz⟩ := I.list hq
    refine SeqAt.in_listAt (eqU x) pl.isList (fun w hw => mem_eqAt rx fx r fs w (by simpa using hw)) ⟨.bl _, H, I, rfl, ?_⟩
    rw [show its.toArray.any (eqU x) = its.any (eqU x) by simp, any_eqU r fs]
    exact q
  · obtain ⟨its, r, pl, hz⟩ := I.tuple hq
    refine SeqAt.in_tupleAt (eqU x) pl (fun w hw => mem_eqAt rx fx r fs w (by simpa using hw)) ⟨.bl _, H, I, rfl, ?_⟩
    rw [show its.toArray.any (eqU x) = its.any (eqU x) by simp, any_eqU r fs]
    exact q
theorem call_len_seq : CallR X (.builtin "len") (fun xs H Q => ∃ p ys, xs = [.ref p] ∧ (SqL X.K H p ys ∨ SqT X.K H p ys) ∧ Q (.int ys.length) H) := by
  intro pins s σ H xs us Q I r h
  obtain ⟨p, ys, rfl, hq, q⟩ := h
  obtain ⟨u, rfl, rx⟩ := vals1 r
  cases rx
  have hn := line63
  rcases hq with hq | hq
  · obtain ⟨its, r', pl, hz⟩ := I.list hq
    have hlen := r'.length
    exact Calls.call_len_list pl.isList (by simp only [List.size_toArray] <;> omega) ⟨.int ys.length, H, I.tok _, ⟨s.toks + 1, by rw [List.size_toArray, hlen]⟩, q⟩
  · obtain ⟨its, r', pl, hz⟩ := I.tuple hq
    have hlen := r'.length
    exact len_tuple pl (by simp only [List.size_toArray] <;> omega) ⟨.int ys.length, H, I.tok _, ⟨s.toks + 1, by rw [List.size_toArray, hlen]⟩, q⟩
theorem call_len_str : CallR X (.builtin "len") (fun xs H Q => ∃ z, xs = [.str z] ∧ z.length ≤ sizeLine ∧ Q (.int z.length) H) := by
  intro pins s σ H xs us Q I r h
  obtain ⟨z, rfl, hz, q⟩ := h
  obtain ⟨u, rfl, t, rfl⟩ := vals1 r
  have hn := line63
  exact len_str (by omega) ⟨.int z.length, H, I.tok _, ⟨_, rfl⟩, q⟩
def tyV (K : PySem.W.Frag) (T : String) (x : V) (H : Hp) : Prop := match x with
  | .str _ => T = "str"
  | .int _ => T = "int"
  | .ref p => (T = "list" ∧ ∃ xs, SqL K H p xs) ∨ (T = "tuple" ∧ ∃ o, K.lookup p = some o ∧ o.cls = .type "tuple" ∧ o.dict = none) ∨
      (T = "dict" ∧ ((∃ kvs, H p = some (.dK kvs)) ∨ ∃ kvs, H p = some (.dT kvs))) ∨ (T = "set" ∧ ∃ S n, H p = some (.set S n))
  | _ => False
theorem tyV_is {pins : List (Addr × Obj)} {σ : St} {H : Hp} {s : Shared} {T : String} {x : V} {v : Value} (I : Inv X pins σ H s) (r : RelV x v) (ty : tyV X.K T x H) :
    s.TypeIs v T ∧ ∀ a, v = .ref a → ∃ ob, s.heap.get? a = some ob ∧ ob.dict = none := by
  cases x with
  | str z =>
    obtain ⟨t, rfl⟩ := r
    cases (show T = "str" from ty)
    exact ⟨typeIs_str s z t, fun _ e => nomatch e⟩
  | int i =>
    obtain ⟨t, rfl⟩ := r
    cases (show T = "int" from ty)
    exact ⟨typeIs_int s i t, fun _ e => nomatch e⟩
  | ref p =>
    cases r
    rcases ty with ⟨rfl, xs, hq⟩ | ⟨rfl, o, hk, hc, hd⟩ | ⟨rfl, hk⟩ | ⟨rfl, S, n, hk⟩
    · obtain ⟨its, _, pl, _⟩ := I.list hq
      refine ⟨pl.isList.typeIs, fun a e => ?_⟩
      cases e
      obtain ⟨o, n, e, c, hd, _⟩ := pl
      exact ⟨o, e, hd⟩
    · refine ⟨⟨o, I.kIn p o hk, hc⟩, fun a e => ?_⟩
      cases e
      exact ⟨o, I.kIn _ o hk, hd⟩
    · have z : ∃ o, s.heap.get? p = some o ∧ o.ExactDict := by
        rcases hk with ⟨kvs, hk⟩ | ⟨kvs, hk⟩
        · obtain ⟨_, _, _, _, o, _, _, e, ex, _⟩ := I.hok p _ hk
          exact ⟨o, e, ex⟩
        · obtain ⟨_, _, _, _, o, _, _, e, ex, _⟩ := I.hok p _ hk
          exact ⟨o, e, ex⟩
      obtain ⟨o, e, ex⟩ := z
      refine ⟨⟨o, e, ex.1⟩, fun a e2 => ?_⟩
      cases e2
      exact ⟨o, e, ex.2.1⟩
    · obtain ⟨o, _, _, _, e, ex, _⟩ := I.hok p _ hk
      refine ⟨⟨o, e, ex.1⟩, fun a e2 => ?_⟩
      cases e2
      exact ⟨o, e, ex.2.1⟩
  | _ => exact False.elim ty
def tBM0 (K : PySem.W.Frag) (T : String) (r : V → List V → Hp → VK → Prop) (to : TE) : TE := fun σ H Q => to σ H fun x H1 => tyV K T x H1 ∧ r x [] H1 Q
def tBM (K : PySem.W.Frag) (T : String) (r : V → List V → Hp → VK → Prop) (to : TE) (t : TA) : TE := fun σ H Q => to σ H fun x H1 => tyV K T x H1 ∧ t σ H1 fun xs H2 => r x xs H2 Q
variable {o e : Expr} {es : List Expr} {to : TE} {t : TA} {name : Str} {apos cpos : Pos} {T id : String} {r : V → List V → Hp → VK → Prop}
theorem pe_bm0 (pa : PlainAttrs T) (slot : Slot T name id) (hty : typeOf (.builtin id) = pure (.type "method_descriptor")) (hm : MtR X id r) (ho : PE X o to)
    (hbase : attributeBase o name X.env (eval o X.env) = eval o X.env := by rfl) (hline : (apos.endLine == cpos.line) = true := by rfl) : PE X (.Call (.Attribute o name apos) [] [] cpos) (tBM0 X.K T r to) := by
  intro pins s σ H Q I h
  refine wpAny_Call_method0_late hbase hline (thn (ho pins s σ H _ I h) fun v s1 ⟨x, H1, I1, r1, ty, q1⟩ => ?_)
  obtain ⟨h1, h2⟩ := tyV_is I1 r1 ty
  exact ⟨T, id, pa, slot, hty, h1, h2, Calls.callWith_builtin rfl (PySem.evalArgs_none (hm pins s1 σ H1 x [] v [] Q I1 r1 .nil q1))⟩
theorem pe_bm (pa : PlainAttrs T) (slot : Slot T name id) (hty : typeOf (.builtin id) = pure (.type "method_descriptor")) (hm : MtR X id r) (ho : PE X o to) (ha : PA X (e :: es) t)
    (hbase : attributeBase o name X.env (eval o X.env) = eval o X.env := by rfl)
    (hfew : ((backTo cpos (starEach (e :: es) X.env)).all (fun x => !x.1) && (backToKw cpos (keywordEach [] X.env)).all (fun x => x.1.isSome)
      && decide ((e :: es).length + ([] : List Keyword).length + (if ([] : List Keyword).isEmpty then 0 else 1) < 30)) = true := by rfl)
    (hline : (apos.endLine == cpos.line) = true := by rfl) (hs : starEach (e :: es) X.env = (false, eval e X.env) :: starEach es X.env := by rfl) (hplain : (backTo cpos (starEach es X.env)).any (·.1) = false := by rfl) :
    PE X (.Call (.Attribute o name apos) (e :: es) [] cpos) (tBM X.K T r to t) := by
  intro pins s σ H Q I h
  refine wpAny_Call_method_late hbase hfew hline rfl (thn (ho pins s σ H _ I h) fun v s1 ⟨x, H1, I1, r1, ty, q1⟩ => ?_)
  obtain ⟨h1, h2⟩ := tyV_is I1 r1 ty
  refine ⟨T, id, pa, slot, hty, h1, h2, ?_⟩
  have hA := ha cpos pins s1 σ H1 _ I1 q1
  rw [hs] at hA ⊢
  refine Calls.callWith_builtin (by show (false || (backTo cpos (starEach es X.env)).any (·.1)) = false; rw [hplain] <;> rfl) (Calls.evalArgs_plain ?_)
  exact thn hA fun us s2 ⟨vs, H2, I2, r2, q2⟩ => hm pins s2 σ H2 x vs v us Q I2 r1 r2 q2
/- xs.append(e), list.index on a module's tuple .. are MtR facts of 06m -/
end
end L2
namespace L2
open PySem PySem.Spec PyProof.Rows
def MtM (X : Cx) (id : String) (r : V → List V → Hp → VK → Prop) : Prop :=
  ∀ (pins : List (Addr × Obj)) (s : Shared) (σ : St) (H : Hp) (x : V) (xs : List V) (v : Value) (us : List Value) (Q : VK), Inv X pins σ H s → RelV x v → Vals xs us → r x xs H Q →
    wpAny (model X.prog X.w) X.A (call (.builtin id) (v :: us)) (EP X pins σ Q) X.xe s
theorem Vals.one : ∀ {x : V} {us : List Value}, Vals [x] us → ∃ u, us = [u] ∧ RelV x u
  | _, _, .cons r .nil => ⟨_, rfl, r⟩
section
variable {X : Cx} {pins : List (Addr × Obj)} {σ : St} {H : Hp} {s : Shared} {l b : Addr} {xs ys zs : List V}
theorem Inv.lset {its its' : List Value} {n : Nat} {f : Array Value → Array Value} {t' : Nat} (I : Inv X pins σ H s) (hH : H l = some (.lst xs))
    (e : s.heap.get? l = some { cls := .type "list", data := .seq its.toArray n }) (hf : f its.toArray = its'.toArray) (hv : Vals ys its') (hz : ys.length ≤ sizeLine) :
    Inv X pins σ (upd H l (.lst ys)) { s with heap := s.heap.update l (Obj.mapSeq f), toks := t' } := by
  have q := PySem.IsL.update e f
  rw [hf] at q
  refine I.write (x := l) (e := l) (by rw [hH]; exact trivial) (.inl rfl) (fun b' u hb hu => (Heap.get?_update_other s.heap (Obj.mapSeq f) (Ne.symm hb)).trans hu) ⟨_, q⟩ ?_
  exact ⟨hz, its', _, hv, q⟩
theorem Inv.lstM (I : Inv X pins σ H s) (hH : H l = some (.lst xs)) : xs.length ≤ sizeLine ∧ ∃ (its : List Value) (n : Nat), Vals xs its ∧ xs.length = its.length ∧ s.heap.get? l = some { cls := .type "list", data := .seq its.toArray n } := by
  obtain ⟨z, its, n, r, e⟩ := I.hok l _ hH
  exact ⟨z, its, n, r, r.length, e⟩
theorem notLongL {n : Nat} (h : n ≤ sizeLine) : Builtin.List.listTooLong n = false := by
  unfold Builtin.List.listTooLong
  exact decide_eq_false (by omega)
end
section
variable {X : Cx}
def rAppend : V → List V → Hp → VK → Prop := fun x vs H Q => ∃ l xs y, x = .ref l ∧ vs = [y] ∧ H l = some (.lst xs) ∧ xs.length < sizeLine ∧ Q .non (upd H l (.lst (xs ++ [y])))
theorem mt_append : MtM X "list.append" rAppend := by
  intro pins s σ H x vs v us Q I rx rv h
  obtain ⟨l, xs, y, rfl, rfl, hH, hz, q⟩ := h
  cases rx
  obtain ⟨u, rfl, ru⟩ := rv.one
  obtain ⟨z, its, n, r, hl, e⟩ := I.lstM hH
  refine call_meets F.slot_list_append ⟨_, e, rfl⟩ F.entry_list_append (F.args_list_append_2 _ _) (PySem.list_append l its.toArray n u (by rw [List.size_toArray]; omega)) ⟨e, ?_⟩
  refine ⟨.non, _, I.lset (its' := its ++ [u]) hH e (by simp) (r.append (.cons ru .nil)) ?_, rfl, q⟩
  rw [List.length_append, List.length_singleton]
  omega
end
end L2
namespace Att
open PySem PySem.W PySem.Calls PyProof.Rows
theorem ints_of_wellAll {P : Params} {h : Heap} : ∀ (ns : List Int) (vs : List Value), WellAll P h vs (ns.map WData.int) → IntsAre vs ns := by
  intro ns
  induction ns with
  | nil =>
    intro vs w
    rw [List.map_nil] at w
    cases w
    exact .nil
  | cons n ns ih =>
    intro vs w
    rw [List.map_cons] at w
    cases w with
    | cons a b =>
      cases a
      exact .cons _ _ (ih _ b)
theorem script_of {l : OpenLaw} {n : Nat} (hn : l.most = some n) {P : Params} {h : Heap} {args : List WData} {vals : List Value}
    (hpre : l.row.toRowW.claim.pre args = true) (hwl : WellAll P h vals args) :
    ∃ a vs ns, vals = [Value.ref a] ∧ args = [WData.list (ns.map WData.int)] ∧ h.get? a = some { cls := .type "list", data := .seq vs.toArray } ∧ IntsAre vs ns ∧ ns.length ≤ n := by
  have hsh : WShape.hasAll [] args [.list .int] = true := (pre_splitW hpre).1
  have hc : l.pre.holds [] { args := args } = true := (pre_splitW hpre).2
  obtain ⟨d, r, rfl, h1, h2⟩ := hasAllW_cons hsh
  obtain rfl := hasAllW_nil h2
  obtain ⟨xs, rfl, h3⟩ := hasW_list h1
  obtain ⟨ns, rfl⟩ := items_int h3
  have hlen : ns.length ≤ n := by
    unfold OpenLaw.pre at hc
    have h4 : (WTm.not (.lt (.lit (.int (n : Int))) (.len (.arg 0)))).holds [] { args := [.list (ns.map .int)] } = true := by
      have h4 := (holds_andW hc).1
      rw [hn] at h4
      exact h4
    have h5 := condW_of h4 (w_not (w_lt w_lit (w_len_list (w_arg rfl))))
    rw [List.length_map] at h5
    refine Nat.le_of_not_lt fun q => ?_
    have q' : (n : Int) < ((ns.length : Nat) : Int) := by omega
    first
      | (rw [decide_eq_true q'] at h5; exact absurd h5 (by decide))
      | (simp at h5; omega)
  cases hwl with
  | cons w1 w2 =>
    cases w2
    cases w1 with
    | list ho hall => exact ⟨_, _, ns, rfl, rfl, ho, ints_of_wellAll ns _ hall, hlen⟩
theorem post_true (l : OpenLaw) (args : List WData) : l.row.toRowW.claim.post args (.bool true) args = true :=
  postW_of (r := l.row.toRowW) (X := (true == true))
    (show WShape.has [] (.bool true) .bool = true by first | rfl | decide | simp [WShape.has, WShape.arms, WShape.armsAll])
    (show (WTm.eq .res (.lit (.bool true))).value [] { args := args, res := some (.bool true), after := args } = some (.bool (true == true)) from w_eq_bool (w_res rfl) w_lit) rfl
theorem attach_call {l : OpenLaw} {n : Nat} {q : Program} {loose : List Str} {XP : (Str → Option Value) → Heap → Prop} {YP : World → Heap → Prop} {d : DefRec}
    (hn : l.most = some n) (hdf : d.params.defaults = [])
    (call : ∀ (w : World) (s₀ s₁ : Shared) (mg mb : Str → Option Value) (fa : Addr) (o : Obj) (pm cd doc : Value) (a : Addr) (vs : List Value) (ns : List Int),
      Ground q loose [] XP w s₀ mg mb s₁.heap → YP w s₁.heap →
      s₁.heap.get? fa = some o → o.data = .func (docDef d.name d.params d.body d.scope pm cd doc) → s₁.heap.CodeRec cd d.name → mg d.name = some (.ref fa) →
      s₁.heap.get? a = some { cls := .type "list", data := .seq vs.toArray } → IntsAre vs ns → ns.length ≤ n → s₁.gens = #[] →
      codeAny (model l.prog w) callerA (.call (.ref fa) ⟨[.ref a], []⟩) (fun r s' => r = .ok (.ret (.bool true)) ∧ OldK s₁.heap s'.heap ∧ s'.os = s₁.os ∧ AllBare s'.gens) s₁) :
    WalkO q loose XP YP l.row.toRowW d [] (fun f vs => PySem.call f vs) := by
  intro w s₀ s₁ mg mb G Y fa o pm cd doc dV kV ho hd hcd hD hmg hg args vals as hpre hlay hrd hwl hlo
  obtain rfl : dV = .none := Dflts.none hD hdf
  obtain rfl : kV = .none := Dflts.noKw hD
  obtain ⟨a, vs, ns, rfl, rfl, hobj, hints, hlen⟩ := script_of hn hpre hwl
  refine enter_call (codeAny_mono (call w s₀ s₁ mg mb fa o pm cd doc a vs ns G Y ho (fd_plain hd) hcd hmg hobj hints hlen hg) fun r s' hq => ?_)
  obtain ⟨rfl, h2, h3, h4⟩ := hq
  exact ⟨.inl ⟨.bool true, .bool true, [], rfl, fun _ => rfl, .bool true, post_true l _, fun _ => ⟨List.Pairwise.nil, fun _ hm => (nomatch hm)⟩⟩, h2, h3, h4⟩
end Att
namespace L2
open PySem PySem.Spec PyProof.Rows
theorem vals_ints : ∀ {vs : List Value} {ns : List Int}, IntsAre vs ns → Vals (ns.map V.int) vs
  | _, _, .nil => .nil
  | _, _, .cons n t h => .cons ⟨t, rfl⟩ (vals_ints h)
def Only (H : Hp) : Prop := ∀ b, H b = none ∨ ∃ o xs, H b = some (.frz o (.lst xs))
theorem law_call {P : Program} {w : World} {K : PySem.W.Frag} {mg mb : Str → Option Value} {CX : CXT} {k : Nat} {fa a : Addr} {fd : FuncData} {x : Str} {sp : Sp} {s₁ : Shared} {vs : List Value} {ns : List Int}
    (KX : K.In s₁.heap) (hns : s₁.heap.Ns mainGlobals mg) (hb : s₁.heap.Ns builtinsNs mb) (hbb : ∀ x : Str, x ≠ "__name__" → mb x = bootBuiltins x) (hlim : s₁.heap.NoLimit) (hg : s₁.gens = #[])
    (ha : s₁.heap.get? a = some { cls := .type "list", data := .seq vs.toArray }) (hi : IntsAre vs ns) (hl : ns.length ≤ sizeLine) (hr : Room k callerA)
    (F : ∀ base : Heap, K.In base → base.Ns mainGlobals mg → FnOk P w K mg base CX k fa fd [x] sp) (hbind : ∀ (s : Shared) (u : Value), BindsTo s fd ⟨[u], []⟩ [(x, u)])
    (hsp : ∀ H : Hp, Only H → SqL K H a (ns.map V.int) → sp [.ref a] H (fun v _ => v = .bl true) fun _ _ _ => False)
    (hCX : ∀ H e s', CX [] H s₁ (fun _ _ _ => False) e s' → False) :
    codeAny (model P w) callerA (.call (.ref fa) ⟨[.ref a], []⟩) (fun r s' => r = .ok (.ret (.bool true)) ∧ OldK s₁.heap s'.heap ∧ s'.os = s₁.os ∧ AllBare s'.gens) s₁ := by
  have rv := vals_ints hi
  have lenV := hi.length
  have core : ∀ H : Hp, Only H → SqL K H a (ns.map V.int) → HOk P w H s₁.heap → (∀ b, H b ≠ none → b = a) → (H a ≠ none → K.lookup a = none) →
      codeAny (model P w) callerA (.call (.ref fa) ⟨[.ref a], []⟩) (fun r s' => r = .ok (.ret (.bool true)) ∧ OldK s₁.heap s'.heap ∧ s'.os = s₁.os ∧ AllBare s'.gens) s₁ := by
    intro H hO hS hok hA hK
    have base_of : ∀ {b : Addr} {o : Obj}, s₁.heap.get? b = some o → H b = none → (hidT s₁.heap H).get? b = some o := fun e n => hidT_get e n
    have noA : ∀ {b : Addr} {o : Obj} {es : Array DictEntry} {ep : Nat}, s₁.heap.get? b = some o → o.data = .dict es ep → H b = none := fun {b o es ep} e d => by
      cases q : H b with
      | none => rfl
      | some u =>
        have e' : b = a := hA b (by rw [q]; simp)
        subst e'
        rw [ha] at e; cases e
        have d' : Data.seq vs.toArray _ = Data.dict es ep := d
        cases d'
    have nsK : ∀ {b : Addr} {m : Str → Option Value}, s₁.heap.Ns b m → (hidT s₁.heap H).Ns b m := fun {b m} ⟨o, es, ep, e, d, r⟩ => ⟨o, es, ep, base_of e (noA e d), d, r⟩
    have hKb : K.In (hidT s₁.heap H) := fun b o e => base_of (KX b o e) (by
      cases q : H b with
      | none => rfl
      | some u =>
        have e' : b = a := hA b (by rw [q]; simp)
        subst e'
        rw [hK (by rw [q]; simp)] at e; cases e)
    have hM : Mod K mg (hidT s₁.heap H) := ⟨hKb, nsK hns, ⟨mb, nsK hb, hbb⟩, let ⟨mc, h1, h2⟩ := hlim; ⟨mc, nsK h1, h2⟩⟩
    have e0 : Env0 P w K mg (hidT s₁.heap H) callerA [] s₁ H := ⟨rfl, hM, fun b o e => of_hidT e, Nat.le_of_eq (hidT_size _ _), trivial, fun b hb => absurd (show b ∈ ([] : List Addr) from hb) (by simp), hok, .of_eq hg⟩
    refine codeAny_mono ((F _ hKb (nsK hns)).run callerA [] s₁ H ⟨[.ref a], []⟩ [.ref a] [.ref a] _ _ hr e0 (hbind s₁ (.ref a)) (.cons rfl .nil) (hsp H hO hS)) fun r s' h => ?_
    cases r with
    | error e => exact (hCX H e s' h).elim
    | ok fl =>
      cases fl with
      | next => exact False.elim h
      | brk => exact False.elim h
      | cont => exact False.elim h
      | ret u =>
        obtain ⟨v, H', os, bare, un, hok', r', q⟩ := h
        have q' : v = .bl true := q
        subst q'
        obtain rfl : u = Value.bool true := r'
        refine ⟨rfl, OldK.of_keep fun b o e => ?_, os, bare⟩
        cases q : H b with
        | none => exact un.keep b o e q (by intro z; exact absurd (show b ∈ ([] : List Addr) from z) (by simp)) (by simp)
        | some u =>
          rcases hO b with z | ⟨ob, xs, z⟩
          · rw [q] at z; cases z
          · have z2 := un.frzs b ob _ z
            obtain ⟨e1, _⟩ := hok b _ z
            obtain ⟨e2, _⟩ := hok' b _ z2
            rw [e] at e1; cases e1
            exact e2
  cases hk : K.lookup a with
  | some o =>
    have e := KX a o hk
    rw [ha] at e
    cases e
    refine core (fun _ => none) (fun _ => .inl rfl) (.inr ⟨_, vs.toArray, _, hk, rfl, rfl, rfl, by rw [List.size_toArray, lenV]; exact hl, by simpa using rv⟩) (fun b u z => by have z' : (none : Option HO) = some u := z; cases z') (fun b z => absurd rfl z) fun z => absurd rfl z
  | none =>
    refine core (fun b => if b = a then some (.frz { cls := .type "list", data := .seq vs.toArray } (.lst (ns.map V.int))) else none) (fun b => ?_) (.inl (.inr ⟨{ cls := .type "list", data := .seq vs.toArray }, if_pos rfl⟩)) (fun b u z => ?_) (fun b z => ?_) fun _ => hk
    · by_cases hb : b = a
      · exact .inr ⟨_, _, if_pos hb⟩
      · exact .inl (if_neg hb)
    · by_cases hb : b = a
      · have z' := (if_pos hb).symm.trans z
        cases z'
        subst hb
        exact ⟨ha, by rw [List.length_map]; exact hl, vs, _, rv, ha⟩
      · have z' := (if_neg hb).symm.trans z
        cases z'
    · by_cases hb : b = a
      · exact hb
      · exact absurd (if_neg hb) z
end L2
namespace L2
open PySem PySem.Spec PyProof.Rows
abbrev KOf {K : PySem.W.Frag} {h : Heap} (_ : K.In h) : PySem.W.Frag := K
theorem walk_of {l : PySem.W.OpenLaw} {n k : Nat} {q : Program} {loose : List Str} {XP : (Str → Option Value) → Heap → Prop} {YP : World → Heap → Prop} {d : DefRec} {K : Params → PySem.W.Frag} {CX : World → CXT} {sp : World → Sp} {x : Str}
    (hn : l.most = some n) (hn2 : n ≤ sizeLine) (hdf : d.params.defaults = []) (hr : Room k callerA)
    (hY : ∀ (w : World) (h : Heap), YP w h → (K w.params).In h)
    (F : ∀ (w : World) (mg : Str → Option Value) (fa : Addr) (h : Heap), (K w.params).In h → h.Ns mainGlobals mg → mg d.name = some (.ref fa) →
      ∃ fd : FuncData, (∀ (s : Shared) (u : Value), BindsTo s fd ⟨[u], []⟩ [(x, u)]) ∧
        ∀ base : Heap, (K w.params).In base → base.Ns mainGlobals mg → FnOk l.prog w (K w.params) mg base (CX w) k fa fd [x] (sp w))
    (hsp : ∀ (w : World) (H : Hp) (a : Addr) (ns : List Int), ns.length ≤ n → Only H → SqL (K w.params) H a (ns.map V.int) → sp w [.ref a] H (fun v _ => v = .bl true) fun _ _ _ => False)
    (hCX : ∀ (w : World) (H : Hp) (s : Shared) (e : Value) (s' : Shared), CX w [] H s (fun _ _ _ => False) e s' → False) :
    PySem.W.WalkO q loose XP YP l.row.toRowW d [] (fun f vs => PySem.call f vs) := by
  refine Att.attach_call hn hdf fun w s₀ s₁ mg mb fa o pm cd doc a vs ns G Y ho hd hcd hmg hobj hints hlen hg => ?_
  have KX := hY w _ Y
  obtain ⟨fd, hb, hF⟩ := F w mg fa _ KX G.T.g hmg
  exact law_call KX G.T.g G.T.b G.T.builtins G.T.nolimit hg hobj hints (Nat.le_trans hlen hn2) hr hF hb (fun H hO hS => hsp w H a ns hlen hO hS) fun H e s' => hCX w H s₁ e s'
theorem walk_ofK {l : PySem.W.OpenLaw} {n k : Nat} {q : Program} {loose : List Str} {XP : (Str → Option Value) → Heap → Prop} {YP : World → Heap → Prop} {d : DefRec} {K : Params → PySem.W.Frag} {CX : CXT} {sp : PySem.W.Frag → Sp} {x : Str}
    (hn : l.most = some n) (hn2 : n ≤ sizeLine) (hdf : d.params.defaults = []) (hr : Room k callerA)
    (hY : ∀ (w : World) (h : Heap), YP w h → (K w.params).In h)
    (F : ∀ (w : World) (mg : Str → Option Value) (fa : Addr) (h : Heap), (K w.params).In h → h.Ns mainGlobals mg → mg d.name = some (.ref fa) →
      ∃ fd : FuncData, (∀ (s : Shared) (u : Value), BindsTo s fd ⟨[u], []⟩ [(x, u)]) ∧
        ∀ base : Heap, (K w.params).In base → base.Ns mainGlobals mg → FnOk l.prog w (K w.params) mg base CX k fa fd [x] (sp (K w.params)))
    (hsp : ∀ (K : PySem.W.Frag) (H : Hp) (a : Addr) (ns : List Int), ns.length ≤ n → Only H → SqL K H a (ns.map V.int) → sp K [.ref a] H (fun v _ => v = .bl true) fun _ _ _ => False)
    (hCX : ∀ (H : Hp) (s : Shared) (e : Value) (s' : Shared), CX [] H s (fun _ _ _ => False) e s' → False) :
    PySem.W.WalkO q loose XP YP l.row.toRowW d [] (fun f vs => PySem.call f vs) :=
  walk_of (K := K) (CX := fun _ => CX) (sp := fun w => sp (K w.params)) hn hn2 hdf hr hY F (fun w H a ns h1 h2 h3 => hsp (K w.params) H a ns h1 h2 h3) fun _ H s e s' => hCX H s e s'
end L2
/- THE LAST THEOREM (shape; LID, My.* are yours):
   My.Adr: a structure of the addresses that your layer names (classes, functions); My.Txt K t: a structure (Prop) of the equations over K;
   My.txt_mk : {K} {implicit addresses ..} (e1 : nsIn K mainGlobals "law" = some (some (.ref f))) (e2 : K.lookup f = some ⟨oc, od, .func (fnOf "law" "law" params body scope dV kV doc pm an cdv ct), sl⟩) (e3 : codeIn K cdv "law" = true) .. : ∃ t, My.Txt K t
set_option maxRecDepth 100000 in
set_option maxHeartbeats 0 in
theorem PySem.Challenge.cw_LID_holds : PySem.Challenge.rw_LID.Holds := by
  w_on; o_law; k_head; (case hw => w_witness2)
  k_fill
  refine L2.walk_of (l := PySem.Challenge.rw_LID) (n := 63) (k := 40) (x := "script") (CX := fun w => ..) (sp := fun _ => My.sp_law) rfl (by decide) rfl ⟨rfl, by decide, by decide⟩ (fun w h Y => PySem.W.kIn_of Y) ?F ?S ?C
  case F =>
    intro w mg fa h KX G hmg
    have T : ∃ t, My.Txt (L2.KOf KX) t := by
      dsimp only [L2.KOf]                          -- K must stand as «<heap const> w.params» for k_is
      refine' My.txt_mk ?e1 ?e2 ?e3 ..
      (case e1 => PySem.W.k_is)                    -- in the order: a name -> its address -> its object -> its parts
      (case e2 => PySem.W.k_is)
      ..
    obtain ⟨t, T⟩ := T
    have e0 := hmg.symm.trans (PySem.W.mg_of KX G T.law)
    cases e0                                       -- fa is the law's own address
    exact ⟨_, fun s u => .of_eq rfl, fun base kb nb => My.law_fn T kb nb⟩     -- if «.of_eq rfl» comes too early: refine' ⟨_, ?b, fun base kb nb => My.law_fn T kb nb⟩; exact fun s u => .of_eq rfl
  case S => exact fun w H a ns hl hO hS => ..
  case C => exact ..
(the tactic k_is has no namespace: write k_is) -/
namespace L2
open PySem PySem.Spec PyProof.Rows
def defArgs (s : Stmt) : Arguments := match s with
  | .FunctionDef _ a _ _ _ _ _ _ _ _ => a
  | _ => { posonlyargs := [], args := [], vararg := none, kwonlyargs := [], kw_defaults := [], kwarg := none, defaults := [] }
def defBody (s : Stmt) : List Stmt := match s with
  | .FunctionDef _ _ b _ _ _ _ _ _ _ => b
  | _ => []
def defScope (s : Stmt) : Scope := match s with
  | .FunctionDef _ _ _ _ _ _ sc _ _ _ => sc
  | _ => { kind := .function, names := [], isGenerator := false, isCoroutine := false }
abbrev CX0 : CXT := fun _ _ _ _ _ _ => False
abbrev E0 : XK := fun _ _ _ => False
theorem pass0 {X : Cx} : Passes CX0 X E0 := fun _ _ _ _ _ _ _ h => h.elim
structure Fun (K : PySem.W.Frag) (x qual : Str) (st : Stmt) (f : Addr) (fd : FuncData) : Prop where
  ex : ∃ (oc : Value) (od : Option Addr) (kV doc pm : Value) (an : Option Addr) (cdv ct : Value) (osl : Array (Option Value)),
    fd = PySem.W.fnOf x qual (defArgs st) (defBody st) (defScope st) .none kV doc pm an cdv ct ∧ K.lookup f = some ⟨oc, od, .func fd, osl⟩ ∧ PySem.W.codeIn K cdv qual = true
  kp : PySem.W.keepIn K (.ref f) = true
section
variable {P : Program} {w : World} {K : PySem.W.Frag} {mg : Str → Option Value} {base : Heap}
theorem Fun.ok {x qual : Str} {st : Stmt} {f : Addr} {fd : FuncData} {N ps : List Str} {k : Nat} {sp : Sp} (F : Fun K x qual st f fd) (S : FnScope N ps (defScope st)) (len : ∀ vs H Q E, sp vs H Q E → vs.length = ps.length)
    (hbody : ∀ (cdv : Value) (A : Around) (outer : List Env) (s : Shared) (H : Hp) (vs : List V) (Q : VK) (E : XK), Room k (A.deeper (envOfC qual (defScope st) s.heap.objs.size f cdv)) → sp vs H Q E →
      ∃ t, PSs (cxOf CX0 P w K mg base N qual (defScope st) f cdv A outer s H E).nox (defBody st) t ∧ t { nx := fun _ H' => Q .non H', rt := Q } (start N vs) H) : FnOk P w K mg base CX0 (k + 1) f fd ps sp := by
  obtain ⟨oc, od, kV, doc, pm, an, cdv, ct, osl, rfl, lk, hcd⟩ := F.ex
  refine fn_of lk hcd S len fun A outer s H vs Q E hr hsp => ?_
  obtain ⟨t, h, q⟩ := hbody cdv A outer s H vs Q E hr hsp
  exact ⟨t, h.nox, q⟩
theorem Fun.binds {x qual : Str} {st : Stmt} {f : Addr} {fd : FuncData} {ps : List Str} (F : Fun K x qual st f fd)
    (h : ∀ (kV doc pm : Value) (an : Option Addr) (cdv ct : Value) (us : List Value), us.length = ps.length → bindArgs (PySem.W.fnOf x qual (defArgs st) (defBody st) (defScope st) .none kV doc pm an cdv ct) ⟨us, []⟩ = pure (ps.zip us)) : Binds K fd ps [] := by
  obtain ⟨oc, od, kV, doc, pm, an, cdv, ct, osl, rfl, lk, hcd⟩ := F.ex
  exact .all (h kV doc pm an cdv ct)
theorem fun_mk {x qual : Str} {st : Stmt} {f : Addr} {oc : Value} {od an : Option Addr} {osl : Array (Option Value)} {kV doc pm cdv ct : Value} (l : K.lookup f = some ⟨oc, od, .func (PySem.W.fnOf x qual (defArgs st) (defBody st) (defScope st) .none kV doc pm an cdv ct), osl⟩)
    (c : PySem.W.codeIn K cdv qual = true) (k : PySem.W.keepIn K (.ref f) = true) : Fun K x qual st f (PySem.W.fnOf x qual (defArgs st) (defBody st) (defScope st) .none kV doc pm an cdv ct) := ⟨⟨oc, od, kV, doc, pm, an, cdv, ct, osl, rfl, l, c⟩, k⟩
end
theorem small1000 {n : Nat} (h : n ≤ 1000) : n < sizeLine := Nat.lt_of_le_of_lt h (by decide)
section
variable {X : Cx}
theorem pv (i : Nat) {x : Str} {pos : Pos} (hN : X.N[i]? = some x := by rfl) (hv : Vis X.env.scope x := by first | exact Or.inl rfl | exact Or.inr (Or.inl rfl) | exact Or.inr (Or.inr rfl)) (hd : (x == ("__debug__" : Str)) = false := by decide)
    (hcd : (x == ("__classdict__" : Str)) = false := by decide) : PE X (.Name x pos) (tVar i) := pe_var hN hv hd hcd
end
theorem iteF {A B : Prop} (h : B) : if false = true then A else B := by
  rw [if_neg Bool.false_ne_true]
  exact h
theorem iteT {A B : Prop} (h : A) : if true = true then A else B := by
  rw [if_pos rfl]
  exact h
theorem ite2 {c A B : Prop} [Decidable c] (h1 : c → A) (h2 : ¬ c → B) : if c then A else B := by
  by_cases h : c
  · rw [if_pos h]
    exact h1 h
  · rw [if_neg h]
    exact h2 h
def Same (H H' : Hp) : Prop := ∀ b o, H b = some o → H' b = some o
theorem Same.refl (H : Hp) : Same H H := fun _ _ h => h
theorem Same.trans {H H1 H2 : Hp} (a : Same H H1) (b : Same H1 H2) : Same H H2 := fun c o h => b c o (a c o h)
theorem Same.free {H H' : Hp} (e : Same H H') {l : Addr} (h : H' l = Option.none) : H l = Option.none := by
  cases q : H l with
  | none => rfl
  | some o =>
    rw [e l o q] at h
    cases h
theorem Same.seq {K : PySem.W.Frag} {H H' : Hp} {a : Addr} {xs : List V} (e : Same H H') (h : SqL K H a xs) : SqL K H' a xs := by
  rcases h with (h | ⟨o, h⟩) | h
  · exact .inl (.inl (e _ _ h))
  · exact .inl (.inr ⟨o, e _ _ h⟩)
  · exact .inr h
end L2
set_option maxHeartbeats 8000000
namespace L2
open PySem PySem.Spec PyProof.Rows
section
variable {X : Cx} {pins : List (Addr × Obj)} {σ : St} {H : Hp} {s : Shared}
theorem HOk.track {P : Program} {w : World} {H : Hp} {h : Heap} {a : Addr} {o : HO} (x : HOk P w H h) (hn : H a = none) (new : ObjOk P w (upd H a o) h a o) : HOk P w (upd H a o) h := fun b u e => by
  by_cases hb : b = a
  · subst hb
    rw [upd_same] at e
    cases e
    exact new
  · rw [upd_ne hb] at e
    refine (x b u e).stay (fun _ _ _ q => q) (fun c q => ?_) (fun c xs q => ?_) fun c ob v q => ?_
    · rw [upd_ne (ne_of_none q hn)]; exact q
    · rw [upd_ne (ne_of_none q hn)]; exact q
    · rw [upd_ne (ne_of_none q hn)]; exact q
theorem Inv.track {a : Addr} {o : HO} (I : Inv X pins σ H s) (hn : H a = none) (hL : a ≠ X.env.locals) (h0 : X.s₀.heap.objs.size ≤ a) (hc : ∀ x c, X.env.cells.lookup x = some c → c ≠ a) (hp : ∀ p ∈ X.pn ++ pins, p.1 ≠ a)
    (new : ObjOk X.prog X.w (upd H a o) s.heap a o) : Inv X pins σ (upd H a o) s := by
  have old : ∀ b ob, X.s₀.heap.get? b = some ob → b ≠ a := fun b ob e => Nat.ne_of_lt (Nat.lt_of_lt_of_le (Heap.lt_size e) h0)
  refine ⟨I.ok, I.os, I.bare, ⟨fun b ob e n => I.base.keep b ob e n, fun b ob e n => I.base.slot b ob e n, fun b ob e n hx => ?_, fun b ob e hx => I.base.there b ob e hx, fun b xs e => ?_, fun b ob u e => ?_, fun b ps e => ?_⟩, I.loc, I.cell, ?_, fun x c e => ?_, fun p hm => ?_, I.hok.track hn new, I.len⟩
  · rw [upd_ne (old b ob e)]; exact I.base.free b ob e n hx
  · have q := I.base.tups b xs e
    rw [upd_ne (ne_of_none q hn)]; exact q
  · have q := I.base.frzs b ob u e
    rw [upd_ne (ne_of_none q hn)]; exact q
  · obtain ⟨mo, q⟩ := I.base.tbls b ps e
    exact ⟨mo, by rw [upd_ne (ne_of_none q hn)]; exact q⟩
  · rw [upd_ne (Ne.symm hL)]; exact I.free
  · rw [upd_ne (hc x c e)]; exact I.freeC x c e
  · obtain ⟨z1, z2, z3⟩ := I.pin p hm
    exact ⟨z1, by rw [upd_ne (hp p hm)]; exact z2, z3⟩
end
def clo : List (Str × NameKind) → List (Str × Addr) → List (Str × Addr) → List (Str × Addr)
  | [], _, acc => acc
  | (n, k) :: r, cells, acc => clo r cells (if k == .free then (match cells.lookup n with | some c => (n, c) :: acc | none => acc) else acc)
theorem clo_sound (cells : List (Str × Addr)) : ∀ (names : List (Str × NameKind)) (acc : List (Str × Addr)), (∀ y c, acc.lookup y = some c → cells.lookup y = some c) → ∀ y c, (clo names cells acc).lookup y = some c → cells.lookup y = some c
  | [], acc, h => h
  | (n, k) :: r, acc, h => by
    refine clo_sound cells r _ fun y c e => ?_
    cases hk : k == NameKind.free with
    | false => rw [hk] at e; exact h y c e
    | true =>
      rw [hk, if_pos rfl] at e
      cases hc : cells.lookup n with
      | none => rw [hc] at e; exact h y c e
      | some a =>
        rw [hc] at e
        have e' : (((n, a) :: acc).lookup y) = some c := e
        rw [List.lookup_cons] at e'
        cases hy : y == n with
        | true =>
          rw [hy] at e'
          have z : y = n := by simpa using hy
          subst z
          rw [hc]; exact e'
        | false => rw [hy] at e'; exact h y c e'
theorem clo_keeps (cells : List (Str × Addr)) : ∀ (names : List (Str × NameKind)) (acc : List (Str × Addr)) (y : Str), (acc.lookup y).isSome = true → ((clo names cells acc).lookup y).isSome = true
  | [], _, _, h => h
  | (n, k) :: r, acc, y, h => by
    refine clo_keeps cells r _ y ?_
    cases hk : k == NameKind.free with
    | false => exact h
    | true =>
      rw [if_pos rfl]
      cases hc : cells.lookup n with
      | none => exact h
      | some a =>
        show (((n, a) :: acc).lookup y).isSome = true
        rw [List.lookup_cons]
        cases hy : y == n with
        | true => rfl
        | false => exact h
theorem clo_has (cells : List (Str × Addr)) : ∀ (names : List (Str × NameKind)) (acc : List (Str × Addr)) (y : Str), (y, NameKind.free) ∈ names → (cells.lookup y).isSome = true → ((clo names cells acc).lookup y).isSome = true
  | [], _, _, h, _ => by cases h
  | (n, k) :: r, acc, y, h, hs => by
    rcases List.mem_cons.mp h with e | h
    · cases e
      refine clo_keeps cells r _ n ?_
      show (((match cells.lookup n with | some c => (n, c) :: acc | none => acc)).lookup n).isSome = true
      cases hc : cells.lookup n with
      | none => rw [hc] at hs; cases hs
      | some a =>
        show (((n, a) :: acc).lookup n).isSome = true
        rw [List.lookup_cons]
        simp
    · exact clo_has cells r _ y h hs
theorem clo_run {env : Env} : ∀ (names : List (Str × NameKind)) (acc : List (Str × Addr)), (∀ y, (y, NameKind.free) ∈ names → (env.cells.lookup y).isSome = true) →
    (forIn names acc fun (x : Str × NameKind) (cs : List (Str × Addr)) => if (x.2 == NameKind.free) = true then do let c ← cellOf env x.1; pure (ForInStep.yield ((x.1, c) :: cs)) else pure (ForInStep.yield cs) : Sem (List (Str × Addr))) = pure (clo names env.cells acc)
  | [], acc, _ => rfl
  | (n, k) :: r, acc, h => by
    have ih := fun acc' => clo_run (env := env) r acc' fun y hy => h y (List.mem_cons_of_mem _ hy)
    rw [List.forIn_cons]
    cases hk : k == NameKind.free with
    | false =>
      show ((pure (ForInStep.yield acc) : Sem _) >>= _) = _
      rw [pure_bind]
      show (forIn r acc _ : Sem _) = _
      rw [ih acc]
      show pure (clo r env.cells acc) = pure (clo r env.cells (if (k == NameKind.free) = true then (match env.cells.lookup n with | some c => (n, c) :: acc | none => acc) else acc))
      rw [hk]; rfl
    | true =>
      have hkf : k = NameKind.free := by simpa using hk
      subst hkf
      have hs := h n List.mem_cons_self
      cases hc : env.cells.lookup n with
      | none => rw [hc] at hs; cases hs
      | some a =>
        have hcell : cellOf env n = pure a := by unfold cellOf; rw [hc]
        show ((cellOf env n >>= fun c => (pure (ForInStep.yield ((n, c) :: acc)) : Sem _)) >>= _) = _
        rw [hcell, pure_bind, pure_bind]
        show (forIn r ((n, a) :: acc) _ : Sem _) = _
        rw [ih]
        show pure (clo r env.cells ((n, a) :: acc)) = pure (clo r env.cells (match env.cells.lookup n with | some c => (n, c) :: acc | none => acc))
        rw [hc]
theorem closure_eq {sc : Scope} {env : Env} (h : ∀ y, (y, NameKind.free) ∈ sc.names → (env.cells.lookup y).isSome = true) : closureFor sc env = pure (clo sc.names env.cells []) := by
  unfold closureFor
  have := clo_run (env := env) sc.names [] h
  simpa using this
structure LcOk (osc sc : Scope) (x : Str) (fv : List Str) : Prop where
  kind : sc.kind = .function
  nocell : ∀ y ∈ sc.names, y.2 ≠ .cell
  names : ∀ y ∈ sc.names, y.2 = .local → sc.names.lookup y.1 = some .local
  hx : sc.names.lookup x = some .local
  fr : ∀ y ∈ sc.names, y.2 = .free → osc.names.lookup y.1 = some .cell ∨ osc.names.lookup y.1 = some .free
  fvs : ∀ y ∈ fv, sc.names.lookup y = some .free ∧ (osc.names.lookup y = some .cell ∨ osc.names.lookup y = some .free)
  nd : (x :: fv).Nodup
abbrev Cx.blk (X : Cx) (sc : Scope) (cl : List (Str × Addr)) (C : Addr) (N : List Str) (s : Shared) (H : Hp) (fp : List Addr) : Cx :=
  { X with N := N, s₀ := s, H₀ := H, env := compEnvC sc cl C X.env, outer := X.stack, ex := fp, fn := fun _ => false, pn := [], xe := fun _ _ => False }
abbrev lcN (X : Cx) (x : Str) (js : List Nat) : List Str := x :: js.map fun j => X.N.getD j ""
abbrev lcS (σ : St) (js : List Nat) (x : Option V) : St := x :: js.map fun j => σ.getD j none
theorem relabel_free {env : Env} : ∀ {names : List (Str × NameKind)} {y : Str} {k : NameKind}, (names.map fun (n, k) => if (k == NameKind.free && env.scope.kind == .function && env.kindOf n == some .cell) then (n, NameKind.cell) else (n, k)).lookup y = some k → (k = .cell ∨ k = .free) → (∀ z ∈ names, z.2 ≠ .cell) → (y, NameKind.free) ∈ names
  | [], _, _, h, _, _ => by simp at h
  | (n, k') :: r, y, k, h, hk, hn => by
    by_cases hc : (k' == NameKind.free && env.scope.kind == .function && env.kindOf n == some .cell) = true
    · have hk' : k' = NameKind.free := by
        rw [Bool.and_eq_true, Bool.and_eq_true] at hc
        simpa using hc.1.1
      subst hk'
      rw [List.map_cons] at h
      cases hy : y == n with
      | true =>
        have z : y = n := by simpa using hy
        subst z
        exact List.mem_cons_self
      | false =>
        have h' : List.lookup y ((if (NameKind.free == NameKind.free && env.scope.kind == .function && env.kindOf n == some .cell) = true then (n, NameKind.cell) else (n, NameKind.free)) :: (r.map fun (n, k) => if (k == NameKind.free && env.scope.kind == .function && env.kindOf n == some .cell) then (n, NameKind.cell) else (n, k))) = some k := h
        rw [if_pos hc, List.lookup_cons, hy] at h'
        exact List.mem_cons_of_mem _ (relabel_free h' hk fun z hz => hn z (List.mem_cons_of_mem _ hz))
    · have h' : List.lookup y ((if (k' == NameKind.free && env.scope.kind == .function && env.kindOf n == some .cell) = true then (n, NameKind.cell) else (n, k')) :: (r.map fun (n, k) => if (k == NameKind.free && env.scope.kind == .function && env.kindOf n == some .cell) then (n, NameKind.cell) else (n, k))) = some k := h
      rw [if_neg hc, List.lookup_cons] at h'
      cases hy : y == n with
      | true =>
        rw [hy] at h'
        cases h'
        have z : y = n := by simpa using hy
        subst z
        rcases hk with e | e
        · exact absurd e (hn _ List.mem_cons_self)
        · subst e; exact List.mem_cons_self
      | false =>
        rw [hy] at h'
        exact List.mem_cons_of_mem _ (relabel_free h' hk fun z hz => hn z (List.mem_cons_of_mem _ hz))
theorem relabel_fv {env : Env} : ∀ {names : List (Str × NameKind)} {y : Str}, names.lookup y = some .free → (names.map fun (n, k) => if (k == NameKind.free && env.scope.kind == .function && env.kindOf n == some .cell) then (n, NameKind.cell) else (n, k)).lookup y = some .cell ∨ (names.map fun (n, k) => if (k == NameKind.free && env.scope.kind == .function && env.kindOf n == some .cell) then (n, NameKind.cell) else (n, k)).lookup y = some .free
  | [], _, h => by simp at h
  | (n, k') :: r, y, h => by
    rw [List.lookup_cons] at h
    rw [List.map_cons]
    cases hy : y == n with
    | true =>
      rw [hy] at h
      cases h
      by_cases hc : (NameKind.free == NameKind.free && env.scope.kind == .function && env.kindOf n == some .cell) = true
      · refine .inl ?_
        show List.lookup y ((if (NameKind.free == NameKind.free && env.scope.kind == .function && env.kindOf n == some .cell) = true then (n, NameKind.cell) else (n, NameKind.free)) :: _) = _
        rw [if_pos hc, List.lookup_cons, hy]
      · refine .inr ?_
        show List.lookup y ((if (NameKind.free == NameKind.free && env.scope.kind == .function && env.kindOf n == some .cell) = true then (n, NameKind.cell) else (n, NameKind.free)) :: _) = _
        rw [if_neg hc, List.lookup_cons, hy]
    | false =>
      rw [hy] at h
      have ih := relabel_fv (env := env) h
      by_cases hc : (k' == NameKind.free && env.scope.kind == .function && env.kindOf n == some .cell) = true
      · show List.lookup y ((if (k' == NameKind.free && env.scope.kind == .function && env.kindOf n == some .cell) = true then (n, NameKind.cell) else (n, k')) :: _) = _ ∨ List.lookup y ((if (k' == NameKind.free && env.scope.kind == .function && env.kindOf n == some .cell) = true then (n, NameKind.cell) else (n, k')) :: _) = _
        rw [if_pos hc, List.lookup_cons, hy]
        exact ih
      · show List.lookup y ((if (k' == NameKind.free && env.scope.kind == .function && env.kindOf n == some .cell) = true then (n, NameKind.cell) else (n, k')) :: _) = _ ∨ List.lookup y ((if (k' == NameKind.free && env.scope.kind == .function && env.kindOf n == some .cell) = true then (n, NameKind.cell) else (n, k')) :: _) = _
        rw [if_neg hc, List.lookup_cons, hy]
        exact ih
end L2
namespace L2
open PySem PySem.Spec PyProof.Rows
abbrev lstObj (its : List Value) (n : Nat) : Obj := { cls := .type "list", data := .seq its.toArray n }
abbrev lcTests (ifs : List Expr) (env : Env) : Sem Bool :=
  forIn ifs true fun c r => if r = true then do let ok ← isTrue c env (eval c env); pure (ForInStep.yield ok) else pure (ForInStep.yield r)
def tLC (wi : TI) (js : List Nat) (tt : TT) (te : TE) : TE := fun σ H Q => wi σ H fun J H1 => ∃ W : Nat → Nat → List V → Hp → Prop, (∃ m, W 0 m [] H1) ∧ ∀ i m ys H, W i m ys H →
  (J.stop i H ∧ ∀ p, H p = none → Q (.ref p) (upd H p (.lst ys))) ∨
  (J.go i H ∧ ys.length < sizeLine ∧ ∀ x H', J.yld i H x H' → tt (lcS σ js (some x)) H' fun b H2 =>
    if b = true then te (lcS σ js (some x)) H2 fun v H3 => ∃ m', m' < m ∧ W (i + 1) m' (ys ++ [v]) H3 else ∃ m', m' < m ∧ W (i + 1) m' ys H2)
section
variable {X : Cx} {sc osc : Scope} {x : Str} {js : List Nat} {elt iter : Expr} {px pos : Pos} {ifs : List Expr} {wi : TI} {tt : TT} {te : TE}
theorem lc_loop {P : Program} {w : World} {A : Around} {R : Result → Shared → Prop} {st : Shared} {tg it acc} {cenv : Env} (Iv : Nat → Shared → Prop)
    (step : ∀ k st, Iv k st → wpAny (model P w) A (pyNext it) (fun got s1 => match got with
      | none => R (.ok .next) s1
      | some v => wpAny (model P w) A (letOwnedTupleGo tg it v) (fun _ s2 => wpAny (model P w) A (assign tg cenv v) (fun _ s3 =>
          wpAny (model P w) A (lcTests ifs cenv) (fun ok s4 => if ok = true then wpAny (model P w) A (eval elt cenv) (fun y s5 =>
              wpAny (model P w) A (call (.builtin "list.append") [acc, y]) (fun _ s6 => ∃ k', k' < k ∧ Iv k' s6) (notedBy (model P w) A cenv fun e z => R (.error e) z) s5) (notedBy (model P w) A cenv fun e z => R (.error e) z) s4
            else ∃ k', k' < k ∧ Iv k' s4) (notedBy (model P w) A cenv fun e z => R (.error e) z) s3) (notedBy (model P w) A cenv fun e z => R (.error e) z) s2) (notedBy (model P w) A cenv fun e z => R (.error e) z) s1)
      (notedBy (model P w) A cenv fun e z => R (.error e) z) st) (k0 : Nat) (h0 : Iv k0 st) :
    codeAny (model P w) A (.compLoop (.ListComp elt [⟨tg, iter, ifs, 0⟩] sc pos) 0 it acc cenv) R st := by
  refine codeAny_loop rfl Iv (fun k st hk => ?_) k0 h0
  show wpAny _ A ((compTurn (.ListComp elt [⟨tg, iter, ifs, 0⟩] sc pos) 0 it acc cenv).onRaise (fun e => do noteFrame e cenv; theTreesLotGoes e)) _ _ st
  refine wpAny_noted ?_
  rw [compTurn_list]
  refine wpAny_bind (wpAny_standAt (wpAny_bind (wpAny_mono (step k st hk) (fun got s1 h1 => ?_) fun _ _ z => z)))
  cases got with
  | none => exact wpAny_pure h1
  | some v =>
    refine wpAny_bind (wpAny_mono h1 (fun _ s2 h2 => ?_) fun _ _ z => z)
    refine wpAny_bind (wpAny_mono h2 (fun _ s3 h3 => wpAny_bind (wpAny_mono h3 (fun ok s4 h4 => ?_) fun _ _ z => z)) fun _ _ z => z)
    cases ok with
    | false => exact wpAny_pure ⟨rfl, h4⟩
    | true => exact wpAny_bind (wpAny_bind (wpAny_mono h4 (fun y s5 h5 => wpAny_bind (wpAny_mono h5 (fun _ s6 h6 => wpAny_pure (wpAny_pure ⟨rfl, h6⟩)) fun _ _ z => z)) fun _ _ z => z))
structure Own (X : Cx) (pins : List (Addr × Obj)) (H : Hp) (a : Addr) : Prop where
  free : H a = none
  loc : a ≠ X.env.locals
  new : X.s₀.heap.objs.size ≤ a
  cel : ∀ x c, X.env.cells.lookup x = some c → c ≠ a
  pin : ∀ p ∈ X.pn ++ pins, p.1 ≠ a
  fs : a ∉ X.fs
end
structure LcOkG (osc sc : Scope) (xs : List Str) (fv : List Str) : Prop where
  kind : sc.kind = .function
  nocell : ∀ y ∈ sc.names, y.2 ≠ .cell
  names : ∀ y ∈ sc.names, y.2 = .local → sc.names.lookup y.1 = some .local
  fr : ∀ y ∈ sc.names, y.2 = .free → osc.names.lookup y.1 = some .cell ∨ osc.names.lookup y.1 = some .free
  fvs : ∀ y ∈ fv, sc.names.lookup y = some .free ∧ (osc.names.lookup y = some .cell ∨ osc.names.lookup y = some .free)
abbrev lcG (X : Cx) (xs : List Str) (js : List Nat) : List Str := xs ++ js.map fun j => X.N.getD j ""
abbrev lcT (σ : St) (js : List Nat) (os : List (Option V)) : St := os ++ js.map fun j => σ.getD j none
section
variable {X : Cx} {sc osc : Scope} {xs : List Str} {js : List Nat}
theorem blk_okG {pins : List (Addr × Obj)} {σ : St} {H : Hp} {s : Shared} {fp : List Addr} {C : Addr} (I : Inv X pins σ H s) (hosc : X.env.scope = osc) (L : LcOkG osc sc xs (js.map fun j => X.N.getD j ""))
    (f2 : ∀ b ∈ fp, FpOk X pins H b) (lt : ∀ b ∈ fp, b < s.heap.objs.size) (hC : s.heap.objs.size ≤ C) : (X.blk sc (clo sc.names X.env.cells []) C (lcG X xs js) s H fp).Ok where
  mod := I.ok.mod
  kind := L.kind
  glob := I.ok.glob
  blt := I.ok.blt
  above := hC
  inj := fun y z c h1 h2 => I.ok.inj y z c (clo_sound _ _ [] (fun _ _ e => by simp at e) y c h1) (clo_sound _ _ [] (fun _ _ e => by simp at e) z c h2)
  has := fun y hy => by
    have hy' : (relabel sc X.env).names.lookup y = some .cell ∨ (relabel sc X.env).names.lookup y = some .free := hy
    have hm : (y, NameKind.free) ∈ sc.names := by
      rcases hy' with e | e
      · exact relabel_free e (.inl rfl) L.nocell
      · exact relabel_free e (.inr rfl) L.nocell
    have ho : X.env.kindOf y = some .cell ∨ X.env.kindOf y = some .free := by
      show X.env.scope.names.lookup y = _ ∨ X.env.scope.names.lookup y = _
      rw [hosc]
      exact L.fr _ hm rfl
    obtain ⟨c, e⟩ := I.ok.has y ho
    exact Option.isSome_iff_exists.mp (clo_has _ _ [] y hm (by rw [e]; rfl))
  cab := fun y c h => by cases h
  hd := I.ok.hd
  frames := I.ok.frames
  stk := .inl rfl
  exf := fun b hb => ⟨Nat.ne_of_lt (Nat.lt_of_lt_of_le (lt b hb) hC), fun y c e => (f2 b hb).2.2.2.2.1 y c (clo_sound _ _ [] (fun _ _ e => by simp at e) y c e)⟩
  bs := I.bs
  bsz := Nat.le_trans I.ok.bsz I.sz
  noex := fun b o e hb => by
    rcases (f2 b hb).2.2.2.1 with z | z
    · exact I.ok.noex b o e z
    · exact absurd (Nat.lt_of_lt_of_le (Heap.lt_size (I.ok.bs b o e).1) z) (Nat.lt_irrefl _)
  exfs := fun b hb hm => by
    rcases List.mem_cons.mp (I.stkSub b hm) with z | z
    · exact (f2 b hb).2.1 z
    · exact (f2 b hb).2.2.1 z
  funs := I.stack
  frf := I.stkFree
end
section
variable {X : Cx} {sc osc : Scope} {xs : List Str} {js : List Nat} {tg : Expr} {g : TG} {elt iter : Expr} {px pos : Pos} {ifs : List Expr} {wi : TI} {tt : TT} {te : TE}
theorem lc_turnG {cl : List (Str × Addr)} {C D : Addr} {s₂ : Shared} {H₂ : Hp} {fp : List Addr} {pl : List (Addr × Obj)} {σ0 : St} {H : Hp} {s : Shared} {u : Value} {v : V} {its : List Value} {n : Nat} {o0 : List (Option V)} {E : Value → Shared → Prop}
    {Ny : V → Hp → Prop} {Nn : Hp → Prop}
    (hg : PG (X.blk sc cl C (lcG X xs js) s₂ H₂ fp) tg g)
    (I : Inv (X.blk sc cl C (lcG X xs js) s₂ H₂ fp) ((D, lstObj its n) :: pl) (lcT σ0 js o0) H s) (ru : RelV v u)
    (ht : ∀ (pins : List (Addr × Obj)) (s' : Shared) (σ' : St) (H' : Hp) (Q : Bool → Hp → Prop), Inv (X.blk sc cl C (lcG X xs js) s₂ H₂ fp) pins σ' H' s' → tt σ' H' Q →
      wpAny (model X.prog X.w) X.A (lcTests ifs (compEnvC sc cl C X.env)) (TP (X.blk sc cl C (lcG X xs js) s₂ H₂ fp) pins σ' Q) (fun _ _ => False) s')
    (he : PE (X.blk sc cl C (lcG X xs js) s₂ H₂ fp) elt te)
    (hlen : its.length < sizeLine) (hD0 : s₂.heap.objs.size ≤ D) (hDC : D ≠ C) (hDc : ∀ y c, cl.lookup y = some c → c ≠ D) (hDp : ∀ p ∈ pl, p.1 ≠ D)
    (h : g v (lcT σ0 js o0) H fun σ2 H1 => ∃ o1, σ2 = lcT σ0 js o1 ∧ o1.length = xs.length ∧ tt σ2 H1 fun b H2 => if b = true then te σ2 H2 Ny else Nn H2) :
    wpAny (model X.prog X.w) X.A (assign tg (compEnvC sc cl C X.env) u) (fun _ s2 =>
      wpAny (model X.prog X.w) X.A (lcTests ifs (compEnvC sc cl C X.env)) (fun ok s3 =>
        if ok = true then wpAny (model X.prog X.w) X.A (eval elt (compEnvC sc cl C X.env)) (fun y s4 =>
          wpAny (model X.prog X.w) X.A (call (.builtin "list.append") [.ref D, y]) (fun _ s5 => ∃ z y' H5 o1, o1.length = xs.length ∧ Ny z H5 ∧ RelV z y' ∧ Inv (X.blk sc cl C (lcG X xs js) s₂ H₂ fp) ((D, lstObj (its ++ [y']) (n + 1)) :: pl) (lcT σ0 js o1) H5 s5) E s4) E s3
        else ∃ H5 o1, o1.length = xs.length ∧ Nn H5 ∧ Inv (X.blk sc cl C (lcG X xs js) s₂ H₂ fp) ((D, lstObj its n) :: pl) (lcT σ0 js o1) H5 s3) E s2) E s := by
  refine wpAny_mono (hg _ s _ H v u _ I ru h) (fun _ s2 ⟨σ6, H6, I6, o1, e1, l1, h6⟩ => ?_) fun _ _ z => False.elim z
  subst e1
  refine wpAny_mono (ht _ s2 _ _ _ I6 h6) (fun ok s3 ⟨H7, I7, q7⟩ => ?_) fun _ _ z => False.elim z
  cases ok with
  | false =>
    rw [if_neg Bool.false_ne_true] at q7 ⊢
    exact ⟨H7, o1, l1, q7, I7⟩
  | true =>
    rw [if_pos rfl] at q7 ⊢
    refine wpAny_mono (he _ s3 _ H7 _ I7 q7) (fun y s4 ⟨z, H8, I8, r8, q8⟩ => ?_) fun _ _ z => False.elim z
    obtain ⟨p1, p2, p3, p4, p5⟩ := I8.pin (D, lstObj its n) (List.mem_append_right _ List.mem_cons_self)
    have p1' : s4.heap.get? D = some { cls := .type "list", data := .seq its.toArray n } := p1
    refine call_meets F.slot_list_append ⟨_, p1', rfl⟩ F.entry_list_append (F.args_list_append_2 _ _) (PySem.list_append D its.toArray n y (by rw [List.size_toArray]; omega)) ⟨p1', ?_⟩
    have q := PySem.IsL.update p1' (fun a => a.push y)
    have sz : ((its.toArray.push y).size == its.toArray.size) = false := by simp
    have e3 : (s4.heap.update D (Obj.mapSeq fun a => a.push y)).get? D = some (lstObj (its ++ [y]) (n + 1)) := by
      have q' : (s4.heap.update D (Obj.mapSeq fun a => a.push y)).get? D = some { cls := .type "list", data := .seq (its.toArray.push y) (if ((its.toArray.push y).size == its.toArray.size) = true then n else n + 1) } := q
      rw [q', sz, if_neg Bool.false_ne_true]
      simp
    have I9 : Inv (X.blk sc cl C (lcG X xs js) s₂ H₂ fp) pl (lcT σ0 js o1) H8 s4 := I8.pins_of fun p hp => I8.pin p (List.mem_append_right _ (List.mem_cons_of_mem _ hp))
    have oth : ∀ b o, b ≠ D → s4.heap.get? b = some o → (s4.heap.update D (Obj.mapSeq fun a => a.push y)).get? b = some o := fun b o hb e => (Heap.get?_update_other _ _ (Ne.symm hb)).trans e
    have I10 := I9.turned (t' := s4.toks) (h' := s4.heap.update D (Obj.mapSeq fun a => a.push y)) (it := D) oth p2 hDC (.inr hD0) hDc (fun p hp => hDp p hp)
    refine ⟨z, y, H8, o1, l1, q8, r8, I10.pins_of fun p hp => ?_⟩
    rcases List.mem_cons.mp hp with e | e
    · subst e
      exact ⟨e3, p2, p3, p4, fun w hw => by cases hw⟩
    · exact I10.pin p (List.mem_append_right _ e)
theorem lc_coreG {use : Option (Value → Sem Unit)} {QQ : Value → Shared → Prop} {Fin : List V → Hp → Prop} {pins : List (Addr × Obj)} {s : Shared} {σ : St} {H : Hp} (hosc : X.env.scope = osc) (L : LcOkG osc sc xs (js.map fun j => X.N.getD j "")) {rd : Cx → Prop} (hc : ∀ sc cl C N s H fp, rd (X.blk sc cl C N s H fp)) (hi : PIr rd X tg iter wi) (hg : ∀ (cl : List (Str × Addr)) (C : Addr) (s₂ : Shared) (H₂ : Hp) (fp : List Addr), PG (X.blk sc cl C (lcG X xs js) s₂ H₂ fp) tg g) (hjs : ∀ j ∈ js, j < X.N.length)
    (ht : ∀ (cl : List (Str × Addr)) (C : Addr) (s₂ : Shared) (H₂ : Hp) (fp : List Addr) (pins : List (Addr × Obj)) (s' : Shared) (σ' : St) (H' : Hp) (Q : Bool → Hp → Prop), Inv (X.blk sc cl C (lcG X xs js) s₂ H₂ fp) pins σ' H' s' → tt σ' H' Q →
      wpAny (model X.prog X.w) X.A (lcTests ifs (compEnvC sc cl C X.env)) (TP (X.blk sc cl C (lcG X xs js) s₂ H₂ fp) pins σ' Q) (fun _ _ => False) s')
    (he : ∀ (cl : List (Str × Addr)) (C : Addr) (s₂ : Shared) (H₂ : Hp) (fp : List Addr), PE (X.blk sc cl C (lcG X xs js) s₂ H₂ fp) elt te)
    (hs : ∀ x, foldedSetIterable iter X.env x = pure x) (I : Inv X pins σ H s)
    (h : wi σ H fun J H1 => ∃ W : Nat → Nat → List V → Hp → Prop, (∃ m, W 0 m [] H1) ∧ ∀ i m ys H, W i m ys H → (J.stop i H ∧ Fin ys H) ∨
      (J.go i H ∧ ys.length < sizeLine ∧ ∀ x H', J.yld i H x H' → ∀ o0 : List (Option V), o0.length = xs.length → g x (lcT σ js o0) H' fun σ2 H1 => ∃ o1, σ2 = lcT σ js o1 ∧ o1.length = xs.length ∧ tt σ2 H1 fun b H2 =>
        if b = true then te σ2 H2 fun v H3 => ∃ m', m' < m ∧ W (i + 1) m' (ys ++ [v]) H3 else ∃ m', m' < m ∧ W (i + 1) m' ys H2))
    (hfin : ∀ (D C : Addr) (s5 : Shared) (H5 : Hp) (ys : List V) (its : List Value) (k : Nat) (m5 : Str → Option Value), Inv X pins σ H5 s5 → Own X pins H5 D → Own X pins H5 C → D ≠ C → s5.heap.get? D = some (lstObj its k) → Vals ys its → ys.length ≤ sizeLine → s5.heap.Ns C m5 → Fin ys H5 →
      compPost (model X.prog X.w) X.A X.xe use QQ (.ref D) C (.ok .next) s5) :
    wpAny (model X.prog X.w) X.A (comprehension (.ListComp elt [⟨tg, iter, ifs, 0⟩] sc pos) sc X.env (firstIterPos [⟨tg, iter, ifs, 0⟩] pos) (newList []) false (eval iter X.env) use) QQ X.xe s := by
  have hcl : closureFor sc X.env = pure (clo sc.names X.env.cells []) := closure_eq fun y hy => by
    have ho : X.env.kindOf y = some .cell ∨ X.env.kindOf y = some .free := by
      show X.env.scope.names.lookup y = _ ∨ X.env.scope.names.lookup y = _
      rw [hosc]
      exact L.fr _ hy rfl
    obtain ⟨c, e⟩ := I.ok.has y ho
    rw [e]; rfl
  refine wpAny_comprehension_free (use := use) rfl hs hcl L.kind L.names (thn (hi pins s σ H _ I h) fun v s1 h1 => thn h1 fun itv s2 h2 => ?_)
  obtain ⟨it, fp, tn, J, H2, e, I2, T, st2, f2, W, ⟨m0, w0⟩, turn⟩ := h2
  subst e
  refine wpAny_newObj_type (wpAny_newFunctionEnv L.nocell (by intro y hy; simp at hy) (fun h₁ hns₁ hsb₁ => ?_) L.kind)
  dsimp only at hns₁ hsb₁ ⊢
  generalize hG : s2.heap.push { cls := .type "list", dict := none, data := .seq ([] : List Value).toArray } = G at hns₁ hsb₁ ⊢
  have hGs : G.objs.size = s2.heap.objs.size + 1 := by rw [← hG, Heap.size_push]
  have hCle : s2.heap.objs.size ≤ G.objs.size := by rw [hGs]; exact Nat.le_succ _
  have hDC : s2.heap.objs.size ≠ G.objs.size := by rw [hGs]; exact Nat.ne_of_lt (Nat.lt_succ_self _)
  have old : ∀ b o, s2.heap.get? b = some o → h₁.get? b = some o := fun b o e => by
    have lt := Heap.lt_size e
    refine hsb₁.extBut b o (Nat.ne_of_lt (Nat.lt_of_lt_of_le lt hCle)) (Heap.get?_push_of_some _ ?_)
    rw [← hG]
    exact Heap.get?_push_of_some _ e
  have hacc : h₁.get? s2.heap.objs.size = some (lstObj [] 0) := by
    refine hsb₁.extBut _ _ hDC (Heap.get?_push_of_some _ ?_)
    rw [← hG]
    exact Heap.get?_push_size _ rfl
  have lt : ∀ b ∈ fp, b < s2.heap.objs.size := fun b hb => by
    obtain ⟨o, e, _⟩ := T.obj _ _ st2 b hb
    exact Heap.lt_size e
  have clS : ∀ y c, (clo sc.names X.env.cells []).lookup y = some c → X.env.cells.lookup y = some c := clo_sound _ _ [] (fun _ _ e => by simp at e)
  have clLt : ∀ y c, (clo sc.names X.env.cells []).lookup y = some c → c < s2.heap.objs.size := fun y c e => by
    obtain ⟨v, o, q, _⟩ := I2.cell y c (clS y c e)
    exact Heap.lt_size q
  have Bok : (X.blk sc (clo sc.names X.env.cells []) G.objs.size (lcG X xs js) s2 H2 fp).Ok := blk_okG I2 hosc L f2 lt hCle
  have fresh : ∀ a, s2.heap.objs.size ≤ a → H2 a = none := fun a ha => I2.hok.fresh ha
  have frs_lt : ∀ b ∈ frs X.stack, b < s2.heap.objs.size := fun b hb => by
    rcases List.mem_cons.mp (I2.stkSub b hb) with z | z
    · rw [z]; exact I2.lt
    · refine Nat.lt_of_not_le fun q => I2.nofs q z
  have B0 : Inv (X.blk sc (clo sc.names X.env.cells []) G.objs.size (lcG X xs js) s2 H2 fp) [(s2.heap.objs.size, lstObj [] 0)] (lcT σ js (List.replicate xs.length none)) H2 { s2 with heap := h₁, toks := s2.toks + ([] : List (Str × Value)).length } := by
    refine ⟨Bok, rfl, I2.bare, Un.kept old, ⟨_, hns₁, fun i y v e1 e2 e3 => ?_⟩, fun y c e => ?_, fresh _ hCle, fun y c e => I2.freeC y c (clS y c e), fun p hp => ?_, I2.hok.kept old, ?_⟩
    · by_cases hlt : i < xs.length
      · exfalso
        have e2'' : (List.replicate xs.length (none : Option V) ++ js.map fun j => σ.getD j none)[i]? = some (some v) := e2
        rw [List.getElem?_append_left (by rw [List.length_replicate]; exact hlt), List.getElem?_replicate, if_pos hlt] at e2''
        cases e2''
      · have e1' : (js.map fun j => X.N.getD j "")[i - xs.length]? = some y := by
          have z : (xs ++ js.map fun j => X.N.getD j "")[i]? = some y := e1
          rw [List.getElem?_append_right (by omega)] at z
          exact z
        have e2' : (js.map fun j => σ.getD j none)[i - xs.length]? = some (some v) := by
          have z : (List.replicate xs.length (none : Option V) ++ js.map fun j => σ.getD j none)[i]? = some (some v) := e2
          rw [List.getElem?_append_right (by rw [List.length_replicate]; omega), List.length_replicate] at z
          exact z
        have e1s := e1'
        rw [List.getElem?_map] at e1' e2'
        cases hj : js[i - xs.length]? with
        | none => rw [hj] at e1'; cases e1'
        | some j =>
          rw [hj] at e1' e2'
          have e4 : X.N.getD j "" = y := Option.some.inj e1'
          have e5 : σ.getD j none = some v := Option.some.inj e2'
          have hjl := hjs j (List.mem_of_getElem? hj)
          have e6 : X.N[j]? = some y := by
            rw [List.getD_eq_getElem?_getD, List.getElem?_eq_getElem hjl] at e4
            rw [List.getElem?_eq_getElem hjl]
            exact congrArg some e4
          have e7 : σ[j]? = some (some v) := by
            rw [List.getD_eq_getElem?_getD] at e5
            cases hq : σ[j]? with
            | none => rw [hq] at e5; cases e5
            | some w => rw [hq] at e5; exact congrArg some e5
          obtain ⟨hm0, hk⟩ := L.fvs y (List.mem_of_getElem? e1s)
          have hm : (y, NameKind.free) ∈ sc.names := PySem.mem_of_lookup hm0
          have hk' : X.env.kindOf y = some .cell ∨ X.env.kindOf y = some .free := by
            show X.env.scope.names.lookup y = _ ∨ X.env.scope.names.lookup y = _
            rw [hosc]; exact hk
          have hv : Vis X.env.scope y := by rcases hk' with z | z; exact .inr (.inl z); exact .inr (.inr z)
          obtain ⟨m, hn, hl⟩ := I2.loc
          obtain ⟨u, r, l⟩ := hl j y v e6 e7 hv
          refine ⟨u, r, .inr ?_⟩
          rcases l with ⟨z, _⟩ | ⟨_, c, hc1, hc2⟩
          · rw [z] at hk'; rcases hk' with q | q <;> cases q
          · have hs2 : ((clo sc.names X.env.cells []).lookup y).isSome = true := clo_has _ _ [] y hm (by rw [hc1]; rfl)
            obtain ⟨c', hc'⟩ := Option.isSome_iff_exists.mp hs2
            have hcc : c' = c := by have := clS y c' hc'; rw [hc1] at this; exact (Option.some.inj this).symm
            subst hcc
            obtain ⟨o, ho, hd⟩ := hc2
            exact ⟨relabel_fv hm0, c', hc', o, old _ o ho, hd⟩
    · obtain ⟨v, o, q, d⟩ := I2.cell y c (clS y c e)
      exact ⟨v, o, old _ o q, d⟩
    · have e : p = (s2.heap.objs.size, lstObj [] 0) := by simpa using hp
      subst e
      exact ⟨hacc, fresh _ (Nat.le_refl _), hDC, fun z => Nat.lt_irrefl _ (frs_lt _ z), fun w hw => by cases hw⟩
    · show _ = (lcG X xs js).length
      simp
  have stat : ∀ {H' : Hp} {pl : List (Addr × Obj)}, (∀ b ∈ fp, H' b = none) → (∀ p ∈ pl, p.1 = s2.heap.objs.size) → ∀ b ∈ fp, FpOk (X.blk sc (clo sc.names X.env.cells []) G.objs.size (lcG X xs js) s2 H2 fp) pl H' b := fun hn hp b hb =>
    ⟨hn b hb, (Bok.exf b hb).1, Bok.exfs b hb, .inl hb, (Bok.exf b hb).2, fun p hm => by
      rw [hp p (by simpa using hm)]
      exact Ne.symm (Nat.ne_of_lt (lt b hb))⟩
  have loop : ∀ s3 : Shared, s3 = { s2 with heap := h₁, toks := s2.toks + ([] : List (Str × Value)).length } →
      codeAny (model X.prog X.w) X.A (.compLoop (.ListComp elt [⟨tg, iter, ifs, 0⟩] sc pos) 0 (.ref it) (.ref s2.heap.objs.size) (compEnvC sc (clo sc.names X.env.cells []) G.objs.size X.env))
        (compPost (model X.prog X.w) X.A X.xe use QQ (.ref s2.heap.objs.size) G.objs.size) s3 := by
    rintro s3 rfl
    refine lc_loop (fun n s' => ∃ i ys its k o0 H', o0.length = xs.length ∧ Inv (X.blk sc (clo sc.names X.env.cells []) G.objs.size (lcG X xs js) s2 H2 fp) [(s2.heap.objs.size, lstObj its k)] (lcT σ js o0) H' s' ∧ tn i s'.heap ∧ (∀ b ∈ fp, H' b = none) ∧ Vals ys its ∧ ys.length ≤ sizeLine ∧ W i n ys H') ?_ m0
      ⟨0, [], [], 0, List.replicate xs.length none, H2, List.length_replicate, B0, T.keep _ _ _ st2 fun b _ o e => old b o e, fun b hb => (f2 b hb).1, .nil, Nat.zero_le _, w0⟩
    rintro n s4 ⟨i, ys, its, k, o0, H4, lo0, I4, st4, fr4, vs4, z4, w4⟩
    have one : ∀ p ∈ [(s2.heap.objs.size, lstObj its k)], p.1 = s2.heap.objs.size := fun p hp => by
      have e : p = (s2.heap.objs.size, lstObj its k) := by simpa using hp
      rw [e]
    rcases turn i n ys H4 w4 with ⟨stop, qn⟩ | ⟨go, zl, step⟩
    · refine thn (T.done (X.blk sc (clo sc.names X.env.cells []) G.objs.size (lcG X xs js) s2 H2 fp) rfl rfl rfl (hc _ _ _ _ _ _ _) i _ s4 _ H4 _ I4 (stat fr4 one) st4 stop) fun r s5 ⟨hr, I5⟩ => ?_
      subst hr
      obtain ⟨m5, hn5, _⟩ := I5.loc
      obtain ⟨p1, p2, p3, p4, p5⟩ := I5.pin (s2.heap.objs.size, lstObj its k) (by simp)
      have ch : ∀ b ∈ fp, (b ∈ X.ex ∨ X.s₀.heap.objs.size ≤ b) ∧ b ≠ X.env.locals ∧ (∀ x c, X.env.cells.lookup x = some c → c ≠ b) ∧ ∀ p ∈ X.pn ++ pins, p.1 ≠ b := fun b hb =>
        ⟨(f2 b hb).2.2.2.1, (f2 b hb).2.1, (f2 b hb).2.2.2.2.1, (f2 b hb).2.2.2.2.2⟩
      have J1 : Inv X pins σ H4 s5 := I2.call' I5.os I5.base I5.hok I5.bare ch
      have ltp : ∀ p ∈ X.pn ++ pins, p.1 < s2.heap.objs.size := fun p hp => Heap.lt_size (I2.pin p hp).1
      have ltc : ∀ y c, X.env.cells.lookup y = some c → c < s2.heap.objs.size := fun y c e => by
        obtain ⟨v, o, q, _⟩ := I2.cell y c e
        exact Heap.lt_size q
      have s0 : X.s₀.heap.objs.size ≤ s2.heap.objs.size := I2.sz
      have own : ∀ a, s2.heap.objs.size ≤ a → H4 a = none → Own X pins H4 a := fun a ha hn => ⟨hn, Ne.symm (Nat.ne_of_lt (Nat.lt_of_lt_of_le I2.lt ha)), Nat.le_trans s0 ha, fun y c e => Nat.ne_of_lt (Nat.lt_of_lt_of_le (ltc y c e) ha),
        fun p hp => Nat.ne_of_lt (Nat.lt_of_lt_of_le (ltp p hp) ha), I2.nofs ha⟩
      exact hfin _ _ s5 H4 ys its k m5 J1 (own _ (Nat.le_refl _) p2) (own _ hCle I5.free) hDC p1 vs4 z4 hn5 qn
    · refine thn (T.item (X.blk sc (clo sc.names X.env.cells []) G.objs.size (lcG X xs js) s2 H2 fp) rfl rfl rfl (hc _ _ _ _ _ _ _) i _ s4 _ H4 _ I4 (stat fr4 one) st4 go) fun r s5 ⟨u, hr, h5⟩ => ?_
      subst hr
      refine wpAny_mono h5 (fun _ s5' ⟨v, H6, I6, r6, y6, st6, fr6⟩ => ?_) fun _ _ z => z
      have I7 := I6.pinned (stat fr6 one) (T.obj _ _ st6)
      have ndis : ∀ p ∈ pinsAt fp s5'.heap, p.1 ≠ s2.heap.objs.size := fun p hp => Nat.ne_of_lt (lt _ (of_pinsAt hp).1)
      have lenE := vs4.length
      have back : ∀ {its' : List Value} {k' : Nat} {H7 : Hp} {s7 : Shared} {ys' : List V} {m' : Nat} {o1 : List (Option V)}, o1.length = xs.length → Inv (X.blk sc (clo sc.names X.env.cells []) G.objs.size (lcG X xs js) s2 H2 fp) ((s2.heap.objs.size, lstObj its' k') :: pinsAt fp s5'.heap) (lcT σ js o1) H7 s7 →
          Vals ys' its' → ys'.length ≤ sizeLine → m' < n → W (i + 1) m' ys' H7 → ∃ m, m < n ∧ ∃ i ys its k o0 H', o0.length = xs.length ∧ Inv (X.blk sc (clo sc.names X.env.cells []) G.objs.size (lcG X xs js) s2 H2 fp) [(s2.heap.objs.size, lstObj its k)] (lcT σ js o0) H' s7 ∧ tn i s7.heap ∧ (∀ b ∈ fp, H' b = none) ∧ Vals ys its ∧ ys.length ≤ sizeLine ∧ W i m ys H' := by
        intro its' k' H7 s7 ys' m' o1 l1 J vs' z' hm w'
        refine ⟨m', hm, i + 1, ys', its', k', o1, H7, l1, J.pins_of fun p hp => J.pin p (List.mem_append_right _ (by simp at hp; simp [hp])), ?_, ?_, vs', z', w'⟩
        · exact T.keep _ _ _ st6 fun b hb o e => (J.pin (b, o) (List.mem_append_right _ (List.mem_cons_of_mem _ (mem_pinsAt hb e)))).1
        · intro b hb
          obtain ⟨o, e, _⟩ := T.obj _ _ st6 b hb
          exact (J.pin (b, o) (List.mem_append_right _ (List.mem_cons_of_mem _ (mem_pinsAt hb e)))).2.1
      refine wpAny_mono (lc_turnG (X := X) (sc := sc) (xs := xs) (js := js) (tg := tg) (g := g) (elt := elt) (ifs := ifs) (tt := tt) (te := te) (D := s2.heap.objs.size) (its := its) (n := k) (pl := pinsAt fp s5'.heap)
        (hg _ _ _ _ _) I7 r6 (ht _ _ _ _ _) (he _ _ _ _ _) (by omega) (Nat.le_refl _) hDC (fun y c e => Nat.ne_of_lt (clLt y c e)) ndis (step v H6 y6 o0 lo0)) (fun _ s6 h6 => ?_) fun _ _ z => z
      refine wpAny_mono h6 (fun ok s7 h7 => ?_) fun _ _ z => z
      cases ok with
      | false =>
        rw [if_neg Bool.false_ne_true] at h7 ⊢
        obtain ⟨H7, o1, l1, ⟨m', hm, w'⟩, J⟩ := h7
        exact back l1 J vs4 z4 hm w'
      | true =>
        rw [if_pos rfl] at h7 ⊢
        refine wpAny_mono h7 (fun y s8 h8 => ?_) fun _ _ z => z
        refine wpAny_mono h8 (fun _ s9 h9 => ?_) fun _ _ z => z
        obtain ⟨z, y', H9, o1, l1, ⟨m', hm, w'⟩, rz, J⟩ := h9
        refine back l1 J (vs4.append (.cons rz .nil)) ?_ hm w'
        rw [List.length_append, List.length_singleton]
        omega
  exact codeAny_compStart_list (loop _ rfl) (T.self _ 0 _ _ _ (T.keep _ _ _ st2 fun b _ o e => old b o e) (loop _ rfl))
end
section
variable {X : Cx} {sc osc : Scope} {x : Str} {js : List Nat} {elt iter : Expr} {px pos : Pos} {ifs : List Expr} {wi : TI} {tt : TT} {te : TE}
theorem lc_core {use : Option (Value → Sem Unit)} {QQ : Value → Shared → Prop} {Fin : List V → Hp → Prop} {pins : List (Addr × Obj)} {s : Shared} {σ : St} {H : Hp} (hosc : X.env.scope = osc) (L : LcOk osc sc x (js.map fun j => X.N.getD j "")) {rd : Cx → Prop} (hc : ∀ sc cl C N s H fp, rd (X.blk sc cl C N s H fp)) (hi : PIr rd X (.Name x px) iter wi) (hjs : ∀ j ∈ js, j < X.N.length)
    (ht : ∀ (cl : List (Str × Addr)) (C : Addr) (s₂ : Shared) (H₂ : Hp) (fp : List Addr) (pins : List (Addr × Obj)) (s' : Shared) (σ' : St) (H' : Hp) (Q : Bool → Hp → Prop), Inv (X.blk sc cl C (lcN X x js) s₂ H₂ fp) pins σ' H' s' → tt σ' H' Q →
      wpAny (model X.prog X.w) X.A (lcTests ifs (compEnvC sc cl C X.env)) (TP (X.blk sc cl C (lcN X x js) s₂ H₂ fp) pins σ' Q) (fun _ _ => False) s')
    (he : ∀ (cl : List (Str × Addr)) (C : Addr) (s₂ : Shared) (H₂ : Hp) (fp : List Addr), PE (X.blk sc cl C (lcN X x js) s₂ H₂ fp) elt te)
    (hs : ∀ x, foldedSetIterable iter X.env x = pure x) (I : Inv X pins σ H s)
    (h : wi σ H fun J H1 => ∃ W : Nat → Nat → List V → Hp → Prop, (∃ m, W 0 m [] H1) ∧ ∀ i m ys H, W i m ys H → (J.stop i H ∧ Fin ys H) ∨
      (J.go i H ∧ ys.length < sizeLine ∧ ∀ x H', J.yld i H x H' → tt (lcS σ js (some x)) H' fun b H2 =>
        if b = true then te (lcS σ js (some x)) H2 fun v H3 => ∃ m', m' < m ∧ W (i + 1) m' (ys ++ [v]) H3 else ∃ m', m' < m ∧ W (i + 1) m' ys H2))
    (hfin : ∀ (D C : Addr) (s5 : Shared) (H5 : Hp) (ys : List V) (its : List Value) (k : Nat) (m5 : Str → Option Value), Inv X pins σ H5 s5 → Own X pins H5 D → Own X pins H5 C → D ≠ C → s5.heap.get? D = some (lstObj its k) → Vals ys its → ys.length ≤ sizeLine → s5.heap.Ns C m5 → Fin ys H5 →
      compPost (model X.prog X.w) X.A X.xe use QQ (.ref D) C (.ok .next) s5) :
    wpAny (model X.prog X.w) X.A (comprehension (.ListComp elt [⟨.Name x px, iter, ifs, 0⟩] sc pos) sc X.env (firstIterPos [⟨.Name x px, iter, ifs, 0⟩] pos) (newList []) false (eval iter X.env) use) QQ X.xe s := by
  have e : (fun (J : It) (H1 : Hp) => ∃ W : Nat → Nat → List V → Hp → Prop, (∃ m, W 0 m [] H1) ∧ ∀ i m ys H, W i m ys H → (J.stop i H ∧ Fin ys H) ∨
      (J.go i H ∧ ys.length < sizeLine ∧ ∀ x H', J.yld i H x H' → tt (lcS σ js (some x)) H' fun b H2 =>
        if b = true then te (lcS σ js (some x)) H2 fun v H3 => ∃ m', m' < m ∧ W (i + 1) m' (ys ++ [v]) H3 else ∃ m', m' < m ∧ W (i + 1) m' ys H2)) =
      (fun (J : It) (H1 : Hp) => ∃ W : Nat → Nat → List V → Hp → Prop, (∃ m, W 0 m [] H1) ∧ ∀ i m ys H, W i m ys H → (J.stop i H ∧ Fin ys H) ∨
      (J.go i H ∧ ys.length < sizeLine ∧ ∀ y H', J.yld i H y H' → ∀ o0 : List (Option V), o0.length = [x].length → gName 0 y (lcT σ js o0) H' fun σ2 H1 => ∃ o1, σ2 = lcT σ js o1 ∧ o1.length = [x].length ∧ tt σ2 H1 fun b H2 =>
        if b = true then te σ2 H2 fun v H3 => ∃ m', m' < m ∧ W (i + 1) m' (ys ++ [v]) H3 else ∃ m', m' < m ∧ W (i + 1) m' ys H2)) := by
    funext J H1
    refine propext ⟨fun ⟨W, w0, w1⟩ => ⟨W, w0, fun i m ys H hw => ?_⟩, fun ⟨W, w0, w1⟩ => ⟨W, w0, fun i m ys H hw => ?_⟩⟩
    · rcases w1 i m ys H hw with a | ⟨a, b, c⟩
      · exact .inl a
      · refine .inr ⟨a, b, fun y H' hy o0 ho => ?_⟩
        match o0, ho with
        | [o], _ => exact ⟨[some y], rfl, rfl, c y H' hy⟩
    · rcases w1 i m ys H hw with a | ⟨a, b, c⟩
      · exact .inl a
      · refine .inr ⟨a, b, fun y H' hy => ?_⟩
        obtain ⟨o1, e1, e2, e3⟩ := c y H' hy [none] rfl
        exact e3
  rw [e] at h
  exact lc_coreG (xs := [x]) (g := gName 0) hosc ⟨L.kind, L.nocell, L.names, L.fr, L.fvs⟩ hc hi (fun cl C s₂ H₂ fp => pg_name (X := X.blk sc cl C (lcG X [x] js) s₂ H₂ fp) L.nd rfl (.inl (lookup_relabel_local L.hx)) (.inr (lookup_relabel_local L.hx))) hjs ht he hs I h hfin
theorem pe_lcTr (hosc : X.env.scope = osc) (L : LcOk osc sc x (js.map fun j => X.N.getD j "")) {rd : Cx → Prop} (hc : ∀ sc cl C N s H fp, rd (X.blk sc cl C N s H fp)) (hi : PIr rd X (.Name x px) iter wi) (hjs : ∀ j ∈ js, j < X.N.length)
    (ht : ∀ (cl : List (Str × Addr)) (C : Addr) (s₂ : Shared) (H₂ : Hp) (fp : List Addr) (pins : List (Addr × Obj)) (s' : Shared) (σ' : St) (H' : Hp) (Q : Bool → Hp → Prop), Inv (X.blk sc cl C (lcN X x js) s₂ H₂ fp) pins σ' H' s' → tt σ' H' Q →
      wpAny (model X.prog X.w) X.A (lcTests ifs (compEnvC sc cl C X.env)) (TP (X.blk sc cl C (lcN X x js) s₂ H₂ fp) pins σ' Q) (fun _ _ => False) s')
    (he : ∀ (cl : List (Str × Addr)) (C : Addr) (s₂ : Shared) (H₂ : Hp) (fp : List Addr), PE (X.blk sc cl C (lcN X x js) s₂ H₂ fp) elt te)
    (hs : ∀ x, foldedSetIterable iter X.env x = pure x := by intro _; rfl) :
    PE X (.ListComp elt [⟨.Name x px, iter, ifs, 0⟩] sc pos) (tLC wi js tt te) := by
  intro pins s σ H Q I h
  rw [eval_ListComp]
  refine lc_core (use := none) (Fin := fun ys H => ∀ p, H p = none → Q (.ref p) (upd H p (.lst ys))) hosc L hc hi hjs ht he hs I h fun D C s5 H5 ys its k m5 J oD oC hDC p1 vs z hn fin => ?_
  refine ⟨m5, hn, fun h' hsb => ?_⟩
  have J2 : Inv X pins σ H5 { s5 with heap := h', toks := s5.toks } := J.turned (it := C) (fun b o hb e => hsb.extBut b o hb e) oC.free oC.loc (.inr oC.new) oC.cel oC.pin
  have p1' : h'.get? D = some (lstObj its k) := hsb.extBut _ _ hDC p1
  have J3 : Inv X pins σ (upd H5 D (.lst ys)) { s5 with heap := h', toks := s5.toks } := J2.track oD.free oD.loc oD.new oD.cel oD.pin ⟨z, its, k, vs, p1'⟩
  exact ⟨.ref D, _, J3, rfl, fin D oD.free⟩
theorem pe_lcT (hosc : X.env.scope = osc) (L : LcOk osc sc x (js.map fun j => X.N.getD j "")) (hc : X.calm = true) (hi : PI X (.Name x px) iter wi) (hjs : ∀ j ∈ js, j < X.N.length)
    (ht : ∀ (cl : List (Str × Addr)) (C : Addr) (s₂ : Shared) (H₂ : Hp) (fp : List Addr) (pins : List (Addr × Obj)) (s' : Shared) (σ' : St) (H' : Hp) (Q : Bool → Hp → Prop), Inv (X.blk sc cl C (lcN X x js) s₂ H₂ fp) pins σ' H' s' → tt σ' H' Q →
      wpAny (model X.prog X.w) X.A (lcTests ifs (compEnvC sc cl C X.env)) (TP (X.blk sc cl C (lcN X x js) s₂ H₂ fp) pins σ' Q) (fun _ _ => False) s')
    (he : ∀ (cl : List (Str × Addr)) (C : Addr) (s₂ : Shared) (H₂ : Hp) (fp : List Addr), PE (X.blk sc cl C (lcN X x js) s₂ H₂ fp) elt te)
    (hs : ∀ x, foldedSetIterable iter X.env x = pure x := by intro _; rfl) :
    PE X (.ListComp elt [⟨.Name x px, iter, ifs, 0⟩] sc pos) (tLC wi js tt te) :=
  pe_lcTr hosc L (rd := Calm) (fun _ _ _ _ _ _ _ => hc) hi hjs ht he hs
def sLC (i : Nat) (wi : TI) (js : List Nat) (tt : TT) (te : TE) : TS := fun D σ H => tLC wi js tt te σ H fun v H1 => D.nx (σ.set i (some v)) H1
theorem ps_setLC {i : Nat} {y : Str} {py spos : Pos} (hN : X.N.Nodup) (hy : X.N[i]? = some y) (hl : Loc X.env.scope y) (hf : X.fn y = true ∨ X.env.scope.names.lookup y = some .local)
    (hosc : X.env.scope = osc) (L : LcOk osc sc x (js.map fun j => X.N.getD j "")) (hc : X.calm = true) (hi : PI X (.Name x px) iter wi) (hjs : ∀ j ∈ js, j < X.N.length)
    (ht : ∀ (cl : List (Str × Addr)) (C : Addr) (s₂ : Shared) (H₂ : Hp) (fp : List Addr) (pins : List (Addr × Obj)) (s' : Shared) (σ' : St) (H' : Hp) (Q : Bool → Hp → Prop), Inv (X.blk sc cl C (lcN X x js) s₂ H₂ fp) pins σ' H' s' → tt σ' H' Q →
      wpAny (model X.prog X.w) X.A (lcTests ifs (compEnvC sc cl C X.env)) (TP (X.blk sc cl C (lcN X x js) s₂ H₂ fp) pins σ' Q) (fun _ _ => False) s')
    (he : ∀ (cl : List (Str × Addr)) (C : Addr) (s₂ : Shared) (H₂ : Hp) (fp : List Addr), PE (X.blk sc cl C (lcN X x js) s₂ H₂ fp) elt te)
    (hsw : swapsWith (.ListComp elt [⟨.Name x px, iter, ifs, 0⟩] sc pos) (some (.Name y py)) spos.line X.env = pure true) (hs : ∀ x, foldedSetIterable iter X.env x = pure x := by intro _; rfl) :
    PS X (.Assign [.Name y py] (.ListComp elt [⟨.Name x px, iter, ifs, 0⟩] sc pos) spos) (sLC i wi js tt te) := by
  intro pins s σ H D I h
  rw [exec_Assign_Name_used _ _ _ _ hsw]
  refine wpAny_bind (wpAny_standAt (wpAny_bind ?_))
  show wpAny _ _ (do let _ ← comprehension (.ListComp elt [⟨.Name x px, iter, ifs, 0⟩] sc pos) sc X.env _ (newList []) false (eval iter X.env) (some (assign (.Name y py) X.env))) _ _ s
  have pg := pg_name (X := X) (i := i) (x := y) (pos := py) hN hy hl hf
  refine wpAny_bind (wpAny_mono (lc_core (use := some (assign (.Name y py) X.env)) (QQ := fun _ z => SP X pins D .next z) (Fin := fun ys H => ∀ p, H p = none → D.nx (σ.set i (some (.ref p))) (upd H p (.lst ys))) hosc L (rd := Calm) (fun _ _ _ _ _ _ _ => hc) hi hjs ht he hs I h fun A C s5 H5 ys its k m5 J oD oC hDC p1 vs z hn fin => ?_) (fun _ z hq => wpAny_pure (wpAny_pure hq)) fun _ _ e => e)
  have J1 : Inv X pins σ (upd H5 A (.lst ys)) s5 := J.track oD.free oD.loc oD.new oD.cel oD.pin ⟨z, its, k, vs, p1⟩
  obtain ⟨oc, es, ep, hC, hd, hr⟩ := hn
  have nocell : ∀ v, oc.data ≠ .cell v := fun v q => by rw [hd] at q; cases q
  have hCA : C ≠ A := Ne.symm hDC
  have fC : (upd H5 A (.lst ys)) C = none := by rw [upd_ne hCA]; exact oC.free
  have J2 : Inv X (pins ++ [(C, oc)]) σ (upd H5 A (.lst ys)) s5 := J1.pins_of fun p hp => (List.mem_append.mp hp).elim (fun q => J1.pin p (List.mem_append_right _ q)) fun q => by
    have e : p = (C, oc) := by simpa using q
    subst e
    exact ⟨hC, fC, oC.loc, oC.fs, nocell⟩
  refine wpAny_mono (pg _ s5 σ _ (.ref A) (.ref A) (fun σ6 H6 => σ6 = σ.set i (some (.ref A)) ∧ H6 = upd H5 A (.lst ys)) J2 rfl ⟨rfl, rfl⟩) (fun _ s6 ⟨σ6, H6, I6, e1, e2⟩ => ?_) fun _ _ e => e
  subst e1 e2
  obtain ⟨c1, c2, _⟩ := I6.pin (C, oc) (List.mem_append_right _ (List.mem_append_right _ (by simp)))
  refine ⟨m5, ⟨oc, es, ep, c1, hd, hr⟩, fun h' hsb => ?_⟩
  have J3 : Inv X pins (σ.set i (some (.ref A))) (upd H5 A (.lst ys)) s6 := I6.pins_of fun p hp => I6.pin p (List.mem_append_right _ (List.mem_append_left _ hp))
  have J4 : Inv X pins (σ.set i (some (.ref A))) (upd H5 A (.lst ys)) { s6 with heap := h', toks := s6.toks } := J3.turned (it := C) (fun b o hb e => hsb.extBut b o hb e) c2 oC.loc (.inr oC.new) oC.cel oC.pin
  exact ⟨_, _, J4, fin A oD.free⟩
end
end L2
namespace L2
open PySem PySem.Spec PyProof.Rows
section
variable {X : Cx}
def tYes : TT := fun _ H Q => Q true H
theorem pe_lc0 {sc osc : Scope} {x : Str} {js : List Nat} {elt iter : Expr} {px pos : Pos} {wi : TI} {te : TE} (hosc : X.env.scope = osc) (L : LcOk osc sc x (js.map fun j => X.N.getD j "")) (hc : X.calm = true) (hi : PI X (.Name x px) iter wi) (hjs : ∀ j ∈ js, j < X.N.length)
    (he : ∀ (cl : List (Str × Addr)) (C : Addr) (s₂ : Shared) (H₂ : Hp) (fp : List Addr), PE (X.blk sc cl C (lcN X x js) s₂ H₂ fp) elt te)
    (hs : ∀ x, foldedSetIterable iter X.env x = pure x := by intro _; rfl) :
    PE X (.ListComp elt [⟨.Name x px, iter, [], 0⟩] sc pos) (tLC wi js tYes te) :=
  pe_lcT hosc L hc hi hjs (fun cl C s₂ H₂ fp pins s' σ' H' Q I h => wpAny_pure ⟨H', I, h⟩) he hs
theorem pe_lc1 {sc osc : Scope} {x : Str} {js : List Nat} {elt iter c : Expr} {px pos : Pos} {wi : TI} {te : TE} {tt : TT} (hosc : X.env.scope = osc) (L : LcOk osc sc x (js.map fun j => X.N.getD j "")) (hc : X.calm = true) (hi : PI X (.Name x px) iter wi) (hjs : ∀ j ∈ js, j < X.N.length)
    (ht : ∀ (cl : List (Str × Addr)) (C : Addr) (s₂ : Shared) (H₂ : Hp) (fp : List Addr), PT (X.blk sc cl C (lcN X x js) s₂ H₂ fp) c tt)
    (he : ∀ (cl : List (Str × Addr)) (C : Addr) (s₂ : Shared) (H₂ : Hp) (fp : List Addr), PE (X.blk sc cl C (lcN X x js) s₂ H₂ fp) elt te)
    (hs : ∀ x, foldedSetIterable iter X.env x = pure x := by intro _; rfl) :
    PE X (.ListComp elt [⟨.Name x px, iter, [c], 0⟩] sc pos) (tLC wi js tt te) :=
  pe_lcT hosc L hc hi hjs (fun cl C s₂ H₂ fp pins s' σ' H' Q I h => wpAny_tests_one (ht cl C s₂ H₂ fp pins s' σ' H' Q I h)) he hs
theorem lc_list {K : PySem.W.Frag} {a : Addr} {xs : List V} {σ : St} {js : List Nat} {tt : TT} {te : TE} {H : Hp} {Qf : Addr → Hp → List V → Prop} (Pv : Nat → List V → Hp → Prop) (h0 : Pv 0 [] H) (hz : xs.length ≤ sizeLine)
    (hl : ∀ i ys H, i ≤ xs.length → Pv i ys H → SqL K H a xs ∧ ys.length ≤ i)
    (hs : ∀ i x ys H, xs[i]? = some x → Pv i ys H → tt (lcS σ js (some x)) H fun b H2 => if b = true then te (lcS σ js (some x)) H2 fun v H3 => Pv (i + 1) (ys ++ [v]) H3 else Pv (i + 1) ys H2)
    (mt : ∀ σ H Q Q', (∀ b H1, Q b H1 → Q' b H1) → tt σ H Q → tt σ H Q') (me : ∀ σ H Q Q', (∀ v H1, Q v H1 → Q' v H1) → te σ H Q → te σ H Q')
    (hd : ∀ ys H p, Pv xs.length ys H → H p = none → Qf p H ys) :
    ∃ W : Nat → Nat → List V → Hp → Prop, (∃ m, W 0 m [] H) ∧ ∀ i m ys H, W i m ys H →
      ((Itl K a).stop i H ∧ ∀ p, H p = none → Qf p H ys) ∨
      ((Itl K a).go i H ∧ ys.length < sizeLine ∧ ∀ x H', (Itl K a).yld i H x H' → tt (lcS σ js (some x)) H' fun b H2 =>
        if b = true then te (lcS σ js (some x)) H2 fun v H3 => ∃ m', m' < m ∧ W (i + 1) m' (ys ++ [v]) H3 else ∃ m', m' < m ∧ W (i + 1) m' ys H2) := by
  refine ⟨fun i m ys H => m = xs.length - i ∧ i ≤ xs.length ∧ Pv i ys H, ⟨xs.length, by simp, Nat.zero_le _, h0⟩, ?_⟩
  rintro i m ys H ⟨rfl, hi, p⟩
  obtain ⟨q, hy⟩ := hl i ys H hi p
  by_cases hlt : i < xs.length
  · refine .inr ⟨⟨xs, xs[i], q, by simp [hlt]⟩, by omega, fun x H' y => ?_⟩
    obtain ⟨e, y⟩ := y
    subst e
    refine mt _ _ _ _ (fun b H2 h2 => ?_) (hs i x ys _ (y xs q) p)
    cases b with
    | true =>
      rw [if_pos rfl] at h2 ⊢
      exact me _ _ _ _ (fun v H3 h3 => ⟨_, by omega, rfl, hlt, h3⟩) h2
    | false =>
      rw [if_neg Bool.false_ne_true] at h2 ⊢
      exact ⟨_, by omega, rfl, hlt, h2⟩
  · have e : i = xs.length := by omega
    subst e
    exact .inl ⟨⟨xs, q, Nat.le_refl _⟩, fun pp hp => hd ys H pp p hp⟩
theorem lc_tup {K : PySem.W.Frag} {a : Addr} {xs : List V} {σ : St} {js : List Nat} {tt : TT} {te : TE} {H : Hp} {Qf : Addr → Hp → List V → Prop} (Pv : Nat → List V → Hp → Prop) (h0 : Pv 0 [] H) (hz : xs.length ≤ sizeLine)
    (hl : ∀ i ys H, i ≤ xs.length → Pv i ys H → SqT K H a xs ∧ ys.length ≤ i)
    (hs : ∀ i x ys H, xs[i]? = some x → Pv i ys H → tt (lcS σ js (some x)) H fun b H2 => if b = true then te (lcS σ js (some x)) H2 fun v H3 => Pv (i + 1) (ys ++ [v]) H3 else Pv (i + 1) ys H2)
    (mt : ∀ σ H Q Q', (∀ b H1, Q b H1 → Q' b H1) → tt σ H Q → tt σ H Q') (me : ∀ σ H Q Q', (∀ v H1, Q v H1 → Q' v H1) → te σ H Q → te σ H Q')
    (hd : ∀ ys H p, Pv xs.length ys H → H p = none → Qf p H ys) :
    ∃ W : Nat → Nat → List V → Hp → Prop, (∃ m, W 0 m [] H) ∧ ∀ i m ys H, W i m ys H →
      ((Itt K a).stop i H ∧ ∀ p, H p = none → Qf p H ys) ∨
      ((Itt K a).go i H ∧ ys.length < sizeLine ∧ ∀ x H', (Itt K a).yld i H x H' → tt (lcS σ js (some x)) H' fun b H2 =>
        if b = true then te (lcS σ js (some x)) H2 fun v H3 => ∃ m', m' < m ∧ W (i + 1) m' (ys ++ [v]) H3 else ∃ m', m' < m ∧ W (i + 1) m' ys H2) := by
  refine ⟨fun i m ys H => m = xs.length - i ∧ i ≤ xs.length ∧ Pv i ys H, ⟨xs.length, by simp, Nat.zero_le _, h0⟩, ?_⟩
  rintro i m ys H ⟨rfl, hi, p⟩
  obtain ⟨q, hy⟩ := hl i ys H hi p
  by_cases hlt : i < xs.length
  · refine .inr ⟨⟨xs, xs[i], q, by simp [hlt]⟩, by omega, fun x H' y => ?_⟩
    obtain ⟨e, y⟩ := y
    subst e
    refine mt _ _ _ _ (fun b H2 h2 => ?_) (hs i x ys _ (y xs q) p)
    cases b with
    | true =>
      rw [if_pos rfl] at h2 ⊢
      exact me _ _ _ _ (fun v H3 h3 => ⟨_, by omega, rfl, hlt, h3⟩) h2
    | false =>
      rw [if_neg Bool.false_ne_true] at h2 ⊢
      exact ⟨_, by omega, rfl, hlt, h2⟩
  · have e : i = xs.length := by omega
    subst e
    exact .inl ⟨⟨xs, q, Nat.le_refl _⟩, fun pp hp => hd ys H pp p hp⟩
theorem idxOf_spec {x : V} : ∀ {xs : List V} {us : List Value}, Vals xs us → xs.all flatV = true → ∀ {j : Nat}, xs.findIdx? (fun y => eqV y x) = some j →
    ∃ hj : j < us.length, eqU x us[j] = true ∧ ∀ m (hm : m < us.length), m < j → eqU x us[m] = false
  | _, _, .nil, _, j, h => by simp at h
  | y :: xs, u :: us, .cons r t, f, j, h => by
    rw [List.all_cons, Bool.and_eq_true] at f
    rw [List.findIdx?_cons] at h
    by_cases hy : eqV y x = true
    · rw [if_pos hy] at h
      cases h
      refine ⟨by simp, ?_, fun m hm hlt => absurd hlt (Nat.not_lt_zero _)⟩
      show eqU x u = true
      rw [eqU_of r f.1]; exact hy
    · rw [if_neg hy] at h
      cases hq : xs.findIdx? (fun y => eqV y x) with
      | none => rw [hq] at h; cases h
      | some k =>
        rw [hq] at h
        have e : k + 1 = j := Option.some.inj h
        subst e
        obtain ⟨hk, h1, h2⟩ := idxOf_spec t f.2 hq
        refine ⟨by rw [List.length_cons]; omega, h1, fun m hm hlt => ?_⟩
        cases m with
        | zero =>
          show eqU x u = false
          rw [eqU_of r f.1]; exact Bool.eq_false_iff.mpr hy
        | succ m => exact h2 m (by rw [List.length_cons] at hm; omega) (by omega)
def rIndex (K : PySem.W.Frag) : V → List V → Hp → VK → Prop := fun x vs H Q => ∃ l xs y j, x = .ref l ∧ vs = [y] ∧ SqL K H l xs ∧ flatV y = true ∧ xs.all flatV = true ∧ xs.findIdx? (fun z => eqV z y) = some j ∧ Q (.int (j : Nat)) H
theorem mt_index : MtM X "list.index" (rIndex X.K) := by
  intro pins s σ H x vs v us Q I rx rv h
  obtain ⟨l, xs, y, j, rfl, rfl, hq, fy, fs, hj, q⟩ := h
  cases rx
  obtain ⟨u, rfl, ru⟩ := rv.one
  obtain ⟨its, r, ⟨o, n, e, hc, hd, hdat⟩, hz⟩ := I.list hq
  obtain ⟨cls, dd, dt, sl⟩ := o
  have hc' : cls = .type "list" := hc
  have hdat' : dt = .seq its.toArray n := hdat
  subst hc' hdat'
  obtain ⟨h1, h2, h3⟩ := idxOf_spec r fs hj
  have hl := r.length
  have hn := line63
  refine call_meets F.slot_list_index ⟨_, e, rfl⟩ F.entry_list_index (F.args_list_index_2 _ _) (SeqAt.list_indexAt l its.toArray n dd sl u (eqU y) j (by simpa using h1) (by omega) (by simpa using h2) (fun m hm hlt => by simpa using h3 m (by simpa using hm) hlt)) ⟨e, fun w hw => mem_eqAt ru fy r fs w (by simpa using hw), ?_⟩
  exact ⟨.int (j : Nat), H, I.tok _, ⟨_, rfl⟩, q⟩
def rExtendT (K : PySem.W.Frag) : V → List V → Hp → VK → Prop := fun x vs H Q => ∃ l b xs zs, x = .ref l ∧ vs = [.ref b] ∧ H l = some (.lst xs) ∧ SqT K H b zs ∧ xs.length + zs.length ≤ sizeLine ∧ Q .non (upd H l (.lst (xs ++ zs)))
theorem extend_tuple_any (l : Addr) (its : Array Value) (n : Nat) (b : Addr) (its2 : Array Value) (n2 : Nat) (dd : Option Addr) (sl : Array (Option Value)) (h0 : ¬(!its.isEmpty && Builtin.List.listTooLong (its.size + its2.size)) = true) (h1 : its.size ≤ sizeLine) (h2 : its.size + its2.size ≤ sizeLine + 1) :
    Meets (Builtin.«list.extend» ⟨[.ref l, .ref b], []⟩) (fun _ R s => s.heap.get? l = some { cls := .type "list", data := .seq its n } ∧ s.heap.get? b = some { cls := .type "tuple", dict := dd, data := .seq its2 n2, slots := sl } ∧
      R (.ok (.ret Value.none)) { s with heap := s.heap.update l (Obj.mapSeq fun x => x ++ its2), toks := s.toks }) :=
  .of_wp fun prog w A R s h => by
    obtain ⟨hp, g, d, tk, os⟩ := s
    obtain ⟨hl, hb, h⟩ := h
    have g1 := AutoSeq1.idx_int
    have g2 := AutoSeq1.sub_tuple_tuple
    have g3 := AutoSeq1.sub_list_list
    have g4 := AutoSeq1.sub_tuple_list
    have g5 := AutoSeq1.sub_list_tuple
    have hz : (its ++ its2).size ≤ sizeLine + 1 := by rw [Array.size_append]; exact h2
    wp_walk using (wpAny_updateSeq hl rfl (hz := h1) (_hz' := hz)), AutoSeq1.wpAny_loadPart' hl, AutoSeq1.wpAny_loadPart' hb
    exact ⟨_, rfl, h⟩
theorem mt_extendT : MtM X "list.extend" (rExtendT X.K) := by
  intro pins s σ H x vs v us Q I rx rv h
  obtain ⟨l, b, xs, zs, rfl, rfl, hH, hB, hz, q⟩ := h
  cases rx
  obtain ⟨u, rfl, ru⟩ := rv.one
  cases ru
  obtain ⟨z, its, n, r, hl, e⟩ := I.lstM hH
  obtain ⟨its2, r2, ⟨o, e2, hc, n2, hd⟩, z2⟩ := I.tuple hB
  obtain ⟨cls, dd, dt, sl⟩ := o
  have hc' : cls = .type "tuple" := hc
  have hd' : dt = .seq its2.toArray n2 := hd
  subst hc' hd'
  have hl2 := r2.length
  have hsz : its.toArray.size + its2.toArray.size ≤ sizeLine := by rw [List.size_toArray, List.size_toArray]; omega
  have hlong : ¬ (!its.toArray.isEmpty && Builtin.List.listTooLong (its.toArray.size + its2.toArray.size)) = true := by
    rw [notLongL hsz, Bool.and_false]
    exact Bool.false_ne_true
  refine call_meets F.slot_list_extend ⟨_, e, rfl⟩ F.entry_list_extend (F.args_list_extend_2 _ _)
    (extend_tuple_any l its.toArray n b its2.toArray n2 dd sl hlong (by rw [List.size_toArray]; omega) (by omega)) ⟨e, e2, ?_⟩
  refine ⟨.non, _, I.lset (its' := its ++ its2) hH e (by simp) (r.append r2) ?_, rfl, q⟩
  rw [List.length_append]
  omega
theorem range_all_get (bs : List Bool) : ((List.range bs.length).all fun i => (bs[i]?).getD true) = bs.all id := by
  rw [Bool.eq_iff_iff, List.all_eq_true, List.all_eq_true]
  constructor
  · intro h b hb
    obtain ⟨i, hi, e⟩ := List.getElem_of_mem hb
    have q := h i (List.mem_range.mpr hi)
    rw [List.getElem?_eq_getElem hi, Option.getD_some, e] at q
    exact q
  · intro h i hi
    have hi' := List.mem_range.mp hi
    rw [List.getElem?_eq_getElem hi', Option.getD_some]
    exact h _ (List.getElem_mem hi')
theorem call_all (hc : X.calm = true) : CallR X (.builtin "all") (fun xs H Q => ∃ (p : Addr) (bs : List Bool), xs = [.ref p] ∧ SqL X.K H p (bs.map V.bl) ∧ Q (.bl (bs.all id)) H) := by
  intro pins s σ H xs us Q I r h
  obtain ⟨p, bs, rfl, hq, q⟩ := h
  obtain ⟨u, rfl, rx⟩ := vals1 r
  cases rx
  obtain ⟨its, r', pl, hz⟩ := I.list hq
  have hlen : bs.length = its.length := by have := r'.length; rw [List.length_map] at this; exact this
  have hlt : p < s.heap.objs.size := by obtain ⟨_, e, _⟩ := pl.isList; exact Heap.lt_size e
  refine call_all_walk (wpAny_pyIter_list pl.isList ?_)
  refine ⟨s.heap.objs.size, [s.heap.objs.size, p], [s.heap.objs.size], its.toArray.size, _, _, fun i => (bs[i]?).getD true, rfl, Walks.list (A := X.A.in1) (I.ok.hd hc) _ p (Nat.ne_of_lt hlt) its.toArray,
    ⟨⟨_, Heap.get?_push_size _ rfl, rfl, rfl⟩, pl.isList.push _⟩, fun i v s' Q' E' hP hQ => ?_, fun h' tk hk => ?_⟩
  · have hP' : its[i]? = some v := by simpa using hP
    have hi : i < bs.length := by
      have := (List.getElem?_eq_some_iff.mp hP').1
      omega
    obtain ⟨w, hw, rw'⟩ := r'.get (i := i) (x := .bl bs[i]) (by rw [List.getElem?_map, List.getElem?_eq_getElem hi]; rfl)
    rw [hP'] at hw
    cases hw
    cases rw'
    simp only [List.getElem?_eq_getElem hi, Option.getD_some] at hQ
    exact wpAny_truthy_bool hQ
  · have kp : ∀ b o, s.heap.get? b = some o → h'.get? b = some o := fun b o e => hk b o (fun hm => by
      rw [List.mem_singleton.mp hm] at e
      exact Nat.lt_irrefl _ (Heap.lt_size e)) (Heap.get?_push_of_some _ e)
    refine ⟨.bl _, H, I.kept kp, rfl, ?_⟩
    rw [List.size_toArray, ← hlen, range_all_get]
    exact q
theorem call_sum (hc : X.calm = true) : CallR X (.builtin "sum") (fun xs H Q => ∃ (p : Addr) (ns : List Int), xs = [.ref p] ∧ SqL X.K H p (ns.map V.int) ∧ Q (.int ns.sum) H) := by
  intro pins s σ H xs us Q I r h
  obtain ⟨p, ns, rfl, hq, q⟩ := h
  obtain ⟨u, rfl, rx⟩ := vals1 r
  cases rx
  obtain ⟨its, r', pl, hz⟩ := I.list hq
  have hi : IntsAre its ns := intsAre_of r'
  obtain ⟨zs, hx⟩ := hi.allInts.items
  have hl' : s.heap.IsList p (intItems zs) := hx ▸ pl.isList
  refine sum_intListG (I.ok.hd hc) hl' fun h' tk t' hk => ?_
  have e1 : ns = zs.toList.map (·.1) := by
    rw [← nums_intItems, ← hx]
    exact (show numsOf its.toArray.toList = ns from hi.numsOf).symm
  have e2 : preSum (numAt zs) zs.size = ns.sum := by
    rw [preSum_eq, List.take_of_length_le (by simp), e1]
  rw [e2]
  exact ⟨.int ns.sum, H, I.kept hk, ⟨_, rfl⟩, q⟩
theorem call_isinst : CallR X (.builtin "isinstance") (fun xs H Q => ∃ x T t b, xs = [x, .ty T] ∧ TyOf X.K H x t ∧ PySem.W.kitOne X.K t (.type T) = some b ∧ Q (.bl b) H) := by
  intro pins s σ H xs us Q I r h
  obtain ⟨x, T, t, b, rfl, ty, e, q⟩ := h
  obtain ⟨u, w', rfl, rx, ry⟩ := vals2 r
  cases ry
  exact isinst_ok I rx ty e fun tk => ⟨.bl b, H, I.tok _, rfl, q⟩
end
end L2
namespace L2
open PySem PySem.Spec PyProof.Rows
section
variable {X : Cx}
def DicK (K : PySem.W.Frag) (P : Program) (w : World) (a : Addr) (kvs : List (Str × Value)) : Prop := (a == sysModules) = false ∧ ∃ o, K.lookup a = some o ∧ o.IsDictOf (strKind P w) kvs
theorem ix_dicK {a : Addr} {kvs : List (Str × Value)} (hd : DicK X.K X.prog X.w a kvs) : IxR X (fun x y H Q => ∃ k u v, x = .ref a ∧ y = .str k ∧ valueAt kvs k = some u ∧ RelV v u ∧ Q v H) := by
  intro value slice pins s σ H x y v u Q I rx ry h hs
  obtain ⟨k, z, vv, rfl, rfl, hv, rv, q⟩ := h
  cases rx
  obtain ⟨t, rfl⟩ := ry
  obtain ⟨_, o, hk, hdd⟩ := hd
  have D : s.heap.DictOf (strKind X.prog X.w) a kvs := Heap.dictOf_iff.mpr ⟨o, I.kIn a o hk, hdd⟩
  exact tail_any D.typeIs slot_dict_getitem.lookup (wpAny_getItem_of (strKind_is _ _ k t) D.mapOf hv ⟨vv, H, I.tok _, rv, q⟩) hs
theorem op_notIn_dicK {a : Addr} {kvs : List (Str × Value)} (hd : DicK X.K X.prog X.w a kvs) : OpR X (compareOp .NotIn) (fun x y H Q => ∃ k, x = .str k ∧ y = .ref a ∧ Q (.bl (!(valueAt kvs k).isSome)) H) := by
  intro pins s σ H x y v u Q I rx ry h
  obtain ⟨k, rfl, rfl, q⟩ := h
  cases ry
  obtain ⟨t, rfl⟩ := rx
  obtain ⟨hs, o, hk, hdd⟩ := hd
  have D : s.heap.DictOf (strKind X.prog X.w) a kvs := Heap.dictOf_iff.mpr ⟨o, I.kIn a o hk, hdd⟩
  exact wpAny_notIn_of (strKind_is _ _ k t) hs D.mapOf ⟨.bl _, H, I.tok _, rfl, q⟩
end
end L2
namespace L2
open PySem PySem.Spec PyProof.Rows
theorem bt_len : bootBuiltins "len" = some (.builtin "len") := by decide +kernel
theorem bt_all : bootBuiltins "all" = some (.builtin "all") := by decide +kernel
theorem bt_sum : bootBuiltins "sum" = some (.builtin "sum") := by decide +kernel
theorem bt_isinstance : bootBuiltins "isinstance" = some (.builtin "isinstance") := by decide +kernel
theorem bt_int : bootBuiltins "int" = some (.type "int") := by decide +kernel
theorem bt_str : bootBuiltins "str" = some (.type "str") := by decide +kernel
theorem bt_tuple : bootBuiltins "tuple" = some (.type "tuple") := by decide +kernel
theorem rel_of_abs {v : V} {u : Value} (h : absV u = some v) : RelV v u := by
  cases u <;> simp only [absV, Option.some.injEq, reduceCtorEq] at h <;> subst h <;> first | exact rfl | exact ⟨_, rfl⟩
theorem vals_of_abs : ∀ {us : List Value} {xs : List V}, us.map absV = xs.map some → Vals xs us
  | [], [], _ => .nil
  | u :: us, x :: xs, h => by
    rw [List.map_cons, List.map_cons] at h
    injection h with h1 h2
    exact .cons (rel_of_abs h1) (vals_of_abs h2)
  | [], _ :: _, h => by cases h
  | _ :: _, [], h => by cases h
theorem sqT_K {K : PySem.W.Frag} {H : Hp} {p : Addr} {od : Option Addr} {it : Array Value} {n : Nat} {sl : Array (Option Value)} {xs : List V} (l : K.lookup p = some ⟨.type "tuple", od, .seq it n, sl⟩) (v : it.toList.map absV = xs.map some) (hz : xs.length ≤ 1000) : SqT K H p xs := by
  have r := vals_of_abs v
  refine .inr ⟨_, it, n, l, rfl, rfl, ?_, r⟩
  have e : xs.length = it.size := by have := r.length; simpa using this
  rw [← e]
  exact Nat.le_of_lt (small1000 hz)
theorem dk_nil {P : Program} {w : World} : Pairs (strKind P w) [] [] ∧ ∀ e ∈ ([] : List DictEntry), ∃ k, (strKind P w).is k e.key = true ∧ e.hash = (strKind P w).hash k := ⟨.nil, fun _ h => nomatch h⟩
theorem dk_cons {P : Program} {w : World} {k : Str} {t : Tok} {v : Value} {es : List DictEntry} {kvs : List (Str × Value)} (h : Pairs (strKind P w) es kvs ∧ ∀ e ∈ es, ∃ k, (strKind P w).is k e.key = true ∧ e.hash = (strKind P w).hash k) :
    Pairs (strKind P w) (⟨hashStr w k, .str k t, v⟩ :: es) ((k, v) :: kvs) ∧ ∀ e ∈ (⟨hashStr w k, .str k t, v⟩ :: es : List DictEntry), ∃ k, (strKind P w).is k e.key = true ∧ e.hash = (strKind P w).hash k := by
  refine ⟨.cons (strKind_is _ _ k t) rfl h.1, fun e he => ?_⟩
  rcases List.mem_cons.mp he with z | z
  · subst z; exact ⟨k, strKind_is _ _ k t, rfl⟩
  · exact h.2 e z
theorem dicK_mk {P : Program} {w : World} {K : PySem.W.Frag} {p : Addr} {es : Array DictEntry} {ep : Nat} {el : List DictEntry} {kvs : List (Str × Value)} (l : K.lookup p = some ⟨.type "dict", none, .dict es ep, #[]⟩) (e : es.toList = el) (s : (p == sysModules) = false)
    (h : Pairs (strKind P w) el kvs ∧ ∀ e ∈ el, ∃ k, (strKind P w).is k e.key = true ∧ e.hash = (strKind P w).hash k) (nd : (kvs.map (·.1)).Nodup) : DicK K P w p kvs := by
  subst e
  exact ⟨s, _, l, es, ep, ⟨rfl, rfl, rfl⟩, rfl, fun x hx => h.2 x (by simpa using hx), h.1, nd⟩
end L2
namespace Sen
open PySem
inductive Sn where
  | c0 (y : Bool)
  | mk (x : Str)
  | nt (s : Sn)
  | b2 (o : Fin 4) (s t : Sn)
  | q1 (o : Bool) (x : Str) (s : Sn)
def w2 : Fin 4 → Str
  | 0 => "and"
  | 1 => "or"
  | 2 => "either"
  | 3 => "if"
namespace Sn
def word : Sn → Str
  | c0 true => "yes"
  | c0 false => "no"
  | mk _ => "mark"
  | nt _ => "not"
  | b2 o _ _ => w2 o
  | q1 true _ _ => "some"
  | q1 false _ _ => "each"
def letters : Sn → List Str
  | mk x => [x]
  | q1 _ x _ => [x]
  | _ => []
def parts : Sn → List Sn
  | nt s => [s]
  | b2 _ s t => [s, t]
  | q1 _ _ s => [s]
  | _ => []
def count : Sn → Nat
  | nt s => 1 + s.count
  | b2 _ s t => 1 + (s.count + t.count)
  | q1 _ _ s => 1 + s.count
  | _ => 1
def depth : Sn → Nat
  | nt s => 1 + s.depth
  | b2 _ s t => 1 + max s.depth t.depth
  | q1 _ _ s => 1 + s.depth
  | _ => 1
def inO (os : List Str) : Sn → Prop
  | c0 _ => True
  | mk x => x ∈ os
  | nt s => s.inO os
  | b2 _ s t => s.inO os ∧ t.inO os
  | q1 _ x s => x ∈ os ∧ s.inO os
theorem depth_pos : ∀ s : Sn, 1 ≤ s.depth
  | c0 _ => Nat.le_refl _
  | mk _ => Nat.le_refl _
  | nt _ => by unfold depth; omega
  | b2 _ _ _ => by unfold depth; omega
  | q1 _ _ _ => by unfold depth; omega
theorem count_parts : ∀ s : Sn, s.count = 1 + (s.parts.map count).sum
  | c0 _ => rfl
  | mk _ => rfl
  | nt _ => by simp [count, parts]
  | b2 _ _ _ => by simp [count, parts]
  | q1 _ _ _ => by simp [count, parts]
theorem depth_parts : ∀ (s : Sn), ∀ t ∈ s.parts, t.depth + 1 ≤ s.depth
  | c0 _, t, h => by simp [parts] at h
  | mk _, t, h => by simp [parts] at h
  | nt s, t, h => by simp [parts] at h; subst h; show t.depth + 1 ≤ 1 + t.depth; omega
  | b2 _ s u, t, h => by
    simp [parts] at h
    rcases h with h | h
    · subst h; show t.depth + 1 ≤ 1 + max t.depth u.depth; omega
    · subst h; show t.depth + 1 ≤ 1 + max s.depth t.depth; omega
  | q1 _ _ s, t, h => by simp [parts] at h; subst h; show t.depth + 1 ≤ 1 + t.depth; omega
theorem inO_parts {os : List Str} : ∀ (s : Sn), s.inO os → ∀ t ∈ s.parts, t.inO os
  | c0 _, _, t, h => by simp [parts] at h
  | mk _, _, t, h => by simp [parts] at h
  | nt s, q, t, h => by simp [parts] at h; subst h; exact q
  | b2 _ s u, q, t, h => by
    simp [parts] at h
    rcases h with h | h <;> subst h
    · exact q.1
    · exact q.2
  | q1 _ _ s, q, t, h => by simp [parts] at h; subst h; exact q.2
theorem inO_letters {os : List Str} : ∀ (s : Sn), s.inO os → ∀ x ∈ s.letters, x ∈ os
  | c0 _, _, t, h => by simp [letters] at h
  | mk _, q, t, h => by simp [letters] at h; subst h; exact q
  | nt s, q, t, h => by simp [letters] at h
  | b2 _ s u, q, t, h => by simp [letters] at h
  | q1 _ _ s, q, t, h => by simp [letters] at h; subst h; exact q.1
end Sn
end Sen
namespace L2
open PySem PySem.Spec PyProof.Rows
def strsOf : List Expr → Option (List Str)
  | [] => some []
  | .Constant (.str x) _ _ :: r => (strsOf r).map (x :: ·)
  | _ => none
theorem strsOf_cons {e : Expr} {r : List Expr} {xs : List Str} (h : strsOf (e :: r) = some xs) : ∃ x j p ys, e = .Constant (.str x) j p ∧ strsOf r = some ys ∧ xs = x :: ys := by
  cases e with
  | Constant c j p =>
    cases c with
    | str x =>
      have h' : (strsOf r).map (x :: ·) = some xs := h
      cases hr : strsOf r with
      | none => rw [hr] at h'; cases h'
      | some ys =>
        rw [hr] at h'
        exact ⟨x, j, p, ys, rfl, rfl, (Option.some.inj h').symm⟩
    | _ => cases h
  | _ => cases h
def tStrs (xs : List Str) : TA := fun _ H Q => Q (xs.map V.str) H
def tStrL (xs : List Str) : TE := fun _ H Q => xs.length ≤ sizeLine ∧ ∀ p, H p = none → Q (.ref p) (upd H p (.lst (xs.map V.str)))
def tStrT (xs : List Str) : TE := fun _ H Q => xs.length ≤ sizeLine ∧ ∀ p, H p = none → Q (.ref p) (upd H p (.tup (xs.map V.str)))
section
variable {X : Cx}
theorem pa_strs {es : List Expr} : ∀ {xs : List Str}, strsOf es = some xs → PA X es (tStrs xs) := by
  induction es with
  | nil =>
    intro xs h
    cases h
    exact fun pos pins s σ H Q I q => pa_nil pos pins s σ H Q I q
  | cons e r ih =>
    intro xs h
    obtain ⟨x, j, p, ys, rfl, hr, rfl⟩ := strsOf_cons h
    exact fun pos pins s σ H Q I q => pa_cons (pe_str (x := x) (j := j) (pos := p)) (ih hr) rfl pos pins s σ H Q I q
theorem pe_strs {es : List Expr} {pos : Pos} {xs : List Str} (h : strsOf es = some xs) : PE X (.List es pos) (tStrL xs) := by
  intro pins s σ H Q I q
  refine pe_lst (pa_strs h) pins s σ H Q I ⟨?_, q.2⟩
  rw [List.length_map]; exact q.1
theorem pe_strsT {es : List Expr} {pos : Pos} {x1} {xs : List Str} (h : strsOf es = some xs) : PE X (.Tuple es x1 pos) (tStrT xs) := by
  intro pins s σ H Q I q
  refine pe_tup (pa_strs h) pins s σ H Q I ⟨?_, q.2⟩
  rw [List.length_map]; exact q.1
def litAsg : Stmt → Option (Str × List Str)
  | .Assign [.Name x _] (.List es _) _ => (strsOf es).map (x, ·)
  | _ => none
theorem litAsg_shape {st : Stmt} {x : Str} {xs : List Str} (h : litAsg st = some (x, xs)) : ∃ p es q r, st = .Assign [.Name x p] (.List es q) r ∧ strsOf es = some xs := by
  unfold litAsg at h
  split at h
  · rename_i y p es q r
    cases hs : strsOf es with
    | none => rw [hs] at h; cases h
    | some ys =>
      rw [hs] at h
      cases h
      exact ⟨_, _, _, _, rfl, hs⟩
  · cases h
theorem ps_litL {i : Nat} {x : Str} {xs : List Str} {st : Stmt} (h : litAsg st = some (x, xs)) (hN : X.N.Nodup) (hi : X.N[i]? = some x) (hx : Loc X.env.scope x) (hf : X.fn x = true ∨ X.env.scope.names.lookup x = some .local) : PS X st (tAsg (tStrL xs) (gName i)) := by
  obtain ⟨p, es, q, r, rfl, hs⟩ := litAsg_shape h
  exact ps_set hN hi hx (pe_strs hs) rfl hf
end
end L2
set_option exponentiation.threshold 20000
namespace Sen
open PySem L2
section
variable {K : PySem.W.Frag}
theorem same_new {H : Hp} {p : Addr} (h : H p = none) (o : HO) : Same H (upd H p o) := fun b u q => by rw [upd_ne (ne_of_none q h)]; exact q
inductive spCellAt (K : PySem.W.Frag) (vs : List V) (H : Hp) (Q : VK) (E9 : XK) : Prop
  | mk (l : Addr) (ns : List Int) (i : Int) (_ : vs = [.ref l, .int i]) (_ : SqL K H l (ns.map V.int)) (_ : 0 ≤ i) (_ : ∀ v : Int, Q (.int v) H) : spCellAt K vs H Q E9
inductive spDraw (vs : List V) (H : Hp) (Q : VK) (E9 : XK) : Prop
  | mk (c : Int) (k : Nat) (b : Int) (_ : vs = [.int c, .int k, .int b]) (_ : k ≤ 40) (_ : 0 < b) (_ : b < 1073741824) (_ : ∀ r : Int, 0 ≤ r → r < b → Q (.int r) H) : spDraw vs H Q E9
def letts : List Str := ["a", "b", "c", "d", "e", "f", "g", "h"]
def IsS (H : Hp) : Sn → Addr → Prop
  | .c0 y, p => H p = some (.tup [.str (Sn.word (.c0 y))])
  | .mk x, p => H p = some (.tup [.str "mark", .str x])
  | .nt s, p => ∃ q, H p = some (.tup [.str "not", .ref q]) ∧ IsS H s q
  | .b2 o s t, p => ∃ q r, H p = some (.tup [.str (w2 o), .ref q, .ref r]) ∧ IsS H s q ∧ IsS H t r
  | .q1 o x s, p => ∃ q, H p = some (.tup [.str (if o then "some" else "each"), .str x, .ref q]) ∧ IsS H s q
def Tups (H H' : Hp) : Prop := ∀ b xs, H b = some (.tup xs) → H' b = some (.tup xs)
theorem Tups.trans {H H1 H2 : Hp} (a : Tups H H1) (b : Tups H1 H2) : Tups H H2 := fun c o h => b c o (a c o h)
theorem Tups.of {H H' : Hp} (g : Same H H') : Tups H H' := fun b xs h => g b _ h
theorem Tups.new {H : Hp} {p : Addr} (h : H p = none) (o : HO) : Tups H (upd H p o) := fun b u q => by rw [upd_ne (ne_of_none q h)]; exact q
theorem Tups.lst {H : Hp} {p : Addr} {xs : List V} (h : H p = some (.lst xs)) (o : HO) : Tups H (upd H p o) := fun b u q => by rw [upd_ne (ne_of q h (fun z => nomatch z))]; exact q
theorem IsS.mono {H H' : Hp} (g : Tups H H') : ∀ {s : Sn} {p : Addr}, IsS H s p → IsS H' s p
  | .c0 y, p, h => g _ _ h
  | .mk x, p, h => g _ _ h
  | .nt s, p, ⟨q, h, k⟩ => ⟨q, g _ _ h, k.mono g⟩
  | .b2 o s t, p, ⟨q, r, h, k, l⟩ => ⟨q, r, g _ _ h, k.mono g, l.mono g⟩
  | .q1 o x s, p, ⟨q, h, k⟩ => ⟨q, g _ _ h, k.mono g⟩
theorem q1_word (o : Bool) (x : Str) (s : Sn) : Sn.word (.q1 o x s) = if o then Str.ofString "some" else Str.ofString "each" := by cases o <;> rfl
theorem IsS.shape {H : Hp} : ∀ {s : Sn} {p : Addr}, IsS H s p → ∃ qs : List Addr, H p = some (.tup (.str s.word :: (s.letters.map V.str ++ qs.map V.ref))) ∧ Paired (IsS H) s.parts qs
  | .c0 y, p, h => ⟨[], h, .nil⟩
  | .mk x, p, h => ⟨[], h, .nil⟩
  | .nt s, p, ⟨q, h, k⟩ => ⟨[q], h, .cons k .nil⟩
  | .b2 o s t, p, ⟨q, r, h, k, l⟩ => ⟨[q, r], h, .cons k (.cons l .nil)⟩
  | .q1 o x s, p, ⟨q, h, k⟩ => ⟨[q], by rw [q1_word]; exact h, .cons k .nil⟩
theorem atI_has {α : Type} {xs : List α} {i : Int} (h0 : -(xs.length : Int) ≤ i) (h1 : i < xs.length) : ∃ (j : Nat) (v : α), atI xs i = some v ∧ xs[j]? = some v := by
  by_cases h : 0 ≤ i
  · have hj : i.toNat < xs.length := by omega
    have q := atI_nat (xs := xs) (j := i.toNat) (List.getElem?_eq_getElem hj)
    have e : ((i.toNat : Nat) : Int) = i := by omega
    rw [e] at q
    exact ⟨_, _, q, List.getElem?_eq_getElem hj⟩
  · have hj : (i + xs.length).toNat < xs.length := by omega
    refine ⟨_, _, ?_, List.getElem?_eq_getElem hj⟩
    unfold atI ixN
    rw [if_neg h, if_pos h0]
    show xs[(i + xs.length).toNat]? = _
    exact List.getElem?_eq_getElem hj
def kindsS : List Str := ["mark", "mark", "not", "and", "or", "either", "if", "and", "or", "some", "each", "yes", "no", "mark"]
structure Made (H0 H : Hp) (os : List Str) (m kd : Addr) (ps : List Addr) (d : Nat) : Prop where
  old : Same H0 H
  mad : H m = some (.lst (ps.map V.ref))
  kin : H kd = some (.lst (kindsS.map V.str))
  ne : ps ≠ []
  all : ∀ p ∈ ps, ∃ s, IsS H s p ∧ s.inO os ∧ s.depth ≤ d
theorem Made.push {H0 H : Hp} {os : List Str} {m kd p : Addr} {ps : List Addr} {d : Nat} {xs : List V} (M : Made H0 H os m kd ps d) (fm : H0 m = none) (hp : H p = none) {s : Sn} (hs : IsS (upd H p (.tup xs)) s p) (ho : s.inO os) (hd : s.depth ≤ d + 1) (hk : m ≠ kd) :
    Made H0 (upd (upd H p (.tup xs)) m (.lst ((ps ++ [p]).map V.ref))) os m kd (ps ++ [p]) (d + 1) := by
  have hm : m ≠ p := ne_of_none M.mad hp
  have hkp : kd ≠ p := ne_of_none M.kin hp
  have mad' : (upd H p (.tup xs)) m = some (.lst (ps.map V.ref)) := by rw [upd_ne hm]; exact M.mad
  have t1 : Tups H (upd H p (.tup xs)) := Tups.new hp _
  have t2 : Tups (upd H p (.tup xs)) (upd (upd H p (.tup xs)) m (.lst ((ps ++ [p]).map V.ref))) := Tups.lst mad' _
  refine ⟨fun b o h => ?_, upd_same, ?_, by simp, fun q hq => ?_⟩
  · have h1 := M.old b o h
    rw [upd_ne (ne_of_none h fm), upd_ne (ne_of_none h1 hp)]
    exact h1
  · rw [upd_ne (Ne.symm hk), upd_ne hkp]; exact M.kin
  · rcases List.mem_append.mp hq with z | z
    · obtain ⟨s', q1, q2, q3⟩ := M.all q z
      exact ⟨s', (q1.mono t1).mono t2, q2, by omega⟩
    · have z' : q = p := by simpa using z
      subst z'
      exact ⟨s, hs.mono t2, ho, hd⟩
inductive spSentence (K : PySem.W.Frag) (vs : List V) (H : Hp) (Q : VK) (E9 : XK) : Prop
  | mk (sc ol : Addr) (ns : List Int) (t m : Nat) (os : List Str) (_ : vs = [.ref sc, .int t, .int m, .ref ol]) (_ : SqL K H sc (ns.map V.int)) (_ : SqL K H ol (os.map V.str)) (_ : 0 < os.length) (_ : os.length ≤ 8) (_ : 0 < m) (_ : m ≤ 40) (_ : t ≤ 60) (_ : ∀ (p : Addr) (H' : Hp) (s : Sn), Same H H' → IsS H' s p → s.inO os → s.depth ≤ m → Q (.ref p) H') : spSentence K vs H Q E9
theorem pick_letter {os : List Str} (h0 : 0 < os.length) (r : Int) : ∃ x, x ∈ os ∧ atI (os.map V.str) (r % ((os.map V.str).length : Nat)) = some (.str x) := by
  have e : (os.map V.str).length = os.length := List.length_map _
  have m0 : 0 ≤ r % ((os.map V.str).length : Nat) := Int.emod_nonneg _ (by omega)
  have m1 : r % ((os.map V.str).length : Nat) < ((os.map V.str).length : Nat) := Int.emod_lt_of_pos _ (by omega)
  obtain ⟨j, v, q1, q2⟩ := atI_has (xs := os.map V.str) (i := r % ((os.map V.str).length : Nat)) (by omega) m1
  rw [List.getElem?_map] at q2
  cases hx : os[j]? with
  | none => rw [hx] at q2; cases q2
  | some x =>
    rw [hx] at q2
    cases q2
    exact ⟨x, List.mem_of_getElem? hx, q1⟩
theorem pick_made {ps : List Addr} {i : Int} (h0 : -(ps.length : Int) ≤ i) (h1 : i < ps.length) : ∃ p, p ∈ ps ∧ atI (ps.map V.ref) i = some (.ref p) := by
  have e : (ps.map V.ref).length = ps.length := List.length_map _
  obtain ⟨j, v, q1, q2⟩ := atI_has (xs := ps.map V.ref) (i := i) (by omega) (by omega)
  rw [List.getElem?_map] at q2
  cases hx : ps[j]? with
  | none => rw [hx] at q2; cases q2
  | some x =>
    rw [hx] at q2
    cases q2
    exact ⟨x, List.mem_of_getElem? hx, q1⟩
end
end Sen
namespace L2
open PySem
section
variable {α β : Type} {R S : α → β → Prop}
theorem pd_app : ∀ {xs ys : List α} {us ws : List β}, Paired R xs us → Paired R ys ws → Paired R (xs ++ ys) (us ++ ws)
  | _, _, _, _, .nil, s => s
  | _, _, _, _, .cons r t, s => .cons r (pd_app t s)
theorem pd_imp (f : ∀ a b, R a b → S a b) : ∀ {xs : List α} {us : List β}, Paired R xs us → Paired S xs us
  | _, _, .nil => .nil
  | _, _, .cons r t => .cons (f _ _ r) (pd_imp f t)
theorem pd_len : ∀ {xs : List α} {us : List β}, Paired R xs us → xs.length = us.length
  | _, _, .nil => rfl
  | _, _, .cons _ t => by rw [List.length_cons, List.length_cons, pd_len t]
theorem pd_ta : ∀ {xs : List α} {us : List β} {i : Nat} {u : β}, Paired R xs us → us[i]? = some u → ∃ x, xs[i]? = some x ∧ R x u
  | _, _, _, _, .nil, e => by simp at e
  | _, _, 0, _, .cons r _, e => by simp at e; subst e; exact ⟨_, rfl, r⟩
  | _, _, i + 1, x, .cons _ t, e => by
    obtain ⟨u, h1, h2⟩ := pd_ta (i := i) (u := x) t (by simpa using e)
    exact ⟨u, by simpa using h1, h2⟩
theorem take_next {α : Type} {xs : List α} {i : Nat} {x : α} (h : xs[i]? = some x) : xs.take (i + 1) = xs.take i ++ [x] := by
  rw [List.take_succ, h]
  rfl
theorem Same.seqT {K : PySem.W.Frag} {H H' : Hp} {a : Addr} {xs : List V} (e : Same H H') (h : SqT K H a xs) : SqT K H' a xs := by
  rcases h with (h | ⟨o, h⟩) | h
  · exact .inl (.inl (e _ _ h))
  · exact .inl (.inr ⟨o, e _ _ h⟩)
  · exact .inr h
theorem Same.new {H : Hp} {p : Addr} (h : H p = none) (o : HO) : Same H (upd H p o) := fun b u q => by rw [upd_ne (ne_of_none q h)]; exact q
theorem Same.over {H H' : Hp} {p : Addr} (g : Same H H') (h : H p = none) (o : HO) : Same H (upd H' p o) := fun b u q => by rw [upd_ne (ne_of_none q h)]; exact g b u q
theorem at0 {α : Type} {x : α} {xs : List α} : atI (x :: xs) 0 = some x := atI_nat (j := 0) rfl
theorem at1 {α : Type} {x y : α} {xs : List α} : atI (x :: y :: xs) 1 = some y := atI_nat (j := 1) rfl
theorem at2 {α : Type} {x y z : α} {xs : List α} : atI (x :: y :: z :: xs) 2 = some z := atI_nat (j := 2) rfl
end
section
variable {K : PySem.W.Frag} {a : Addr} {xs : List V} {σ : St} {js : List Nat} {te : TE} {H : Hp} {Qf : Addr → Hp → List V → Prop}
theorem lc_relL (R : V → V → Prop) (hq : SqL K H a xs) (hz : xs.length ≤ sizeLine)
    (hs : ∀ (i : Nat) x H', xs[i]? = some x → Same H H' → te (lcS σ js (some x)) H' fun v H3 => R x v ∧ Same H H3)
    (me : ∀ σ H Q Q', (∀ v H1, Q v H1 → Q' v H1) → te σ H Q → te σ H Q')
    (hd : ∀ ys H' p, Paired R xs ys → Same H H' → H' p = none → Qf p H' ys) :
    ∃ W : Nat → Nat → List V → Hp → Prop, (∃ m, W 0 m [] H) ∧ ∀ i m ys H, W i m ys H →
      ((Itl K a).stop i H ∧ ∀ p, H p = none → Qf p H ys) ∨
      ((Itl K a).go i H ∧ ys.length < sizeLine ∧ ∀ x H', (Itl K a).yld i H x H' → tYes (lcS σ js (some x)) H' fun b H2 =>
        if b = true then te (lcS σ js (some x)) H2 fun v H3 => ∃ m', m' < m ∧ W (i + 1) m' (ys ++ [v]) H3 else ∃ m', m' < m ∧ W (i + 1) m' ys H2) := by
  refine lc_list (fun i ys H' => Same H H' ∧ Paired R (xs.take i) ys) ⟨Same.refl _, .nil⟩ hz ?_ ?_ (fun _ _ _ _ h q => h _ _ q) me ?_
  · rintro i ys H' hi ⟨g, r⟩
    have := pd_len r
    rw [List.length_take] at this
    exact ⟨g.seq hq, by omega⟩
  · rintro i x ys H' hx ⟨g, r⟩
    show te (lcS σ js (some x)) H' fun v H3 => Same H H3 ∧ Paired R (xs.take (i + 1)) (ys ++ [v])
    refine me _ _ _ _ (fun v H3 h3 => ⟨h3.2, ?_⟩) (hs i x H' hx g)
    rw [take_next hx]
    exact pd_app r (.cons h3.1 .nil)
  · rintro ys H' p ⟨g, r⟩ hp
    rw [List.take_length] at r
    exact hd ys H' p r g hp
theorem lc_relT (R : V → V → Prop) (hq : SqT K H a xs) (hz : xs.length ≤ sizeLine)
    (hs : ∀ (i : Nat) x H', xs[i]? = some x → Same H H' → te (lcS σ js (some x)) H' fun v H3 => R x v ∧ Same H H3)
    (me : ∀ σ H Q Q', (∀ v H1, Q v H1 → Q' v H1) → te σ H Q → te σ H Q')
    (hd : ∀ ys H' p, Paired R xs ys → Same H H' → H' p = none → Qf p H' ys) :
    ∃ W : Nat → Nat → List V → Hp → Prop, (∃ m, W 0 m [] H) ∧ ∀ i m ys H, W i m ys H →
      ((Itt K a).stop i H ∧ ∀ p, H p = none → Qf p H ys) ∨
      ((Itt K a).go i H ∧ ys.length < sizeLine ∧ ∀ x H', (Itt K a).yld i H x H' → tYes (lcS σ js (some x)) H' fun b H2 =>
        if b = true then te (lcS σ js (some x)) H2 fun v H3 => ∃ m', m' < m ∧ W (i + 1) m' (ys ++ [v]) H3 else ∃ m', m' < m ∧ W (i + 1) m' ys H2) := by
  refine lc_tup (fun i ys H' => Same H H' ∧ Paired R (xs.take i) ys) ⟨Same.refl _, .nil⟩ hz ?_ ?_ (fun _ _ _ _ h q => h _ _ q) me ?_
  · rintro i ys H' hi ⟨g, r⟩
    have := pd_len r
    rw [List.length_take] at this
    exact ⟨g.seqT hq, by omega⟩
  · rintro i x ys H' hx ⟨g, r⟩
    show te (lcS σ js (some x)) H' fun v H3 => Same H H3 ∧ Paired R (xs.take (i + 1)) (ys ++ [v])
    refine me _ _ _ _ (fun v H3 h3 => ⟨h3.2, ?_⟩) (hs i x H' hx g)
    rw [take_next hx]
    exact pd_app r (.cons h3.1 .nil)
  · rintro ys H' p ⟨g, r⟩ hp
    rw [List.take_length] at r
    exact hd ys H' p r g hp
theorem pd_map {f : V → V} : ∀ {xs ys : List V}, Paired (fun x v => v = f x) xs ys → ys = xs.map f
  | _, _, .nil => rfl
  | _, _, .cons r t => by rw [List.map_cons, r, pd_map t]
end
section
variable {X : Cx} {K : PySem.W.Frag} {a : Expr} {ta : TE}
theorem call_isinstK (h : X.K = K) : CallR X (.builtin "isinstance") (fun xs H Q => ∃ x T t b, xs = [x, .ty T] ∧ TyOf K H x t ∧ PySem.W.kitOne K t (.type T) = some b ∧ Q (.bl b) H) := by subst h; exact call_isinst
theorem pt_truthK (h : X.K = K) (ha : PE X a ta) (he : ∀ whole, isTrue a X.env whole = (do let v ← whole; standAt a.pos; holding [v] (truthy v))) : PT X a (fun σ H Q => ta σ H fun x H' => ∃ k, TruV K x H' k ∧ Q k H') := by subst h; exact pt_truth ha he
def SpMono (sp : Sp) : Prop := ∀ vs H Q Q' E, (∀ v H1, Q v H1 → Q' v H1) → sp vs H Q E → sp vs H Q' E
theorem mono1 {sp : Sp} (m : SpMono sp) : ∀ σ H Q Q', (∀ v H1, Q v H1 → Q' v H1) → tCall sp [] E0 (tCons (tVar 0) tNil) σ H Q → tCall sp [] E0 (tCons (tVar 0) tNil) σ H Q' :=
  fun σ H Q Q' h ⟨v, e, q⟩ => ⟨v, e, m _ _ _ _ _ h q⟩
theorem inV_strs (x : Str) (ts : List Str) : inV (.str x) (ts.map V.str) = decide (x ∈ ts) := by
  induction ts with
  | nil => rfl
  | cons t r ih =>
    have e : inV (.str x) ((t :: r).map V.str) = ((t == x) || inV (.str x) (r.map V.str)) := rfl
    rw [e, ih]
    by_cases h : t = x
    · subst h; simp
    · have h' : ¬ x = t := fun z => h z.symm
      simp [h, h']
theorem flat_strs (ts : List Str) : (ts.map V.str).all flatV = true := by
  rw [List.all_map, List.all_eq_true]
  exact fun _ _ => rfl
theorem cut_fore {w : V} {rest : List V} {m n : Nat} (h : rest.length = m + n) : cutV (w :: rest) (some 1) (some (1 + (m : Int))) = rest.take m := by
  have e1 : HT.sIx (w :: rest).length 0 (some 1) = min 1 (w :: rest).length := HT.sIx_nat _ _ 1
  have e2 : HT.sIx (w :: rest).length (w :: rest).length (some (1 + (m : Int))) = min (1 + m) (w :: rest).length := by
    have z : (1 : Int) + (m : Int) = ((1 + m : Nat) : Int) := by omega
    rw [z]; exact HT.sIx_nat _ _ _
  have l : (w :: rest).length = m + n + 1 := by rw [List.length_cons, h]
  unfold cutV
  rw [e1, e2, l, Nat.min_eq_left (by omega), Nat.min_eq_left (by omega), List.drop_one, List.tail_cons]
  congr 1
  omega
theorem cut_rear {w : V} {rest : List V} {m n : Nat} (h : rest.length = m + n) : cutV (w :: rest) (some (1 + (m : Int))) none = rest.drop m := by
  have e2 : HT.sIx (w :: rest).length 0 (some (1 + (m : Int))) = min (1 + m) (w :: rest).length := by
    have z : (1 : Int) + (m : Int) = ((1 + m : Nat) : Int) := by omega
    rw [z]; exact HT.sIx_nat _ _ _
  have l : (w :: rest).length = m + n + 1 := by rw [List.length_cons, h]
  unfold cutV
  rw [e2, HT.sIx_none, l, Nat.min_eq_left (by omega), Nat.add_comm 1 m, List.drop_succ_cons, List.take_of_length_le]
  rw [List.length_drop, h]
  omega
theorem cut_tail {w : V} {rest : List V} : cutV (w :: rest) (some 1) none = rest := by
  have := cut_rear (w := w) (rest := rest) (m := 0) (n := rest.length) (by omega)
  simpa using this
theorem not_whole1 {w : V} {rest : List V} {i : Int} {o : Option Int} (h : 1 ≤ i) : ¬ (HT.sIx (w :: rest).length 0 (some i) = 0 ∧ HT.sIx (w :: rest).length (w :: rest).length o = (w :: rest).length) := by
  rintro ⟨h1, _⟩
  have e : HT.sIx (w :: rest).length 0 (some i) = min i.toNat (w :: rest).length := by
    have z := HT.sIx_nat (w :: rest).length 0 i.toNat
    have z2 : ((i.toNat : Nat) : Int) = i := by omega
    rw [z2] at z
    exact z
  rw [e, List.length_cons] at h1
  omega
end
end L2
namespace Sen
open PySem L2
section
variable {K : PySem.W.Frag}
def Sn.all : Sn → List Str
  | .c0 _ => []
  | .mk x => [x]
  | .nt s => s.all
  | .b2 _ s t => s.all ++ t.all
  | .q1 _ x s => x :: s.all
theorem Sn.inO_iff {os : List Str} : ∀ (s : Sn), s.inO os ↔ ∀ x ∈ s.all, x ∈ os
  | .c0 _ => by simp [Sn.all, Sn.inO]
  | .mk y => by simp [Sn.all, Sn.inO]
  | .nt s => by simp only [Sn.all, Sn.inO]; exact Sn.inO_iff s
  | .b2 _ s t => by
    simp only [Sn.all, Sn.inO, List.mem_append]
    rw [Sn.inO_iff s, Sn.inO_iff t]
    exact ⟨fun h x hx => hx.elim (h.1 x) (h.2 x), fun h => ⟨fun x hx => h x (.inl hx), fun x hx => h x (.inr hx)⟩⟩
  | .q1 _ y s => by
    simp only [Sn.all, Sn.inO, List.mem_cons]
    rw [Sn.inO_iff s]
    exact ⟨fun h x hx => hx.elim (fun e => by rw [e]; exact h.1) (h.2 x), fun h => ⟨h y (.inl rfl), fun x hx => h x (.inr hx)⟩⟩
theorem Sn.parts_le : ∀ s : Sn, s.parts.length ≤ 2
  | .c0 _ => by simp [Sn.parts]
  | .mk _ => by simp [Sn.parts]
  | .nt _ => by simp [Sn.parts]
  | .b2 _ _ _ => by simp [Sn.parts]
  | .q1 _ _ _ => by simp [Sn.parts]
theorem Sn.letters_le : ∀ s : Sn, s.letters.length ≤ 1
  | .c0 _ => by simp [Sn.letters]
  | .mk _ => by simp [Sn.letters]
  | .nt _ => by simp [Sn.letters]
  | .b2 _ _ _ => by simp [Sn.letters]
  | .q1 _ _ _ => by simp [Sn.letters]
def cnt (ss : List Sn) : Nat := (ss.map Sn.count).sum
theorem cnt_cons (s : Sn) (ss : List Sn) : cnt (s :: ss) = s.count + cnt ss := rfl
theorem cnt_app (ss ts : List Sn) : cnt (ss ++ ts) = cnt ss + cnt ts := by
  unfold cnt; rw [List.map_append, List.sum_append]
theorem cnt_parts : ∀ ss : List Sn, cnt ss = ss.length + cnt (ss.flatMap Sn.parts)
  | [] => rfl
  | s :: ss => by
    rw [cnt_cons, List.flatMap_cons, cnt_app, cnt_parts ss, Sn.count_parts s, List.length_cons]
    show 1 + cnt s.parts + _ = _
    omega
theorem cnt_len (ss : List Sn) : ss.length ≤ cnt ss := by rw [cnt_parts]; omega
theorem mem_level {ss : List Sn} {t : Sn} : t ∈ ss.flatMap Sn.parts ↔ ∃ s ∈ ss, t ∈ s.parts := List.mem_flatMap
inductive spIsMark (vs : List V) (H : Hp) (Q : VK) (E9 : XK) : Prop
  | mk (x : Str) (_ : vs = [.str x]) (_ : Q (.bl (decide (x ∈ letts))) H) : spIsMark vs H Q E9
theorem mono_isMark : SpMono spIsMark := fun vs H Q Q' E h ⟨x, e, q⟩ => ⟨x, e, h _ _ q⟩
def tb_SHAPES : List (Str × Int × Int) := [("yes", 0, 0), ("no", 0, 0), ("mark", 1, 0), ("not", 0, 1), ("and", 0, 2), ("or", 0, 2), ("either", 0, 2), ("if", 0, 2), ("some", 1, 1), ("each", 1, 1)]
theorem shape_in (s : Sn) : (s.word, ((s.letters.length : Nat) : Int), ((s.parts.length : Nat) : Int)) ∈ tb_SHAPES := by
  cases s with
  | c0 y =>
    cases y
    · show ((Str.ofString "no", (0 : Int), (0 : Int)) : Str × Int × Int) ∈ tb_SHAPES
      decide +kernel
    · show ((Str.ofString "yes", (0 : Int), (0 : Int)) : Str × Int × Int) ∈ tb_SHAPES
      decide +kernel
  | mk x =>
    show ((Str.ofString "mark", (1 : Int), (0 : Int)) : Str × Int × Int) ∈ tb_SHAPES
    decide +kernel
  | nt s =>
    show ((Str.ofString "not", (0 : Int), (1 : Int)) : Str × Int × Int) ∈ tb_SHAPES
    decide +kernel
  | b2 o s t =>
    show ((w2 o, (0 : Int), (2 : Int)) : Str × Int × Int) ∈ tb_SHAPES
    revert o
    decide +kernel
  | q1 o x s =>
    cases o
    · show ((Str.ofString "each", (1 : Int), (1 : Int)) : Str × Int × Int) ∈ tb_SHAPES
      decide +kernel
    · show ((Str.ofString "some", (1 : Int), (1 : Int)) : Str × Int × Int) ∈ tb_SHAPES
      decide +kernel
inductive spLettersOf (vs : List V) (H : Hp) (Q : VK) (E9 : XK) : Prop
  | mk (p : Addr) (x : Str) (m n : Nat) (rest : List V) (_ : vs = [.ref p]) (_ : H p = some (.tup (.str x :: rest))) (_ : (x, (m : Int), (n : Int)) ∈ tb_SHAPES) (_ : rest.length = m + n) (_ : ∀ q, H q = none → Q (.ref q) (upd H q (.tup (rest.take m)))) : spLettersOf vs H Q E9
inductive spPartsOf (vs : List V) (H : Hp) (Q : VK) (E9 : XK) : Prop
  | mk (p : Addr) (x : Str) (m n : Nat) (rest : List V) (_ : vs = [.ref p]) (_ : H p = some (.tup (.str x :: rest))) (_ : (x, (m : Int), (n : Int)) ∈ tb_SHAPES) (_ : rest.length = m + n) (_ : ∀ q, H q = none → Q (.ref q) (upd H q (.tup (rest.drop m)))) : spPartsOf vs H Q E9
theorem sen_cut {H : Hp} {s : Sn} {p : Addr} (h : IsS H s p) : ∃ qs : List Addr, H p = some (.tup (.str s.word :: (s.letters.map V.str ++ qs.map V.ref))) ∧ Paired (IsS H) s.parts qs ∧
    (s.letters.map V.str ++ qs.map V.ref).length = s.letters.length + s.parts.length ∧ (s.letters.map V.str ++ qs.map V.ref).take s.letters.length = s.letters.map V.str ∧ (s.letters.map V.str ++ qs.map V.ref).drop s.letters.length = qs.map V.ref := by
  obtain ⟨qs, h1, h2⟩ := h.shape
  have l := pd_len h2
  refine ⟨qs, h1, h2, by simp [l], ?_, ?_⟩
  · rw [List.take_append_of_le_length (by simp), List.take_of_length_le (by simp)]
  · rw [List.drop_append_of_le_length (by simp), List.drop_of_length_le (by simp)]
    rfl
inductive spPartsOfAll (K : PySem.W.Frag) (vs : List V) (H : Hp) (Q : VK) (E9 : XK) : Prop
  | mk (l : Addr) (ss : List Sn) (ps : List Addr) (_ : vs = [.ref l]) (_ : SqL K H l (ps.map V.ref)) (_ : Paired (IsS H) ss ps) (_ : ss.length ≤ 400) (_ : ∀ (l' : Addr) (H' : Hp) (ps' : List Addr), Same H H' → H l' = none → H' l' = some (.lst (ps'.map V.ref)) → Paired (IsS H') (ss.flatMap Sn.parts) ps' → Q (.ref l') H') : spPartsOfAll K vs H Q E9
inductive spShaped (vs : List V) (H : Hp) (Q : VK) (E9 : XK) : Prop
  | mk (p : Addr) (s : Sn) (_ : vs = [.ref p]) (_ : IsS H s p) (_ : (∀ x ∈ s.letters, x ∈ letts)) (_ : ∀ H', Same H H' → Q (.bl true) H') : spShaped vs H Q E9
theorem mono_shaped : SpMono spShaped := fun vs H Q Q' E h ⟨p, s, e, h1, h2, q⟩ => ⟨p, s, e, h1, h2, fun H' g => h _ _ (q H' g)⟩
abbrev VC (sn : Sn) (zs : List Addr) : List V := V.str sn.word :: (sn.letters.map V.str ++ zs.map V.ref)
inductive spIsSen (vs : List V) (H : Hp) (Q : VK) (E9 : XK) : Prop
  | mk (p : Addr) (s : Sn) (_ : vs = [.ref p]) (_ : IsS H s p) (_ : s.inO letts) (_ : s.count ≤ 200) (_ : s.depth ≤ 24) (_ : ∀ H', Same H H' → Q (.bl true) H') : spIsSen vs H Q E9
inductive spMustSen (vs : List V) (H : Hp) (Q : VK) (E9 : XK) : Prop
  | mk (p : Addr) (s : Sn) (_ : vs = [.ref p]) (_ : IsS H s p) (_ : s.inO letts) (_ : s.count ≤ 200) (_ : s.depth ≤ 24) (_ : ∀ H', Same H H' → Q .non H') : spMustSen vs H Q E9
end
end Sen
namespace L2
open PySem
def isTupT (K : PySem.W.Frag) : TT := fun σ H Q => tCB (fun xs H Q => ∃ x T t b, xs = [x, V.ty T] ∧ TyOf K H x t ∧ PySem.W.kitOne K t (.type T) = some b ∧ Q (.bl b) H) (tCons (tVar 0) (tCons (tC (.ty "tuple")) tNil)) σ H fun x H' => ∃ k, TruV K x H' k ∧ Q k H'
end L2
namespace Sen
open PySem L2
section
variable {K : PySem.W.Frag}
theorem sum_cast : ∀ ss : List Sn, (ss.map fun t => ((t.count : Nat) : Int)).sum = (((ss.map Sn.count).sum : Nat) : Int)
  | [] => rfl
  | s :: ss => by
    rw [List.map_cons, List.sum_cons, sum_cast ss, List.map_cons, List.sum_cons]
    omega
theorem pick_at {os : List Str} {i : Int} (h0 : -(os.length : Int) ≤ i) (h1 : i < os.length) : ∃ x, x ∈ os ∧ atI (os.map V.str) i = some (.str x) := by
  have e : (os.map V.str).length = os.length := List.length_map _
  obtain ⟨j, v, q1, q2⟩ := atI_has (xs := os.map V.str) (i := i) (by omega) (by omega)
  rw [List.getElem?_map] at q2
  cases hx : os[j]? with
  | none => rw [hx] at q2; cases q2
  | some x =>
    rw [hx] at q2
    cases q2
    exact ⟨x, List.mem_of_getElem? hx, q1⟩
inductive spCount (d : Nat) (vs : List V) (H : Hp) (Q : VK) (E9 : XK) : Prop
  | mk (p : Addr) (s : Sn) (_ : vs = [.ref p]) (_ : IsS H s p) (_ : s.depth ≤ d) (_ : ∀ H', Same H H' → Q (.int ((s.count : Nat) : Int)) H') : spCount d vs H Q E9
theorem mono_count (d : Nat) : SpMono (spCount d) := fun vs H Q Q' E h ⟨p, s, e, h1, h2, q⟩ => ⟨p, s, e, h1, h2, fun H' g => h _ _ (q H' g)⟩
inductive spShort (K : PySem.W.Frag) (vs : List V) (H : Hp) (Q : VK) (E9 : XK) : Prop
  | mk (sc ol : Addr) (ns : List Int) (t m : Nat) (os : List Str) (_ : vs = [.ref sc, .int t, .int m, .ref ol]) (_ : SqL K H sc (ns.map V.int)) (_ : SqL K H ol (os.map V.str)) (_ : 0 < os.length) (_ : os.length ≤ 8) (_ : 0 < m) (_ : m ≤ 20) (_ : t ≤ 60) (_ : ∀ (p : Addr) (H' : Hp) (s : Sn), Same H H' → IsS H' s p → s.inO os → s.depth ≤ 20 → s.count ≤ 60 → Q (.ref p) H') : spShort K vs H Q E9
inductive spLaw (K : PySem.W.Frag) (vs : List V) (H : Hp) (Q : VK) (E9 : XK) : Prop
  | mk (a : Addr) (ns : List Int) (_ : vs = [.ref a]) (_ : SqL K H a (ns.map V.int)) (_ : ns.length ≤ 63) (_ : ∀ H', Q (.bl true) H') : spLaw K vs H Q E9
end
end Sen
namespace L2
open PySem PySem.Spec PyProof.Rows
theorem ln_0 {α : Type} {us : List α} (h : us.length = 0) : us = [] := List.length_eq_zero_iff.mp h
theorem ln_s {α : Type} {us : List α} {n : Nat} (h : us.length = n + 1) : ∃ a vs, us = a :: vs ∧ vs.length = n := by
  cases us with
  | nil => cases h
  | cons a vs => exact ⟨a, vs, rfl, by simpa using h⟩
def fscB (N P : List Str) (sc : Scope) : Bool := (match sc.kind with | .function => true | _ => false) && !sc.isCoroutine && !sc.isGenerator && decide N.Nodup && decide (N.take P.length = P) && P.all (fun x => decide (sc.names.lookup x = some .local ∨ sc.names.lookup x = some .cell)) && sc.names.all (fun y => decide (y.2 ≠ .free))
theorem fsc {N P : List Str} {sc : Scope} (h : fscB N P sc = true) : FnScope N P sc := by
  unfold fscB at h
  simp only [Bool.and_eq_true, Bool.not_eq_true', decide_eq_true_eq, List.all_eq_true] at h
  obtain ⟨⟨⟨⟨⟨⟨h1, h2⟩, h3⟩, h4⟩, h5⟩, h6⟩, h7⟩ := h
  refine ⟨?_, h2, h3, h4, h5, h6, h7⟩
  revert h1
  cases sc.kind <;> simp
structure Df (K : PySem.W.Frag) (mg : Str → Option Value) (x : Str) (st : Stmt) (f : Addr) (d : FuncData) (ps : List Str) : Prop where
  F : Fun K x x st f d
  b : Binds K d ps []
  m : mg x = some (.ref f)
section
variable {K : PySem.W.Frag} {h : Heap} {mg : Str → Option Value} {x q : Str} {st : Stmt} {f C : Addr} {oc : Value} {od an : Option Addr} {osl : Array (Option Value)} {kV doc pm cdv ct : Value} {ps : List Str}
theorem dfm (X : K.In h) (G : h.Ns mainGlobals mg) (n : PySem.W.nsIn K mainGlobals x = some (some (.ref f))) (l : K.lookup f = some ⟨oc, od, .func (PySem.W.fnOf x x (defArgs st) (defBody st) (defScope st) .none kV doc pm an cdv ct), osl⟩)
    (c : PySem.W.codeIn K cdv x = true) (k : PySem.W.keepIn K (.ref f) = true)
    (b : ∀ (kV doc pm : Value) (an : Option Addr) (cdv ct : Value) (us : List Value), us.length = ps.length → bindArgs (PySem.W.fnOf x x (defArgs st) (defBody st) (defScope st) .none kV doc pm an cdv ct) ⟨us, []⟩ = pure (ps.zip us)) :
    Df K mg x st f (PySem.W.fnOf x x (defArgs st) (defBody st) (defScope st) .none kV doc pm an cdv ct) ps := ⟨fun_mk l c k, (fun_mk l c k).binds b, PySem.W.mg_of X G n⟩
theorem sqT_all {p : Addr} {it : Array Value} {n : Nat} {od : Option Addr} {sl : Array (Option Value)} {xs : List V} (l : K.lookup p = some ⟨.type "tuple", od, .seq it n, sl⟩) (v : it.toList.map absV = xs.map some) (h : xs.length ≤ 1000) : ∀ H, SqT K H p xs := fun H => sqT_K l v h
end
section
variable {X : Cx} {CX : CXT} {k : Nat} {f C : Addr} {fd : FuncData} {ps : List Str} {sp : Sp} {st : Stmt} {x q m : Str} {p pos apos : Pos} {e o : Expr} {es : List Expr} {t : TA} {ta : TE} {E : XK}
theorem pe_callD (F : FnOk X.prog X.w X.K X.mg X.base CX0 k f fd ps sp) (hr : Room k X.A) (D : Df X.K X.mg x st f fd ps) (ha : PA X (e :: es) t) (hg : Gl X x := by rfl) (hdb : (x == ("__debug__" : Str)) = false := by decide) (he : starEach (e :: es) X.env = (false, eval e X.env) :: starEach es X.env := by rfl) (hpl : (backTo pos (starEach es X.env)).any (·.1) = false := by rfl) :
    PE X (.Call (.Name x p) (e :: es) [] pos) (tCall sp [] E0 t) := pe_call F hr hg D.m D.F.2 D.b .nil pass0 ha hdb he hpl
theorem pe_callDX (hx : Passes CX X E) (F : FnOk X.prog X.w X.K X.mg X.base CX k f fd ps sp) (hr : Room k X.A) (D : Df X.K X.mg x st f fd ps) (ha : PA X (e :: es) t) (hg : Gl X x := by rfl) (hdb : (x == ("__debug__" : Str)) = false := by decide) (he : starEach (e :: es) X.env = (false, eval e X.env) :: starEach es X.env := by rfl) (hpl : (backTo pos (starEach es X.env)).any (·.1) = false := by rfl) :
    PE X (.Call (.Name x p) (e :: es) [] pos) (tCall sp [] E t) := pe_call F hr hg D.m D.F.2 D.b .nil hx ha hdb he hpl
end
inductive Ent (K : PySem.W.Frag) (w : World) : List DictEntry → List (Str × Int × Int) → List (Str × Value) → Prop
  | nil : Ent K w [] [] []
  | cons {k : Str} {tk : Tok} {p : Addr} {m n : Int} {od : Option Addr} {it : Array Value} {z : Nat} {sl : Array (Option Value)} {es : List DictEntry} {tb : List (Str × Int × Int)} {kvs : List (Str × Value)} (l : K.lookup p = some ⟨.type "tuple", od, .seq it z, sl⟩) (v : it.toList.map absV = [V.int m, V.int n].map some) (t : Ent K w es tb kvs) :
      Ent K w (⟨hashStr w k, .str k tk, .ref p⟩ :: es) ((k, m, n) :: tb) ((k, .ref p) :: kvs)
structure Shp (K : PySem.W.Frag) (P : Program) (w : World) (a : Addr) (kvs : List (Str × Value)) (tb : List (Str × Int × Int)) : Prop where
  d : DicK K P w a kvs
  y : ∀ k m n, (k, m, n) ∈ tb → ∃ p, valueAt kvs k = some (.ref p) ∧ ∀ H, SqT K H p [.int m, .int n]
  z : ∀ k, (∀ e ∈ tb, e.1 ≠ k) → valueAt kvs k = none
theorem Ent.keys {K : PySem.W.Frag} {w : World} {es : List DictEntry} {tb : List (Str × Int × Int)} {kvs : List (Str × Value)} (h : Ent K w es tb kvs) : kvs.map (·.1) = tb.map (·.1) := by
  induction h with
  | nil => rfl
  | cons _ _ _ ih => rw [List.map_cons, List.map_cons, ih]
theorem shp_mk {K : PySem.W.Frag} {P : Program} {w : World} {a : Addr} {es : Array DictEntry} {ep : Nat} {kvs : List (Str × Value)} {tb : List (Str × Int × Int)} (l : K.lookup a = some ⟨.type "dict", none, .dict es ep, #[]⟩) (s : (a == sysModules) = false) (nd : decide (tb.map (·.1)).Nodup = true) (h : Ent K w es.toList tb kvs) : Shp K P w a kvs tb := by
  have nk : (kvs.map (·.1)).Nodup := by rw [h.keys]; exact of_decide_eq_true nd
  obtain ⟨el, hel⟩ : ∃ el, es.toList = el := ⟨_, rfl⟩
  rw [hel] at h
  refine ⟨dicK_mk l hel s ?_ nk, ?_, ?_⟩
  · clear nd nk l s hel
    induction h with
    | nil => exact dk_nil
    | cons _ _ _ ih => exact dk_cons ih
  · clear nd l s hel
    induction h with
    | nil => intro k m n hm; cases hm
    | @cons k0 tk p m0 n0 od it z sl es tb kvs l v t ih =>
      intro k m n hm
      rw [List.map_cons, List.nodup_cons] at nk
      rcases List.mem_cons.mp hm with e | e
      · cases e
        refine ⟨p, ?_, fun H => sqT_K l v (by show 2 ≤ 1000; decide)⟩
        simp [valueAt]
      · obtain ⟨q, hq, sq⟩ := ih nk.2 k m n e
        refine ⟨q, ?_, sq⟩
        have ne : k0 ≠ k := fun z => nk.1 (by rw [z, t.keys]; exact List.mem_map.mpr ⟨_, e, rfl⟩)
        simp [valueAt, ne] at hq ⊢
        exact hq
  · clear nd nk l s hel
    induction h with
    | nil => intro k _; rfl
    | @cons k0 tk p m0 n0 od it z sl es tb kvs l v t ih =>
      intro k hk
      have ne := hk (k0, m0, n0) (List.mem_cons_self ..)
      have := ih k fun e he => hk e (List.mem_cons_of_mem _ he)
      simp [valueAt] at this ⊢
      exact ⟨ne, this⟩
theorem ps_setA {X : Cx} {pos : Pos} (i : Nat) {x : Str} {e : Expr} {te : TE} {pos' : Pos} (hN : X.N.Nodup) (he : PE X e te) (hi : X.N[i]? = some x := by rfl) (hx : Loc X.env.scope x := by exact Or.inl rfl) (hs : swapsWith e (some (.Name x pos')) pos.line X.env = pure false := by rfl) (hf : X.fn x = true ∨ X.env.scope.names.lookup x = some .local := by first | exact .inl rfl | exact .inr rfl | assumption) :
    PS X (.Assign [.Name x pos'] e pos) (tAsg te (gName i)) := ps_set hN hi hx he hs hf
def lcB (osc sc : Scope) (x : Str) (fv : List Str) : Bool := (match sc.kind with | .function => true | _ => false) && sc.names.all (fun y => decide (y.2 ≠ .cell)) && sc.names.all (fun y => decide (y.2 = .local → sc.names.lookup y.1 = some .local)) && decide (sc.names.lookup x = some .local) && sc.names.all (fun y => decide (y.2 = .free → osc.names.lookup y.1 = some .cell ∨ osc.names.lookup y.1 = some .free)) && fv.all (fun y => decide (sc.names.lookup y = some .free ∧ (osc.names.lookup y = some .cell ∨ osc.names.lookup y = some .free))) && decide (x :: fv).Nodup
theorem lco {osc sc : Scope} {x : Str} {fv : List Str} (h : lcB osc sc x fv = true) : LcOk osc sc x fv := by
  unfold lcB at h
  simp only [Bool.and_eq_true, decide_eq_true_eq, List.all_eq_true] at h
  obtain ⟨⟨⟨⟨⟨⟨h1, h2⟩, h3⟩, h4⟩, h5⟩, h6⟩, h7⟩ := h
  refine ⟨?_, h2, h3, h4, h5, h6, h7⟩
  revert h1
  cases sc.kind <;> simp
end L2
namespace L2
open PySem PySem.Spec PyProof.Rows
inductive EqD (K : PySem.W.Frag) (H : Hp) : Nat → V → V → Bool → Prop
  | flat {n : Nat} {x y : V} (fx : flatV x = true) (fy : flatV y = true) : EqD K H n x y (eqV x y)
  | tt {n : Nat} {p q : Addr} {xs ys : List V} {e : Nat → Bool} (hp : SqT K H p xs) (hq : SqT K H q ys) (h : ∀ (j : Nat) x y, xs[j]? = some x → ys[j]? = some y → EqD K H n x y (e j)) :
      EqD K H (n + 1) (.ref p) (.ref q) ((List.range (min xs.length ys.length)).all e && xs.length == ys.length)
  | ll {n : Nat} {p q : Addr} {xs ys : List V} {e : Nat → Bool} (hp : SqL K H p xs) (hq : SqL K H q ys) (hl : xs.length = ys.length) (h : ∀ (j : Nat) x y, xs[j]? = some x → ys[j]? = some y → EqD K H n x y (e j)) :
      EqD K H (n + 1) (.ref p) (.ref q) ((List.range xs.length).all e)
  | ln {n : Nat} {p q : Addr} {xs ys : List V} (hp : SqL K H p xs) (hq : SqL K H q ys) (hl : xs.length ≠ ys.length) : EqD K H (n + 1) (.ref p) (.ref q) false
  | lt {n : Nat} {p q : Addr} {xs ys : List V} (hp : SqL K H p xs) (hq : SqT K H q ys) : EqD K H (n + 1) (.ref p) (.ref q) false
  | tl {n : Nat} {p q : Addr} {xs ys : List V} (hp : SqT K H p xs) (hq : SqL K H q ys) : EqD K H (n + 1) (.ref p) (.ref q) false
  | lf {n : Nat} {p : Addr} {xs : List V} {y : V} (hp : SqL K H p xs) (fy : flatV y = true) : EqD K H (n + 1) (.ref p) y false
  | fl {n : Nat} {p : Addr} {xs : List V} {y : V} (hp : SqL K H p xs) (fy : flatV y = true) : EqD K H (n + 1) y (.ref p) false
  | tf {n : Nat} {p : Addr} {xs : List V} {y : V} (hp : SqT K H p xs) (fy : flatV y = true) : EqD K H (n + 1) (.ref p) y false
  | ft {n : Nat} {p : Addr} {xs : List V} {y : V} (hp : SqT K H p xs) (fy : flatV y = true) : EqD K H (n + 1) y (.ref p) false
section
variable {X : Cx} {pins : List (Addr × Obj)} {σ : St} {H : Hp} {s : Shared}
theorem eqV_refl {x : V} (f : flatV x = true) : eqV x x = true := by
  cases x <;> first | rfl | (simp [eqV]; done) | exact absurd (show false = true from f) Bool.false_ne_true
theorem list_not_tuple (I : Inv X pins σ H s) {p : Addr} {xs ys : List V} (h : SqL X.K H p xs) (k : SqT X.K H p ys) : False := by
  obtain ⟨_, _, ⟨o, n, e, c, _⟩, _⟩ := I.list h
  obtain ⟨_, _, ⟨o', e', c', _⟩, _⟩ := I.tuple k
  rw [e] at e'
  cases e'
  rw [c] at c'
  injection c' with z
  exact absurd z (by decide)
theorem EqD.refl (I : Inv X pins σ H s) {n : Nat} {x y : V} {b : Bool} (h : EqD X.K H n x y b) : x = y → b = true := by
  induction h with
  | flat fx fy => intro e; subst e; exact eqV_refl fx
  | tt hp hq h ih =>
    intro e
    cases e
    have ee := I.tuple_inj hp hq
    subst ee
    rw [Nat.min_self, beq_self_eq_true, Bool.and_true, List.all_eq_true]
    intro j hj
    have hj' := List.mem_range.mp hj
    exact ih j _ _ (List.getElem?_eq_getElem hj') (List.getElem?_eq_getElem hj') rfl
  | ll hp hq hl h ih =>
    intro e
    cases e
    have ee := I.list_inj hp hq
    subst ee
    rw [List.all_eq_true]
    intro j hj
    have hj' := List.mem_range.mp hj
    exact ih j _ _ (List.getElem?_eq_getElem hj') (List.getElem?_eq_getElem hj') rfl
  | ln hp hq hl =>
    intro e
    cases e
    exact absurd (congrArg List.length (I.list_inj hp hq)) hl
  | lt hp hq => intro e; cases e; exact (list_not_tuple I hp hq).elim
  | tl hp hq => intro e; cases e; exact (list_not_tuple I hq hp).elim
  | lf hp fy => intro e; subst e; exact absurd (show false = true from fy) Bool.false_ne_true
  | fl hp fy => intro e; subst e; exact absurd (show false = true from fy) Bool.false_ne_true
  | tf hp fy => intro e; subst e; exact absurd (show false = true from fy) Bool.false_ne_true
  | ft hp fy => intro e; subst e; exact absurd (show false = true from fy) Bool.false_ne_true
theorem flat_list {A : Around} {u : Value} {y : V} {p : Addr} {its : Array Value} (hl : s.heap.IsList p its) (fy : flatV y = true) (ry : RelV y u) (hu : A.units < cLine) : SeqAt.RcAt A s (.ref p) u false ∧ SeqAt.EqAt A s (.ref p) u false ∧ SeqAt.RcAt A s u (.ref p) false ∧ SeqAt.EqAt A s u (.ref p) false ∧ SeqAt.RcNeAt A s (.ref p) u true ∧ SeqAt.RcNeAt A s u (.ref p) true := by
  cases y with
  | non => cases ry; exact ⟨.list_none hl hu, .list_none hl hu, .none_list hl hu, .none_list hl hu, .list_none hl hu, .none_list hl hu⟩
  | bl b => cases ry; exact ⟨.list_bool b hl hu, .list_bool b hl hu, .bool_list b hl hu, .bool_list b hl hu, .list_bool b hl hu, .bool_list b hl hu⟩
  | int i => obtain ⟨t, rfl⟩ := ry; exact ⟨.list_int i t hl hu, .list_int i t hl hu, .int_list i t hl hu, .int_list i t hl hu, .list_int i t hl hu, .int_list i t hl hu⟩
  | str i => obtain ⟨t, rfl⟩ := ry; exact ⟨.list_str i t hl hu, .list_str i t hl hu, .str_list i t hl hu, .str_list i t hl hu, .list_str i t hl hu, .str_list i t hl hu⟩
  | _ => exact absurd (show false = true from fy) Bool.false_ne_true
theorem flat_tuple {A : Around} {u : Value} {y : V} {p : Addr} {its : Array Value} (hl : s.heap.IsTuple p its) (fy : flatV y = true) (ry : RelV y u) (hu : A.units < cLine) : SeqAt.RcAt A s (.ref p) u false ∧ SeqAt.EqAt A s (.ref p) u false ∧ SeqAt.RcAt A s u (.ref p) false ∧ SeqAt.EqAt A s u (.ref p) false ∧ SeqAt.RcNeAt A s (.ref p) u true ∧ SeqAt.RcNeAt A s u (.ref p) true := by
  cases y with
  | non => cases ry; exact ⟨.tuple_none hl hu, .tuple_none hl hu, .none_tuple hl hu, .none_tuple hl hu, .tuple_none hl hu, .none_tuple hl hu⟩
  | bl b => cases ry; exact ⟨.tuple_bool b hl hu, .tuple_bool b hl hu, .bool_tuple b hl hu, .bool_tuple b hl hu, .tuple_bool b hl hu, .bool_tuple b hl hu⟩
  | int i => obtain ⟨t, rfl⟩ := ry; exact ⟨.tuple_int i t hl hu, .tuple_int i t hl hu, .int_tuple i t hl hu, .int_tuple i t hl hu, .tuple_int i t hl hu, .int_tuple i t hl hu⟩
  | str i => obtain ⟨t, rfl⟩ := ry; exact ⟨.tuple_str i t hl hu, .tuple_str i t hl hu, .str_tuple i t hl hu, .str_tuple i t hl hu, .tuple_str i t hl hu, .str_tuple i t hl hu⟩
  | _ => exact absurd (show false = true from fy) Bool.false_ne_true
theorem item_at {xs : List V} {us : List Value} (r : Vals xs us) {j : Nat} (h : j < us.toArray.size) : ∃ x, xs[j]? = some x ∧ RelV x us.toArray[j] := by
  have hl := r.length
  have hj : j < xs.length := by simp at h; omega
  obtain ⟨u, hu, ru⟩ := r.get (List.getElem?_eq_getElem hj)
  refine ⟨xs[j], List.getElem?_eq_getElem hj, ?_⟩
  have e : us.toArray[j] = u := by
    have := (List.getElem?_eq_some_iff.mp hu).2
    simpa using this
  rw [e]; exact ru
theorem EqD.at {n : Nat} {x y : V} {b : Bool} (h : EqD X.K H n x y b) (I : Inv X pins σ H s) : ∀ {A : Around} {u v : Value}, RelV x u → RelV y v → A.units + n < cLine → SeqAt.EqAt A s u v b := by
  induction h with
  | flat fx fy => intro A u v rx ry _; exact eqAt_V rx ry fx fy
  | @tt n p q xs ys e hp hq h ih =>
    intro A u v rx ry hu
    cases rx
    cases ry
    obtain ⟨us, r1, t1, _⟩ := I.tuple hp
    obtain ⟨ws, r2, t2, _⟩ := I.tuple hq
    have l1 := r1.length
    have l2 := r2.length
    by_cases hne : p = q
    · subst hne
      have z := (EqD.tt hp hq h).refl I rfl
      rw [z]
      exact SeqAt.EqAt.same _
    · refine SeqAt.EqAt.of_refs hne ?_
      have z := SeqAt.RcAt.tuples (A := A) (e := e) t1 t2 (by omega) fun j h1 h2 => by
        obtain ⟨x, hx, rx⟩ := item_at r1 h1
        obtain ⟨y, hy, ry⟩ := item_at r2 h2
        exact ih j x y hx hy rx ry (by show A.units + 1 + n < cLine; omega)
      rw [List.size_toArray, List.size_toArray, ← l1, ← l2] at z
      exact z
  | @ll n p q xs ys e hp hq hl h ih =>
    intro A u v rx ry hu
    cases rx
    cases ry
    obtain ⟨us, r1, t1, _⟩ := I.list hp
    obtain ⟨ws, r2, t2, _⟩ := I.list hq
    have l1 := r1.length
    have l2 := r2.length
    by_cases hne : p = q
    · subst hne
      have z := (EqD.ll hp hq hl h).refl I rfl
      rw [z]
      exact SeqAt.EqAt.same _
    · refine SeqAt.EqAt.of_refs hne ?_
      have z := SeqAt.RcAt.lists (A := A) (e := e) t1.isList t2.isList (by simp; omega) (by omega) fun j h1 h2 => by
        obtain ⟨x, hx, rx⟩ := item_at r1 h1
        obtain ⟨y, hy, ry⟩ := item_at r2 h2
        exact ih j x y hx hy rx ry (by show A.units + 1 + n < cLine; omega)
      rw [List.size_toArray, ← l1] at z
      exact z
  | @ln n p q xs ys hp hq hl =>
    intro A u v rx ry hu
    cases rx
    cases ry
    obtain ⟨us, r1, t1, _⟩ := I.list hp
    obtain ⟨ws, r2, t2, _⟩ := I.list hq
    have l1 := r1.length
    have l2 := r2.length
    have hne : p ≠ q := fun e => by subst e; exact hl (congrArg List.length (I.list_inj hp hq))
    exact SeqAt.EqAt.of_refs hne (SeqAt.RcAt.lists_lengths t1.isList t2.isList (by simp; omega) (by omega))
  | lt hp hq =>
    intro A u v rx ry hu
    cases rx
    cases ry
    obtain ⟨us, r1, t1, _⟩ := I.list hp
    obtain ⟨ws, r2, t2, _⟩ := I.tuple hq
    exact SeqAt.EqAt.list_tuple t1.isList t2 (by omega)
  | tl hp hq =>
    intro A u v rx ry hu
    cases rx
    cases ry
    obtain ⟨us, r1, t1, _⟩ := I.tuple hp
    obtain ⟨ws, r2, t2, _⟩ := I.list hq
    exact SeqAt.EqAt.tuple_list t1 t2.isList (by omega)
  | lf hp fy =>
    intro A u v rx ry hu
    cases rx
    obtain ⟨us, r1, t1, _⟩ := I.list hp
    exact (flat_list t1.isList fy ry (by omega)).2.1
  | fl hp fy =>
    intro A u v rx ry hu
    cases ry
    obtain ⟨us, r1, t1, _⟩ := I.list hp
    exact (flat_list t1.isList fy rx (by omega)).2.2.2.1
  | tf hp fy =>
    intro A u v rx ry hu
    cases rx
    obtain ⟨us, r1, t1, _⟩ := I.tuple hp
    exact (flat_tuple t1 fy ry (by omega)).2.1
  | ft hp fy =>
    intro A u v rx ry hu
    cases ry
    obtain ⟨us, r1, t1, _⟩ := I.tuple hp
    exact (flat_tuple t1 fy rx (by omega)).2.2.2.1
theorem EqD.rc {n : Nat} {x y : V} {b : Bool} (h : EqD X.K H n x y b) (I : Inv X pins σ H s) (hn : ¬ (flatV x = true ∧ flatV y = true)) {A : Around} {u v : Value} (rx : RelV x u) (ry : RelV y v) (hu : A.units + n < cLine) : SeqAt.RcAt A s u v b ∧ SeqAt.RcNeAt A s u v (!b) := by
  cases h with
  | flat fx fy => exact absurd ⟨fx, fy⟩ hn
  | @tt n p q xs ys e hp hq h =>
    cases rx
    cases ry
    obtain ⟨us, r1, t1, _⟩ := I.tuple hp
    obtain ⟨ws, r2, t2, _⟩ := I.tuple hq
    have l1 := r1.length
    have l2 := r2.length
    have he : ∀ j (h1 : j < us.toArray.size) (h2 : j < ws.toArray.size), SeqAt.EqAt A.in1 s us.toArray[j] ws.toArray[j] (e j) := fun j h1 h2 => by
      obtain ⟨x, hx, rx⟩ := item_at r1 h1
      obtain ⟨y, hy, ry⟩ := item_at r2 h2
      exact (h j x y hx hy).at I rx ry (by show A.units + 1 + n < cLine; omega)
    have z := SeqAt.RcAt.tuples (A := A) (e := e) t1 t2 (by omega) he
    have z2 := SeqAt.RcNeAt.tuples (A := A) (e := e) t1 t2 (by omega) he
    rw [List.size_toArray, List.size_toArray, ← l1, ← l2] at z z2
    exact ⟨z, z2⟩
  | @ll n p q xs ys e hp hq hl h =>
    cases rx
    cases ry
    obtain ⟨us, r1, t1, _⟩ := I.list hp
    obtain ⟨ws, r2, t2, _⟩ := I.list hq
    have l1 := r1.length
    have l2 := r2.length
    have he : ∀ j (h1 : j < us.toArray.size) (h2 : j < ws.toArray.size), SeqAt.EqAt A.in1 s us.toArray[j] ws.toArray[j] (e j) := fun j h1 h2 => by
      obtain ⟨x, hx, rx⟩ := item_at r1 h1
      obtain ⟨y, hy, ry⟩ := item_at r2 h2
      exact (h j x y hx hy).at I rx ry (by show A.units + 1 + n < cLine; omega)
    have z := SeqAt.RcAt.lists (A := A) (e := e) t1.isList t2.isList (by simp; omega) (by omega) he
    have z2 := SeqAt.RcNeAt.lists (A := A) (e := e) t1.isList t2.isList (by simp; omega) (by omega) he
    rw [List.size_toArray, ← l1] at z z2
    exact ⟨z, z2⟩
  | @ln n p q xs ys hp hq hl =>
    cases rx
    cases ry
    obtain ⟨us, r1, t1, _⟩ := I.list hp
    obtain ⟨ws, r2, t2, _⟩ := I.list hq
    have l1 := r1.length
    have l2 := r2.length
    exact ⟨SeqAt.RcAt.lists_lengths t1.isList t2.isList (by simp; omega) (by omega), SeqAt.RcNeAt.lists_lengths t1.isList t2.isList (by simp; omega) (by omega)⟩
  | lt hp hq =>
    cases rx
    cases ry
    obtain ⟨us, r1, t1, _⟩ := I.list hp
    obtain ⟨ws, r2, t2, _⟩ := I.tuple hq
    exact ⟨SeqAt.RcAt.list_tuple t1.isList t2 (by omega), SeqAt.RcNeAt.list_tuple t1.isList t2 (by omega)⟩
  | tl hp hq =>
    cases rx
    cases ry
    obtain ⟨us, r1, t1, _⟩ := I.tuple hp
    obtain ⟨ws, r2, t2, _⟩ := I.list hq
    exact ⟨SeqAt.RcAt.tuple_list t1 t2.isList (by omega), SeqAt.RcNeAt.tuple_list t1 t2.isList (by omega)⟩
  | lf hp fy =>
    cases rx
    obtain ⟨us, r1, t1, _⟩ := I.list hp
    have z := flat_list (A := A) t1.isList fy ry (by omega)
    exact ⟨z.1, z.2.2.2.2.1⟩
  | fl hp fy =>
    cases ry
    obtain ⟨us, r1, t1, _⟩ := I.list hp
    have z := flat_list (A := A) t1.isList fy rx (by omega)
    exact ⟨z.2.2.1, z.2.2.2.2.2⟩
  | tf hp fy =>
    cases rx
    obtain ⟨us, r1, t1, _⟩ := I.tuple hp
    have z := flat_tuple (A := A) t1 fy ry (by omega)
    exact ⟨z.1, z.2.2.2.2.1⟩
  | ft hp fy =>
    cases ry
    obtain ⟨us, r1, t1, _⟩ := I.tuple hp
    have z := flat_tuple (A := A) t1 fy rx (by omega)
    exact ⟨z.2.2.1, z.2.2.2.2.2⟩
end
section
variable {X : Cx}
theorem op_eqD {K : PySem.W.Frag} (hK : X.K = K) (hu : X.A.units + 8 < cLine) : OpR X (compareOp .Eq) (fun x y H Q => ∃ b, ¬ (flatV x = true ∧ flatV y = true) ∧ EqD K H 8 x y b ∧ Q (.bl b) H) := by
  subst hK
  intro pins s σ H x y v u Q I rx ry h
  obtain ⟨b, hn, he, q⟩ := h
  exact (he.rc I hn rx ry hu).1 X.prog X.w X.xe _ ⟨.bl b, H, I, rfl, q⟩
theorem hu8 {A : Around} {k : Nat} (hr : Room k A) : A.units + 8 < cLine := by have := hr.units; omega
theorem any_at {K : PySem.W.Frag} {H : Hp} {x : V} {n : Nat} {e : V → Bool} : ∀ {xs : List V} {us : List Value}, Vals xs us → (∀ y ∈ xs, EqD K H n y x (e y)) → ∃ f : Value → Bool, (∀ (i : Nat) y u, xs[i]? = some y → us[i]? = some u → f u = e y) ∧ us.any f = xs.any e := by
  intro xs us r h
  refine ⟨fun u => match absV u with | some y => e y | none => false, fun i y u hy hu => ?_, ?_⟩
  · obtain ⟨u', hu', ru⟩ := r.get hy
    rw [hu] at hu'
    cases hu'
    show (match absV u with | some y => e y | none => false) = e y
    rw [ru.abs]
  · clear h
    induction r with
    | nil => rfl
    | cons r t ih =>
      rw [List.any_cons, List.any_cons, ih]
      congr 1
      show (match absV _ with | some y => e y | none => false) = _
      rw [r.abs]
def rInD (K : PySem.W.Frag) (neg : Bool) : R2 := fun x y H Q => ∃ (p : Addr) (xs : List V) (e : V → Bool), y = .ref p ∧ (SqL K H p xs ∨ SqT K H p xs) ∧ (∀ z ∈ xs, EqD K H 8 z x (e z)) ∧ Q (.bl (if neg then !xs.any e else xs.any e)) H
theorem op_inD {K : PySem.W.Frag} (hK : X.K = K) (hu : X.A.units + 9 < cLine) : OpR X (compareOp .In) (rInD K false) := by
  subst hK
  intro pins s σ H x y v u Q I rx ry h
  obtain ⟨p, xs, e, rfl, hq, he, q⟩ := h
  cases ry
  rcases hq with hq | hq
  · obtain ⟨us, r, pl, hz⟩ := I.list hq
    obtain ⟨f, f1, f2⟩ := any_at r he
    refine SeqAt.in_listAt f pl.isList (fun w hw => ?_) ⟨.bl _, H, I, rfl, ?_⟩
    · have hw' : w ∈ us := by simpa using hw
      obtain ⟨i, hi, ew⟩ := List.getElem_of_mem hw'
      have hx : i < xs.length := by rw [r.length]; exact hi
      have z := f1 i xs[i] w (List.getElem?_eq_getElem hx) (by rw [List.getElem?_eq_getElem hi, ew])
      obtain ⟨w', hw2, rw'⟩ := r.get (List.getElem?_eq_getElem hx)
      rw [List.getElem?_eq_getElem hi, ew] at hw2
      cases hw2
      rw [z]
      exact (he _ (List.getElem_mem hx)).at I rw' rx (by show X.A.units + 1 + 8 < cLine; omega)
    · rw [show us.toArray.any f = us.any f by simp, f2]
      exact q
  · obtain ⟨us, r, pl, hz⟩ := I.tuple hq
    obtain ⟨f, f1, f2⟩ := any_at r he
    refine SeqAt.in_tupleAt f pl (fun w hw => ?_) ⟨.bl _, H, I, rfl, ?_⟩
    · have hw' : w ∈ us := by simpa using hw
      obtain ⟨i, hi, ew⟩ := List.getElem_of_mem hw'
      have hx : i < xs.length := by rw [r.length]; exact hi
      have z := f1 i xs[i] w (List.getElem?_eq_getElem hx) (by rw [List.getElem?_eq_getElem hi, ew])
      obtain ⟨w', hw2, rw'⟩ := r.get (List.getElem?_eq_getElem hx)
      rw [List.getElem?_eq_getElem hi, ew] at hw2
      cases hw2
      rw [z]
      exact (he _ (List.getElem_mem hx)).at I rw' rx (by show X.A.units + 1 + 8 < cLine; omega)
    · rw [show us.toArray.any f = us.any f by simp, f2]
      exact q
end
end L2
namespace L2
theorem hu9 {A : PySem.Around} {k : Nat} (hr : Room k A) : A.units + 9 < PySem.cLine := by have := hr.units; omega
end L2
namespace L2
open PySem
theorem cutK {X : Cx} {all rest : List Stmt} {D : Ends} {Tf : TS → TS} {Pre : St → Hp → Prop} (Mid : St → Hp → Prop) (h1 : ∀ t, PSs X rest t → PSs X all (Tf t)) (h : ∀ u : TS, (∀ σ H, Mid σ H → u D σ H) → ∀ σ H, Pre σ H → Tf u D σ H)
    (hr : ∃ t, PSs X rest t ∧ ∀ σ H, Mid σ H → t D σ H) : ∃ t, PSs X all t ∧ ∀ σ H, Pre σ H → t D σ H :=
  let ⟨t, a, b⟩ := hr
  ⟨Tf t, h1 t a, h t b⟩
theorem cut0 {X : Cx} {all : List Stmt} {D : Ends} {σ : St} {H : Hp} (h : ∃ t, PSs X all t ∧ ∀ σ' H', (σ' = σ ∧ H' = H) → t D σ' H') : ∃ t, PSs X all t ∧ t D σ H :=
  let ⟨t, a, b⟩ := h
  ⟨t, a, b _ _ ⟨rfl, rfl⟩⟩
end L2
namespace L2
open PySem PySem.Spec PyProof.Rows
def Its (x : Str) : It := { go := fun i _ => i < x.cps.size, yld := fun i H v H' => H' = H ∧ ∃ c, x.cps[i]? = some c ∧ v = .str ⟨#[c]⟩, stop := fun i _ => i = x.cps.size }
theorem turn_str {P : Program} {w : World} {K : PySem.W.Frag} {tg : Expr} (it : Addr) (x : Str) (t : Tok) : Turn P w K tg (Its x) [it] it (fun i h => h.IsStrIter it "str_ascii_iterator" x t i) where
  mem := by simp
  obj := fun i h st b hb => by
    have e : b = it := by simpa using hb
    subst e
    obtain ⟨o, e, c, d⟩ := st
    exact ⟨o, e, fun v z => by rw [d] at z; cases z⟩
  keep := fun i h h' st k => by
    obtain ⟨o, e, c, d⟩ := st
    exact ⟨o, k it (by simp) o e, c, d⟩
  item := by
    intro X hP hw hK hc i pins s σ H E I hf st hg
    subst hP hw hK
    obtain ⟨f0, f1, f2, f3, f4, f5⟩ := hf it (by simp)
    have W := Walks.strAscii (prog := X.prog) (w := X.w) (I.ok.hd hc) it x t
    refine W.item i s _ _ hg st fun v h' tk hv st' kk => ?_
    obtain ⟨c, u, hc', rfl⟩ := hv
    have I1 : Inv X pins σ H { s with heap := h', toks := tk } := I.turned (fun b o hb e => kk b o (by simpa using hb) e) f0 f1 f3 f4 f5
    obtain ⟨o, e, cc, d⟩ := id st'
    exact ⟨_, rfl, go_of (s := { s with heap := h', toks := tk }) e cc d (by decide) ⟨.str ⟨#[c]⟩, H, I1, ⟨u, rfl⟩, ⟨rfl, c, hc', rfl⟩, st', fun b hb => (hf b hb).1⟩⟩
  done := by
    intro X hP hw hK hc i pins s σ H E I hf st hg
    subst hP hw hK
    obtain ⟨f0, f1, f2, f3, f4, f5⟩ := hf it (by simp)
    have W := Walks.strAscii (prog := X.prog) (w := X.w) (I.ok.hd hc) it x t
    have e : i = x.cps.size := hg
    subst e
    exact W.done s _ _ st fun h' tk kk => ⟨rfl, I.turned (fun b o hb e => kk b o (by simpa using hb) e) f0 f1 f3 f4 f5⟩
  self := fun _ _ _ _ _ st h => wpAny_pyIter_striter_ascii st h
section
variable {X : Cx} {tg : Expr}
def iStr (tl : TE) : TI := fun σ H R => tl σ H fun x H1 => ∃ z : Str, x = .str z ∧ (z.cps.all fun c => decide (c < 128)) = true ∧ R (Its z) H1
theorem pi_str {l : Expr} {tl : TE} (hl : PE X l tl) : PI X tg l (iStr tl) := by
  intro pins s σ H R I h
  refine thn (hl pins s σ H _ I h) fun v s1 ⟨x, H1, I1, r1, q1⟩ => ?_
  obtain ⟨z, e, ha, q⟩ := q1
  subst e
  obtain ⟨t, rfl⟩ := r1
  refine wpAny_pyIter_ascii ha ?_
  refine ⟨s1.heap.objs.size, [s1.heap.objs.size], _, _, H1, rfl, I1.kept (t' := s1.toks) fun b o e => Heap.get?_push_of_some _ e, turn_str _ z t, ⟨_, Heap.get?_push_size _ rfl, rfl, rfl⟩, fun b hb => ?_, q⟩
  have e : b = s1.heap.objs.size := by simpa using hb
  subst e
  exact I1.fpOk (Nat.le_refl _) (I1.hok.fresh (Nat.le_refl _))
end
end L2
namespace L2
open PySem PySem.Spec PyProof.Rows
section
variable {X : Cx}
def rAddL (K : PySem.W.Frag) : R2 := fun x y H Q => ∃ p q xs ys, x = .ref p ∧ y = .ref q ∧ SqL K H p xs ∧ SqL K H q ys ∧ xs.length + ys.length ≤ sizeLine ∧ ∀ l, H l = none → Q (.ref l) (upd H l (.lst (xs ++ ys)))
theorem op_addL : OpR X (binaryOp .Add) (rAddL X.K) := by
  intro pins s σ H x y v u Q I rx ry h
  obtain ⟨p, q, xs, ys, rfl, rfl, hp, hq, hz, h⟩ := h
  cases rx
  cases ry
  obtain ⟨its1, rv1, pl1, hz1⟩ := I.list hp
  obtain ⟨its2, rv2, pl2, hz2⟩ := I.list hq
  obtain ⟨⟨cls, dd, data, sl⟩, ho, hc, n, hd⟩ := id pl1.isList
  obtain ⟨⟨cls2, dd2, data2, sl2⟩, ho2, hc2, n2, hd2⟩ := id pl2.isList
  simp only at hc hd hc2 hd2
  subst hc hd hc2 hd2
  have l1 := rv1.length
  have l2 := rv2.length
  have e : its1.toArray ++ its2.toArray = (its1 ++ its2).toArray := by simp
  refine concat_meets ⟨_, ho, rfl⟩ ⟨_, ho2, rfl⟩ noFill_list_add seq_list_add PySem.F.slot_list_add PySem.F.entry_list_add (PySem.F.args_list_add_2 _ _) (list_addW p q its1.toArray its2.toArray n n2 dd dd2 sl sl2 (by simp; omega)) ⟨ho, ho2, ?_⟩
  rw [e]
  refine ⟨.ref s.heap.objs.size, _, I.laid (t' := s.toks) (o := .lst (xs ++ ys)) (fun b o e => Heap.get?_push_of_some _ e) (Nat.le_refl _) ?_, rfl, h _ (I.hok.fresh (Nat.le_refl _))⟩
  exact ⟨by rw [List.length_append]; exact hz, its1 ++ its2, 0, rv1.append rv2, Heap.get?_push_size _ rfl⟩
end
end L2
namespace L2
open PySem
theorem bt_max : bootBuiltins "max" = some (.builtin "max") := by decide +kernel
end L2
namespace L2
open PySem PySem.Spec PyProof.Rows
def ExcO (h : Heap) (e : Addr) (cls : Value) : Prop := ∃ oe vs, h.get? e = some oe ∧ oe.cls = cls ∧ oe.dict = none ∧ oe.data = .fields vs ∧ vs[2]? = some .none ∧ (vs[1]? = some .none ∨ ∃ T oT ts, vs[1]? = some (.ref T) ∧ T ≠ e ∧ h.get? T = some oT ∧ oT.data = .fields ts ∧ ts[3]? = some .none)
structure LeftS (l : List Env) (e : Addr) (cls : Value) (h h' : Heap) : Prop where
  keep : ∀ b o, h.get? b = some o → b ∉ frs l → b ≠ e → h'.get? b = some o
  slot : ∀ b o, h.get? b = some o → b ∈ frs l → b ≠ e → ∃ sl, h'.get? b = some { o with slots := sl }
  exc : ExcO h' e cls
section
variable {M : Model} {A : Around} {E : Value → Shared → Prop} {s : Shared}
theorem dict_mapFields (f : Array Value → Array Value) (o : Obj) : (Obj.mapFields f o).dict = o.dict := by
  obtain ⟨c, dd, dt, sl⟩ := o
  cases dt <;> rfl
theorem newEntryS {base : Heap} {env : Env} {outer : List Env} {L e : Addr} {oe : Obj} {vs : Array Value} {head : Value} {hadNext : Bool} {Q : Unit → Shared → Prop} (hfr : A.frames = some (env :: outer)) (hl : s.heap.FunFrames base (env :: outer)) (hf : env.frame = some L)
    (he : s.heap.get? e = some oe) (hdn : oe.dict = none) (hd : oe.data = .fields vs) (h2 : vs[2]? = some .none) (sz : 1 < vs.size) (h : ∀ h', LeftS (env :: outer) e oe.cls s.heap h' → Q () { s with heap := h' }) :
    wpAny M A (do let a ← frameOf env; let pl ← entryPlaceOf L hadNext; let b ← EntryCells.newEntry head a .none (rawInt L) .none pl; setField (.ref e) 1 b) (fun _ s' => wpAny M A (setFlight (.ref e) none) Q E s') E s := by
  have ne : e ∉ frs (env :: outer) := fun hm => by
    obtain ⟨_, o, ho, hnf⟩ := hl.mem hm
    rw [he] at ho; injection ho with ho; subst ho; exact hnf vs hd
  refine wpAny_bind (wpAny_frameOf_fun hfr hl hf fun h1 hs1 => wpAny_bind (wpAny_entryPlaceOf fun pl hpl => ?_))
  unfold EntryCells.newEntry newFields; refine wpAny_bind (wpAny_newObj_type ?_ (hpl.sizeOk5 _ _ _ _ _))
  have he1 : h1.get? e = some oe := (hs1.2.1 e ne).trans he
  have he2 := Heap.get?_push_of_some (h := h1) { cls := .type "traceback", dict := none, data := .fields ([head, .ref L, .none, rawInt L, .none] ++ (if pl.isEmpty then List.replicate 6 Value.none else pl)).toArray } he1
  refine wpAny_setField he2 hd sz ?_
  have nT : h1.objs.size ≠ e := Nat.ne_of_gt (Heap.lt_size he1)
  have hd3 := Obj.data_mapFields hd (·.setIfInBounds 1 (Value.ref h1.objs.size))
  have he3 := Heap.get?_update_self (Obj.mapFields (·.setIfInBounds 1 (Value.ref h1.objs.size))) he2 (Obj.isFreed_of_fields hd3)
  have hT3 := (Heap.get?_update_other (h1.push { cls := .type "traceback", dict := none, data := .fields ([head, .ref L, .none, rawInt L, .none] ++ (if pl.isEmpty then List.replicate 6 Value.none else pl)).toArray }) (Obj.mapFields (·.setIfInBounds 1 (Value.ref h1.objs.size))) (Ne.symm nT)).trans (Heap.get?_push_size h1 rfl)
  unfold setFlight; refine wpAny_bind (wpAny_field he3 hd3 (x := .ref h1.objs.size) (by simp [sz]) ?_)
  rw [if_pos (show (Value.ref h1.objs.size != Value.none) = true from by simp)]
  refine wpAny_setField hT3 rfl (by simp only [List.size_toArray, List.length_append, List.length_cons, List.length_nil] <;> omega) (h _ ?_)
  have keep : ∀ b o, b ≠ e → h1.get? b = some o → (((h1.push { cls := .type "traceback", dict := none, data := .fields ([head, .ref L, .none, rawInt L, .none] ++ (if pl.isEmpty then List.replicate 6 Value.none else pl)).toArray }).update e (Obj.mapFields (·.setIfInBounds 1 (Value.ref h1.objs.size)))).update h1.objs.size (Obj.mapFields (·.setIfInBounds 3 ((none : Option Addr).elim Value.none fun f => rawInt f)))).get? b = some o := fun b o hbe hb => by
    have hbT : h1.objs.size ≠ b := Nat.ne_of_gt (Heap.lt_size hb)
    rw [Heap.get?_update_other _ _ hbT, Heap.get?_update_other _ _ (Ne.symm hbe)]; exact Heap.get?_push_of_some _ hb
  refine ⟨fun b o hb hnf hbe => keep b o hbe ((hs1.2.1 b hnf).trans hb), fun b o hb _ hbe => ?_, ?_⟩
  · obtain ⟨sl, hs⟩ := hs1.2.2 b o hb
    exact ⟨sl, keep b _ hbe hs⟩
  · refine ⟨_, _, ?_, Obj.cls_mapFields _ _, (by rw [dict_mapFields]; exact hdn), hd3, (by rw [Array.getElem?_setIfInBounds_ne (by decide)]; exact h2), .inr ⟨h1.objs.size, _, _, by simp [sz], nT, Heap.get?_update_self _ hT3 (Obj.isFreed_of_fields (Obj.data_mapFields rfl _)), Obj.data_mapFields rfl _, by first | (simp; done) | (rcases hpl with rfl | ⟨_, _, _, _, _, _, _, rfl⟩ <;> simp)⟩⟩
    rw [Heap.get?_update_other _ _ nT]; exact he3
theorem note_s {base : Heap} {env : Env} {outer : List Env} {L e : Addr} {cls : Value} {Q : Unit → Shared → Prop} (hfr : A.frames = some (env :: outer)) (hl : s.heap.FunFrames base (env :: outer)) (hf : env.frame = some L) (hx : ExcO s.heap e cls)
    (h : ∀ h', LeftS (env :: outer) e cls s.heap h' → Q () { s with heap := h' }) : wpAny M A (noteFrame (.ref e) env) (fun _ s1 => wpAny M A (setFlight (.ref e) none) Q E s1) E s := by
  obtain ⟨oe, vs, he, rfl, hdn, hd, h2, h1 | ⟨T, oT, ts, h1, nT, hT, hdT, h3⟩⟩ := hx
  · unfold noteFrame
    simp only [hf]; refine wpAny_bind (wpAny_field he hd h1 ?_)
    rw [if_neg (by decide)]
    exact newEntryS hfr hl hf he hdn hd h2 (Array.getElem?_eq_some_iff.mp h1).1 h
  · unfold noteFrame
    simp only [hf]; refine wpAny_bind (wpAny_field he hd h1 ?_)
    rw [if_pos (show (Value.ref T != Value.none) = true from by simp)]; refine wpAny_bind (wpAny_field hT hdT h3 ?_)
    rw [if_neg (show ¬ ((Value.none == rawInt L) = true) from by simp [rawInt])]; refine wpAny_bind (wpAny_setField hT hdT (Array.getElem?_eq_some_iff.mp h3).1 ?_)
    have same : ∀ b, (s.heap.update T (Obj.mapFields (·.setIfInBounds 3 Value.none))).get? b = s.heap.get? b := fun b => by
      by_cases z : b = T
      · subst z
        rw [Heap.get?_update_self _ hT (Obj.isFreed_of_fields (Obj.data_mapFields hdT _)), hT]
        have et : ts.setIfInBounds 3 Value.none = ts := by
          obtain ⟨q1, q2⟩ := Array.getElem?_eq_some_iff.mp h3
          rw [Array.setIfInBounds, dif_pos q1]
          rw [← q2]
          exact Array.set_getElem_self ..
        obtain ⟨c, dd, dt, sl⟩ := oT
        cases hdT
        show some _ = some _
        refine congrArg some ?_
        show Obj.mapFields _ _ = _
        simp only [Obj.mapFields, et]
      · exact Heap.get?_update_other _ _ (Ne.symm z)
    refine newEntryS (base := base) (s := { s with heap := s.heap.update T (Obj.mapFields (·.setIfInBounds 3 Value.none)) }) hfr (hl.of_keeps fun b o hb hnf => ⟨o, (same b).trans hb, rfl⟩) hf ((same e).trans he) hdn hd h2 (Array.getElem?_eq_some_iff.mp h1).1 fun h' x => h h' ⟨fun b o hb => x.keep b o ((same b).trans hb), fun b o hb => x.slot b o ((same b).trans hb), x.exc⟩
theorem leave_s {base : Heap} {env : Env} {outer : List Env} {L e : Addr} {cls : Value} {Q : Unit → Shared → Prop} (hfr : A.frames = some (env :: outer)) (hl : s.heap.FunFrames base (env :: outer)) (hf : env.frame = some L) (hx : ExcO s.heap e cls)
    (h : ∀ h', LeftS (env :: outer) e cls s.heap h' → Q () { s with heap := h' }) : wpAny M A (leaving env (.ref e)) Q E s := by
  unfold leaving
  exact wpAny_bind (note_s hfr hl hf hx h)
theorem land_s {e : Addr} {cls : Value} {Q : Unit → Shared → Prop} (hx : ExcO s.heap e cls) (h : ∀ h', (∀ b, h'.get? b = s.heap.get? b) → Q () { s with heap := h' }) : wpAny M A (setFlight (.ref e) none) Q E s := by
  obtain ⟨oe, vs, he, rfl, hdn, hd, h2, h1 | ⟨T, oT, ts, h1, nT, hT, hdT, h3⟩⟩ := hx
  · unfold setFlight
    refine wpAny_bind (wpAny_field he hd h1 ?_)
    rw [if_neg (by decide)]
    exact wpAny_pure (h s.heap fun _ => rfl)
  · unfold setFlight
    refine wpAny_bind (wpAny_field he hd h1 ?_)
    rw [if_pos (show (Value.ref T != Value.none) = true from by simp)]
    refine wpAny_setField hT hdT (Array.getElem?_eq_some_iff.mp h3).1 (h _ fun b => ?_)
    by_cases z : b = T
    · subst z
      rw [Heap.get?_update_self _ hT (Obj.isFreed_of_fields (Obj.data_mapFields hdT _)), hT]
      have et : ts.setIfInBounds 3 Value.none = ts := by
        obtain ⟨q1, q2⟩ := Array.getElem?_eq_some_iff.mp h3
        rw [Array.setIfInBounds, dif_pos q1]
        rw [← q2]
        exact Array.set_getElem_self ..
      obtain ⟨c, dd, dt, sl⟩ := oT
      cases hdT
      refine congrArg some ?_
      show Obj.mapFields _ _ = _
      simp only [Obj.mapFields, Option.elim, et]
    · exact Heap.get?_update_other _ _ (Ne.symm z)
theorem ExcO.same {h h' : Heap} {e : Addr} {cls : Value} (x : ExcO h e cls) (k : ∀ b, h'.get? b = h.get? b) : ExcO h' e cls := by
  obtain ⟨oe, vs, he, hc, hdn, hd, h2, h1 | ⟨T, oT, ts, h1, nT, hT, hdT, h3⟩⟩ := x
  · exact ⟨oe, vs, (k e).trans he, hc, hdn, hd, h2, .inl h1⟩
  · exact ⟨oe, vs, (k e).trans he, hc, hdn, hd, h2, .inr ⟨T, oT, ts, h1, nT, (k T).trans hT, hdT, h3⟩⟩
end
theorem Inv.fresh0 {X : Cx} {pins : List (Addr × Obj)} {σ : St} {H : Hp} {s : Shared} {a : Addr} (I : Inv X pins σ H s) (hex : X.ex = []) (hn : s.heap.get? a = none) : X.s₀.heap.get? a = none := by
  cases q : X.s₀.heap.get? a with
  | none => rfl
  | some o =>
    obtain ⟨o', e⟩ := I.base.there a o q (by rw [hex]; simp)
    rw [hn] at e; cases e
def CXE (P : Program) (w : World) : CXT := fun outer H s E e s' => ∃ (a : Addr) (cls : Value) (H' : Hp), e = .ref a ∧ s'.os = s.os ∧ AllBare s'.gens ∧ Un (frs outer) [] H H' s.heap s'.heap ∧ HOk P w H' s'.heap ∧ s.heap.get? a = none ∧ H' a = none ∧ ExcO s'.heap a cls ∧ E cls none H'
section
variable {P : Program} {w : World} {K : PySem.W.Frag} {mg : Str → Option Value} {base : Heap} {N : List Str} {qual : Str} {scope : Scope} {f : Addr} {cd : Value} {A : Around} {outer : List Env} {s0 : Shared} {H0 : Hp} {E : XK}
theorem xe_of {pins : List (Addr × Obj)} {σ : St} {H : Hp} {s : Shared} {a : Addr} {cls : Value} (I : Inv (cxOf (CXE P w) P w K mg base N qual scope f cd A outer s0 H0 E) pins σ H s) (hx : ExcO s.heap a cls) (ha : s0.heap.get? a = none) (hn : H a = none) (hE : E cls none H) :
    (cxOf (CXE P w) P w K mg base N qual scope f cd A outer s0 H0 E).xe (.ref a) s := by
  show wpAny (model P w) (A.deeper (envOfC qual scope s0.heap.objs.size f cd)) (leaving (envOfC qual scope s0.heap.objs.size f cd) (.ref a)) _ _ s
  refine leave_s (base := base) (outer := outer) (L := s0.heap.objs.size) I.ok.frames I.stack rfl hx fun h' lf => ?_
  have fr : ∀ b, b ∈ frs (envOfC qual scope s0.heap.objs.size f cd :: outer) → b = s0.heap.objs.size ∨ b ∈ frs outer := fun b hb => List.mem_cons.mp hb
  have nfr : ∀ b, b < s0.heap.objs.size → b ∉ frs outer → b ∉ frs (envOfC qual scope s0.heap.objs.size f cd :: outer) := fun b hb hn z => (fr b z).elim (Nat.ne_of_lt hb) hn
  have trk : ∀ b u, H b = some u → b ∉ frs (envOfC qual scope s0.heap.objs.size f cd :: outer) ∧ b ≠ a := fun b u e => ⟨(fun z => by rw [I.stkFree b z] at e; cases e), (fun z => by rw [z, hn] at e; cases e)⟩
  refine ⟨a, cls, H, rfl, I.os, I.bare, ⟨fun b o q n hb hx => ?_, fun b o q n hb hx => ?_, I.base.free, fun b o q hx => ?_, I.base.tups, I.base.frzs, I.base.tbls⟩, fun b u e => ?_, ha, hn, lf.exc, hE⟩
  · exact lf.keep b o (I.base.keep b o q n hb hx) (nfr b (Heap.lt_size q) hb) (fun z => by rw [z, ha] at q; cases q)
  · obtain ⟨sl, e1⟩ := I.base.slot b o q n hb hx
    obtain ⟨sl2, e2⟩ := lf.slot b _ e1 (List.mem_cons_of_mem _ hb) (fun z => by rw [z, ha] at q; cases q)
    exact ⟨sl2, e2⟩
  · obtain ⟨o', e1⟩ := I.base.there b o q hx
    have ne : b ≠ a := fun z => by rw [z, ha] at q; cases q
    by_cases z : b ∈ frs (envOfC qual scope s0.heap.objs.size f cd :: outer)
    · obtain ⟨sl, e2⟩ := lf.slot b o' e1 z ne
      exact ⟨_, e2⟩
    · exact ⟨_, lf.keep b o' e1 z ne⟩
  · refine (I.hok b u e).stay (fun c v hc q => ?_) (fun c q => q) fun c xs q => q
    rcases hc with rfl | hc
    · exact lf.keep _ v q (trk _ u e).1 (trk _ u e).2
    · exact lf.keep _ v q (trk _ _ hc).1 (trk _ _ hc).2
theorem passE : Passes (CXE P w) (cxOf (CXE P w) P w K mg base N qual scope f cd A outer s0 H0 E) E := by
  intro pins σ H s e s' I h
  obtain ⟨a, cls, H', rfl, os, bare, un, hok, ha, hn, hx, hE⟩ := h
  have I' := I.call' (s' := s') (ch := []) os un hok bare (fun b z => absurd z (by simp))
  exact xe_of I' hx (I.fresh0 rfl ha) hn hE
end
theorem FnOk.lift {P : Program} {w : World} {K : PySem.W.Frag} {mg : Str → Option Value} {base : Heap} {CX : CXT} {k : Nat} {f : Addr} {fd : FuncData} {ps : List Str} {sp : Sp} (F : FnOk P w K mg base CX0 k f fd ps sp) : FnOk P w K mg base CX k f fd ps sp :=
  ⟨F.len, fun A outer s H args us vs Q E hr e0 hb r h => codeAny_mono (F.run A outer s H args us vs Q E hr e0 hb r h) fun r s' hq => by
    cases r with
    | error e => exact hq.elim
    | ok fl =>
      cases fl with
      | ret u => exact hq
      | next => exact hq
      | brk => exact hq
      | cont => exact hq⟩
section
variable {P : Program} {w : World} {K : PySem.W.Frag} {mg : Str → Option Value} {base : Heap}
theorem Fun.okE {x qual : Str} {st : Stmt} {f : Addr} {fd : FuncData} {N ps : List Str} {k : Nat} {sp : Sp} (F : Fun K x qual st f fd) (S : FnScope N ps (defScope st)) (len : ∀ vs H Q E, sp vs H Q E → vs.length = ps.length)
    (hbody : ∀ (cdv : Value) (A : Around) (outer : List Env) (s : Shared) (H : Hp) (vs : List V) (Q : VK) (E : XK), Room k (A.deeper (envOfC qual (defScope st) s.heap.objs.size f cdv)) → sp vs H Q E →
      ∃ t, PSs (cxOf (CXE P w) P w K mg base N qual (defScope st) f cdv A outer s H E) (defBody st) t ∧ t { nx := fun _ H' => Q .non H', rt := Q } (start N vs) H) : FnOk P w K mg base (CXE P w) (k + 1) f fd ps sp := by
  obtain ⟨oc, od, kV, doc, pm, an, cdv, ct, osl, rfl, lk, hcd⟩ := F.ex
  exact fn_of lk hcd S len fun A outer s H vs Q E hr hsp => hbody cdv A outer s H vs Q E hr hsp
end
end L2
namespace L2
open PySem PySem.Spec PyProof.Rows
section
variable {X : Cx}
def rSlS : V → Option Int → Option Int → Hp → VK → Prop := fun x lo hi H Q => ∃ z : Str, x = .str z ∧ z.length ≤ sizeLine ∧ Q (.str (Txt.slice z lo hi)) H
theorem sl_str : SlR X rSlS := by
  intro pins s σ H x v vl vu lo hi sl Q I rx hs pl pu h
  obtain ⟨z, rfl, hz, q⟩ := h
  obtain ⟨t, rfl⟩ := rx
  refine ⟨"str", _, PySem.F.slot_str_getitem.lookup, typeIs_str _ _ _, ?_⟩
  have fin : ∀ (t' : Tok) (k : Nat), EP X pins σ Q (.str (Txt.slice z lo hi) t') { s with toks := k } := fun t' k => ⟨.str (Txt.slice z lo hi), H, I.tok _, ⟨t', rfl⟩, q⟩
  cases pl with
  | none => cases pu with
    | none => exact wpAny_getItem_str_slice (l := none) (u := none) (st := none) hs rfl (post_val_or_str ⟨Nat.le_trans (Txt.slice_le z _ _) hz, fin⟩)
    | int j uj => exact wpAny_getItem_str_slice (l := none) (u := some (j, uj)) (st := none) hs rfl (post_val_or_str ⟨Nat.le_trans (Txt.slice_le z _ _) hz, fin⟩)
  | int i ui => cases pu with
    | none => exact wpAny_getItem_str_slice (l := some (i, ui)) (u := none) (st := none) hs rfl (post_val_or_str ⟨Nat.le_trans (Txt.slice_le z _ _) hz, fin⟩)
    | int j uj => exact wpAny_getItem_str_slice (l := some (i, ui)) (u := some (j, uj)) (st := none) hs rfl (post_val_or_str ⟨Nat.le_trans (Txt.slice_le z _ _) hz, fin⟩)
end
end L2
namespace L2
open PySem
section
variable {K : PySem.W.Frag} {σ : St} {js : List Nat} {tt : TT} {te : TE} {H : Hp} {Qf : Addr → Hp → List V → Prop}
open Sen
theorem lc_listC {a : Addr} {xs : List V} (Pv : Nat → List V → Hp → Prop) (h0 : Pv 0 [] H) (hz : xs.length ≤ sizeLine)
    (hl : ∀ i ys H, i ≤ xs.length → Pv i ys H → SqL K H a xs ∧ ys.length ≤ i)
    (hs : ∀ i x ys H (Q : V → Hp → Prop), xs[i]? = some x → Pv i ys H → (∀ v H3, Pv (i + 1) (ys ++ [v]) H3 → Q v H3) → te (lcS σ js (some x)) H Q)
    (hd : ∀ ys H p, Pv xs.length ys H → H p = none → Qf p H ys) :
    ∃ W : Nat → Nat → List V → Hp → Prop, (∃ m, W 0 m [] H) ∧ ∀ i m ys H, W i m ys H →
      ((Itl K a).stop i H ∧ ∀ p, H p = none → Qf p H ys) ∨
      ((Itl K a).go i H ∧ ys.length < sizeLine ∧ ∀ x H', (Itl K a).yld i H x H' → tYes (lcS σ js (some x)) H' fun b H2 =>
        if b = true then te (lcS σ js (some x)) H2 fun v H3 => ∃ m', m' < m ∧ W (i + 1) m' (ys ++ [v]) H3 else ∃ m', m' < m ∧ W (i + 1) m' ys H2) := by
  refine ⟨fun i m ys H => m = xs.length - i ∧ i ≤ xs.length ∧ Pv i ys H, ⟨xs.length, by simp, Nat.zero_le _, h0⟩, ?_⟩
  rintro i m ys H ⟨rfl, hi, p⟩
  obtain ⟨q, hy⟩ := hl i ys H hi p
  by_cases hlt : i < xs.length
  · refine .inr ⟨⟨xs, xs[i], q, by simp [hlt]⟩, by omega, fun x H' y => ?_⟩
    obtain ⟨e, y⟩ := y
    subst e
    show te (lcS σ js (some x)) H' fun v H3 => ∃ m', m' < xs.length - i ∧ (m' = xs.length - (i + 1) ∧ i + 1 ≤ xs.length ∧ Pv (i + 1) (ys ++ [v]) H3)
    exact hs i x ys _ _ (y xs q) p fun v H3 h3 => ⟨_, Nat.sub_lt_sub_left hlt (Nat.lt_succ_self i), rfl, hlt, h3⟩
  · have e : i = xs.length := by omega
    subst e
    exact .inl ⟨⟨xs, q, Nat.le_refl _⟩, fun pp hp => hd ys H pp p hp⟩
end
end L2
namespace L2
open PySem PySem.Spec PyProof.Rows
structure XCls (K : PySem.W.Frag) (D : Addr) : Prop where
  ga : PySem.W.findIn K (.ref D) "__getattribute__" = some (some (.builtin "BaseException.__getattribute__"))
  gt : PySem.W.findIn K (.ref D) "__getattr__" = some none
  ca : PySem.W.findIn K (.ref D) "__class__" = some (some (.builtin "object.__class__"))
  bx : PySem.W.mroIn K D (.type "BaseException") = some true
  ob : PySem.W.mroIn K D (.type "object") = some true
  cl : (PySem.W.clsIn K D).isSome = true
theorem slot_bexc_ga : Slot "BaseException" "__getattribute__" "BaseException.__getattribute__" :=
  .of (owner := "BaseException") (n := "__getattribute__") (by rw [typeLookup_type, builtinLookup_eq_fast]; kernel_rfl) (by decide +kernel) (by decide +kernel) (by decide +kernel)
    (by first | exact .inl (by decide +kernel) | exact .inr (by decide +kernel)) (by rw [isSubtype_type]; kernel_rfl)
section
variable {prog : Program} {w : World} {A : Around} {E : Value → Shared → Prop} {h : Heap} {g : Array GenState} {d : Drawn} {t : Nat} {os : OsState} {a D : Addr} {o : Obj} {K : PySem.W.Frag}
theorem class_entry_exc {tk : Tok} {Q : Fin → Shared → Prop} (X : K.In h) (c : XCls K D) (I : PySem.W.InstAt h a o D none) (hq : Q (.done (.ret (.ref D))) ⟨h, g, d, t, os⟩) :
    wpAny (model prog w) A (Builtin.«object.__getattribute__» ⟨[.ref a, .str "__class__" tk], []⟩) Q E ⟨h, g, d, t, os⟩ := by
  have hT5 : (⟨h, g, d, t, os⟩ : Shared).TypeIs (.builtin "object.__class__") "getset_descriptor" := F.typeOf_object_class
  have f5 := F.typeOf_object_class
  have f6 := F.slot_gs_get.lookup
  have f7 := F.slot_gs_set.lookup
  have hx := I.at_
  have hc := I.cls
  have L1 := PySem.W.looks_findIn (M := model prog w) X c.ca
  repeat (any_goals (first | assumption | (with_reducible refine wpAny_loadPart_at hx ?_; rw [hc]) | with_reducible refine L1.at ?_ | wp_step))
  refine PySem.W.class_get (s := ⟨h, g, d, t, os⟩) X I c.ob ?_
  repeat (any_goals (first | assumption | wp_step))
theorem check_ga_exc {M : Model} {nameV : Value} {Q : Unit → Shared → Prop} (X : K.In h) (c : XCls K D) (I : PySem.W.InstAt h a o D none) (hq : Q () ⟨h, g, d, t, os⟩) : wpAny M A (checkBuiltinCall "BaseException.__getattribute__" ⟨[.ref a, nameV], []⟩) Q E ⟨h, g, d, t, os⟩ := by
  have hk : builtinKind "BaseException.__getattribute__" = some .slot := by decide +kernel
  have hsplit : splitId "BaseException.__getattribute__" = some ("BaseException", "__getattribute__") := by decide +kernel
  have ha := F.args_bexc_ga (.ref a) nameV
  have hx := I.at_
  have hc := I.cls
  have L1 := PySem.W.looks_mroIn (M := M) X c.bx
  simp only [checkBuiltinCall, hk, hsplit]
  refine wpAny_bind ?_
  · unfold isInstance
    repeat (first | (with_reducible refine wpAny_loadPart_at hx ?_; rw [hc]) | with_reducible refine L1.at ?_ | wp_step)
    exact hq
theorem class_call_exc {tk : Tok} {R : Result → Shared → Prop} (X : K.In h) (c : XCls K D) (I : PySem.W.InstAt h a o D none) (hq : R (.ok (.ret (.ref D))) ⟨h, g, d, t, os⟩) :
    codeAny (model prog w) A (.call (.builtin "BaseException.__getattribute__") ⟨[.ref a, .str "__class__" tk], []⟩) R ⟨h, g, d, t, os⟩ :=
  codeAny_call_builtin slot_bexc_ga.plain F.entry_bexc_ga (check_ga_exc X c I (class_entry_exc X c I hq))
theorem class_by_exc {tk : Tok} {Q : Value → Shared → Prop} (X : K.In h) (c : XCls K D) (I : PySem.W.InstAt h a o D none) (hq : Q (.ref D) ⟨h, g, d, t, os⟩) : wpAny (model prog w) A (getAttrBy (.ref a) (.str "__class__" tk) false) Q E ⟨h, g, d, t, os⟩ := by
  have f3 := slot_bexc_ga.bind (.ref a)
  have hx2 : (Value.builtin "BaseException.__getattribute__" == Value.builtin "object.__getattribute__") = false := by decide +kernel
  have hx1 : (onTheHeap (Value.ref D) && Value.builtin "BaseException.__getattribute__" == Value.builtin "object.__getattribute__") = false := by rw [hx2]; rfl
  have hx := I.at_
  have hc := I.cls
  have L1 := PySem.W.looks_findIn (M := model prog w) X c.ga
  have L2 := PySem.W.looks_findIn (M := model prog w) X c.gt
  repeat (any_goals (first | assumption | (with_reducible refine wpAny_loadPart_at hx ?_; rw [hc]) | with_reducible refine L1.at ?_ | with_reducible refine L2.at ?_ | wp_step))
  refine class_call_exc X c I ?_
  repeat (any_goals (first | assumption | wp_step))
theorem class_attr_exc {Q : Option Value → Shared → Prop} (X : K.In h) (c : XCls K D) (I : PySem.W.InstAt h a o D none) (hq : Q (some (.ref D)) ⟨h, g, d, t + 1, os⟩) : wpAny (model prog w) A (getAttr? (.ref a) "__class__") Q E ⟨h, g, d, t, os⟩ := by
  unfold getAttr? getAttrBy?
  repeat (any_goals (first | assumption | with_reducible apply class_by_exc X c I | wp_step))
end
theorem kitx_exc {K : PySem.W.Frag} {a D : Addr} (c : XCls K D) : PySem.W.KitX K (.ref a) (.ref D) (fun h => ∃ o, PySem.W.InstAt h a o D none) where
  ty := fun _ _ _ ⟨_, I⟩ => I.type
  it := fun _ _ X _ => by
    obtain ⟨cdD, hcD⟩ := Option.isSome_iff_exists.mp c.cl
    unfold PySem.W.clsIn at hcD
    split at hcD
    · rename_i c' d' cd' sl' ho
      intro A' Q' E' s' k q
      unfold isType loadHead
      exact wpAny_bind (wpAny_loadPart (k _ _ (X _ _ ho)) (wpAny_pure q))
    · cases hcD
  ne := fun h tp dd its n sl X htp => by
    obtain ⟨cdD, hcD⟩ := Option.isSome_iff_exists.mp c.cl
    refine Bool.eq_false_iff.mpr fun q => ?_
    have e : D = tp := Value.ref.inj (beq_iff_eq.mp q)
    subst e
    unfold PySem.W.clsIn at hcD
    split at hcD
    · rename_i c' d' cd' sl' ho
      have z := (X _ _ ho).symm.trans htp
      cases z
    · cases hcD
  ca := fun {_ _ _ _ _ s} X ⟨o, I⟩ k => by
    obtain ⟨h, g, d, t, os⟩ := s
    exact class_attr_exc X c I k
end L2
namespace L2
open PySem PySem.Spec PyProof.Rows
def excO (a D : Addr) : HO := .ext fun h => ∃ o vs, PySem.W.InstAt h a o D none ∧ o.data = .fields vs ∧ vs[2]? = some .none
theorem InstAt.none_ {h : Heap} {a D : Addr} {o : Obj} (e : h.get? a = some o) (hc : o.cls = .ref D) (hd : o.dict = none) (hn : PySem.W.notCls o = true) : PySem.W.InstAt h a o D none :=
  ⟨e, hc, hn, by rw [hd]; trivial⟩
theorem excO_ok {P : Program} {w : World} {H : Hp} {h : Heap} {a D : Addr} (hx : ExcO h a (.ref D)) : ObjOk P w H h a (excO a D) := by
  obtain ⟨oe, vs, he, hc, hdn, hd, h2, _⟩ := hx
  refine ⟨⟨oe, vs, InstAt.none_ he hc hdn ?_, hd, h2⟩, ⟨_, he⟩, fun h1 h2 ⟨o, vs, I, q1, q2⟩ k => ⟨o, vs, ⟨k o I.at_, I.cls, I.no, ?_⟩, q1, q2⟩⟩
  · obtain ⟨c, dd, dt, sl⟩ := oe
    cases hd
    rfl
  · have := I.dict
    revert this
    cases o.dict <;> exact fun z => z
theorem Rd.exc {P : Program} {w : World} {H : Hp} {h : Heap} {a D : Addr} (ok : HOk P w H h) (e : H a = some (excO a D)) : ∃ o vs, PySem.W.InstAt h a o D none ∧ o.data = .fields vs ∧ vs[2]? = some .none := (ok a _ e).1
structure Fly (X : Cx) (pins : List (Addr × Obj)) (H : Hp) (s : Shared) (a : Addr) (cls : Value) : Prop where
  exc : ExcO s.heap a cls
  hn : H a = none
  s0 : X.s₀.heap.get? a = none
  loc : a ≠ X.env.locals
  cell : ∀ x c, X.env.cells.lookup x = some c → c ≠ a
  pin : ∀ p ∈ X.pn ++ pins, p.1 ≠ a
  st : a ∉ frs X.stack
section
variable {X : Cx} {pins : List (Addr × Obj)} {σ : St} {H H' : Hp} {s s' : Shared} {a : Addr} {cls : Value}
theorem Inv.fly (I : Inv X pins σ H s) (hex : X.ex = []) (hn : s.heap.get? a = none) (hn' : H' a = none) (hx : ExcO s'.heap a cls) : Fly X pins H' s' a cls where
  exc := hx
  hn := hn'
  s0 := I.fresh0 hex hn
  loc := fun z => by
    obtain ⟨m, ⟨o, _, _, ho, _⟩, _⟩ := I.loc
    rw [← z, hn] at ho; cases ho
  cell := fun x c e z => by
    obtain ⟨v, o, ho, _⟩ := I.cell x c e
    rw [z, hn] at ho; cases ho
  pin := fun p hp z => by
    have := (I.pin p hp).1
    rw [z, hn] at this; cases this
  st := fun z => by
    obtain ⟨_, o, ho, _⟩ := I.stack.mem z
    rw [hn] at ho; cases ho
theorem Inv.left {h' : Heap} (I : Inv X pins σ H s) (f : Fly X pins H s a cls) (lf : LeftS X.stack a cls s.heap h') : Inv X pins σ H { s with heap := h' } := by
  have nst : ∀ b, b ≠ X.env.locals → b ∉ X.fs → b ∉ frs X.stack := fun b h1 h2 z => (List.mem_cons.mp (I.stkSub b z)).elim h1 h2
  have upto : ∀ b o, s.heap.get? b = some o → b ≠ a → ∃ sl, h'.get? b = some { o with slots := sl } := fun b o e ne => by
    by_cases z : b ∈ frs X.stack
    · exact lf.slot b o e z ne
    · exact ⟨o.slots, lf.keep b o e z ne⟩
  have cellK : ∀ x c, X.env.cells.lookup x = some c → ∀ v, s.heap.IsCell c v → h'.IsCell c v := fun x c e v ⟨o, ho, hd⟩ => by
    obtain ⟨sl, q⟩ := upto c o ho (f.cell x c e)
    exact ⟨_, q, hd⟩
  have ne0 : ∀ b o, X.s₀.heap.get? b = some o → b ≠ a := fun b o e z => by rw [z, f.s0] at e; cases e
  refine ⟨I.ok, I.os, I.bare, ⟨fun b o e n hb hx => ?_, fun b o e n hb hx => ?_, I.base.free, fun b o e hx => ?_, I.base.tups, I.base.frzs, I.base.tbls⟩, ?_, fun x c e => ?_, I.free, I.freeC, fun p hp => ?_, fun b u e => ?_, I.len⟩
  · exact lf.keep b o (I.base.keep b o e n hb hx) (nst b (Nat.ne_of_lt (Nat.lt_of_lt_of_le (Heap.lt_size e) I.ok.above)) hb) (ne0 b o e)
  · obtain ⟨sl, e1⟩ := I.base.slot b o e n hb hx
    obtain ⟨sl2, e2⟩ := upto b _ e1 (ne0 b o e)
    exact ⟨sl2, e2⟩
  · obtain ⟨o', e1⟩ := I.base.there b o e hx
    obtain ⟨sl2, e2⟩ := upto b _ e1 (ne0 b o e)
    exact ⟨_, e2⟩
  · obtain ⟨m, ⟨o, es, ep, ho, r⟩, hl⟩ := I.loc
    obtain ⟨sl, q⟩ := upto _ o ho (Ne.symm f.loc)
    refine ⟨m, ⟨_, es, ep, q, r⟩, fun i x v e1 e2 e3 => ?_⟩
    obtain ⟨u, r, l⟩ := hl i x v e1 e2 e3
    refine ⟨u, r, ?_⟩
    rcases l with l | ⟨k, c, e, z⟩
    · exact .inl l
    · exact .inr ⟨k, c, e, cellK x c e _ z⟩
  · obtain ⟨v, z⟩ := I.cell x c e
    exact ⟨v, cellK x c e v z⟩
  · obtain ⟨e, n, ne, nf, d⟩ := I.pin p hp
    exact ⟨lf.keep p.1 p.2 e (nst p.1 ne nf) (f.pin p hp), n, ne, nf, d⟩
  · have tr : ∀ b u, H b = some u → b ∉ frs X.stack ∧ b ≠ a := fun b u e => ⟨(fun z => by rw [I.stkFree b z] at e; cases e), (fun z => by rw [z, f.hn] at e; cases e)⟩
    refine (I.hok b u e).stay (fun c v hc q => ?_) (fun c q => q) fun c xs q => q
    rcases hc with rfl | hc
    · exact lf.keep _ v q (tr _ u e).1 (tr _ u e).2
    · exact lf.keep _ v q (tr _ _ hc).1 (tr _ _ hc).2
theorem Inv.trackX {D : Addr} (I : Inv X pins σ H s) (f : Fly X pins H s a (.ref D)) : Inv X pins σ (upd H a (excO a D)) s := by
  have ne0 : ∀ b o, X.s₀.heap.get? b = some o → b ≠ a := fun b o e z => by rw [z, f.s0] at e; cases e
  have neH : ∀ b u, H b = some u → b ≠ a := fun b u e z => by rw [z, f.hn] at e; cases e
  refine ⟨I.ok, I.os, I.bare, ⟨I.base.keep, I.base.slot, fun b o e n hx => ?_, I.base.there, fun b xs e => ?_, fun b o u e => ?_, fun b ps e => ?_⟩, I.loc, I.cell, ?_, fun x c e => ?_, fun p hp => ?_, fun b u e => ?_, I.len⟩
  · rw [upd_ne (ne0 b o e)]; exact I.base.free b o e n hx
  · have := I.base.tups b xs e
    rw [upd_ne (neH b _ this)]; exact this
  · have := I.base.frzs b o u e
    rw [upd_ne (neH b _ this)]; exact this
  · obtain ⟨m, this⟩ := I.base.tbls b ps e
    exact ⟨m, by rw [upd_ne (neH b _ this)]; exact this⟩
  · rw [upd_ne (Ne.symm f.loc)]; exact I.free
  · rw [upd_ne (f.cell x c e)]; exact I.freeC x c e
  · obtain ⟨e, n, ne, nf, d⟩ := I.pin p hp
    exact ⟨e, by rw [upd_ne (f.pin p hp)]; exact n, ne, nf, d⟩
  · by_cases z : b = a
    · subst z
      rw [upd_same] at e; cases e
      exact excO_ok f.exc
    · rw [upd_ne z] at e
      refine (I.hok b u e).stay (fun c v _ q => q) (fun c q => ?_) (fun c xs q => ?_) fun c ob v q => ?_
      · rw [upd_ne (neH c _ q)]; exact q
      · rw [upd_ne (neH c _ q)]; exact q
      · rw [upd_ne (neH c _ q)]; exact q
end
abbrev XR := Value → St → Hp → Prop
def XP (X : Cx) (pins : List (Addr × Obj)) (R : XR) (e : Value) (s' : Shared) : Prop := ∃ a cls σ H', e = .ref a ∧ Inv X pins σ H' s' ∧ Fly X pins H' s' a cls ∧ R cls σ H'
abbrev TEx := St → Hp → VK → (Value → Hp → Prop) → Prop
abbrev TSx := Ends → XR → St → Hp → Prop
def PEx (X : Cx) (e : Expr) (t : TEx) : Prop :=
  ∀ (pins : List (Addr × Obj)) (s : Shared) (σ : St) (H : Hp) (Q : VK) (R : Value → Hp → Prop), Inv X pins σ H s → t σ H Q R → wpAny (model X.prog X.w) X.A (eval e X.env) (EP X pins σ Q) (XP X pins fun cls σ' H' => σ' = σ ∧ R cls H') s
def PS1x (X : Cx) (st : Stmt) (t : TSx) : Prop :=
  ∀ (pins : List (Addr × Obj)) (s : Shared) (σ : St) (H : Hp) (D : Ends) (R : XR), Inv X pins σ H s → t D R σ H → wpAny (model X.prog X.w) X.A (exec st X.env) (SP X pins D) (XP X pins R) s
def PSx (X : Cx) (st : List Stmt) (t : TSx) : Prop :=
  ∀ (pins : List (Addr × Obj)) (s : Shared) (σ : St) (H : Hp) (D : Ends) (R : XR), Inv X pins σ H s → t D R σ H → wpAny (model X.prog X.w) X.A (execs st X.env) (SP X pins D) (XP X pins R) s
section
variable {X : Cx} {e : Expr} {te : TE} {tx : TEx} {st : Stmt} {rest : List Stmt} {ts : TS} {t u : TSx} {pos pos' : Pos}
def xDrop (tx : TEx) : TSx := fun D R σ H => tx σ H (fun _ H1 => D.nx σ H1) fun cls H' => R cls σ H'
theorem psx_expr (he : PEx X e tx) (hs : swapsWith e none pos.line X.env = pure false := by rfl) : PS1x X (.Expr e pos) (xDrop tx) := by
  intro pins s σ H D R I h
  refine wpAny_Expr_any (wpAny_mono (he pins s σ H _ _ I h) (fun v s1 ⟨x, H1, I1, r1, q1⟩ => ⟨σ, H1, I1, q1⟩) fun v s1 ⟨a, cls, σ', H', e1, I1, f, e2, q⟩ => ?_) I.quiet hs
  subst e2
  exact ⟨a, cls, _, H', e1, I1, f, q⟩
def xSet (i : Nat) (tx : TEx) : TSx := fun D R σ H => tx σ H (fun v H1 => D.nx (σ.set i (some v)) H1) fun cls H' => R cls σ H'
theorem psx_set {i : Nat} {x : Str} (hN : X.N.Nodup) (hi : X.N[i]? = some x) (hx : Loc X.env.scope x) (he : PEx X e tx) (hs : swapsWith e (some (.Name x pos')) pos.line X.env = pure false := by rfl) (hf : X.fn x = true ∨ X.env.scope.names.lookup x = some .local := by first | exact .inl rfl | exact .inr rfl | assumption) :
    PS1x X (.Assign [.Name x pos'] e pos) (xSet i tx) := by
  intro pins s σ H D R I h
  refine wpAny_Assign_Name (wpAny_mono (he pins s σ H _ _ I h) (fun v s1 ⟨y, H1, I1, r1, q1⟩ => ?_) fun v s1 ⟨a, cls, σ', H', e1, I1, f, e2, q⟩ => ?_) hs
  · exact store_ok I1 hN hi hx r1 (fun s2 I2 => ⟨_, H1, I2, q1⟩) hf
  · subst e2
    exact ⟨a, cls, _, H', e1, I1, f, q⟩
theorem psxs_one (h1 : PS1x X st t) : PSx X [st] t := by
  intro pins s σ H D R I h
  refine wpAny_execs_cons (thn (h1 pins s σ H D R I h) fun f s1 q => ?_)
  cases f with
  | next => exact wpAny_execs_nil q
  | ret v => exact q
  | brk => exact q
  | cont => exact q
end
section
variable {X : Cx} {k : Nat} {f C : Addr} {fd : FuncData} {ps : List Str} {sp : Sp} {dvs : List V} {ds : List Value} {x m : Str} {p pos apos : Pos} {e o : Expr} {es : List Expr} {ta : TE} {t : TA}
theorem xp_of {pins : List (Addr × Obj)} {σ : St} {H : Hp} {s s' : Shared} {ev : Value} {R : Value → Hp → Prop} (hex : X.ex = []) (I : Inv X pins σ H s) (h : CXE X.prog X.w X.stack H s (fun cls _ H' => R cls H') ev s') :
    XP X pins (fun cls σ' H' => σ' = σ ∧ R cls H') ev s' := by
  obtain ⟨a, cls, H', rfl, os, bare, un, hok, ha, hn, hx, hE⟩ := h
  exact ⟨a, cls, σ, H', rfl, I.call' (s' := s') (ch := []) os un hok bare (fun b z => absurd z (by simp)), I.fly hex ha hn hx, rfl, hE⟩
theorem run_fnx {pins : List (Addr × Obj)} {σ : St} {H : Hp} {s : Shared} {Q : VK} {R : Value → Hp → Prop} {us : List Value} {vs : List V} (F : FnOk X.prog X.w X.K X.mg X.base (CXE X.prog X.w) k f fd ps sp) (hr : Room k X.A) (hb : Binds X.K fd ps ds) (hd : Vals dvs ds) (hex : X.ex = [])
    (I : Inv X pins σ H s) (r : Vals vs us) (h : sp (vs ++ dvs) H Q fun cls _ H' => R cls H') : wpAny (model X.prog X.w) X.A (call (.ref f) us) (EP X pins σ Q) (XP X pins fun cls σ' H' => σ' = σ ∧ R cls H') s := by
  have r2 : Vals (vs ++ dvs) (us ++ ds) := r.append hd
  have hl : (us ++ ds).length = ps.length := by rw [← r2.length]; exact F.len _ _ _ _ h
  refine wpAny_call (codeAny_mono (F.run X.A X.stack s H ⟨us, []⟩ (us ++ ds) (vs ++ dvs) Q _ hr I.env0 (hb s us I.kIn hl) r2 h) fun r s' hq => ?_)
  cases r with
  | error e => exact xp_of hex I hq
  | ok fl =>
    cases fl with
    | ret u => exact I.after hq
    | next => exact False.elim hq
    | brk => exact False.elim hq
    | cont => exact False.elim hq
def xCall (sp : Sp) (dvs : List V) (t : TA) : TEx := fun σ H Q R => t σ H fun vs H1 => sp (vs ++ dvs) H1 Q fun cls _ H' => R cls H'
theorem args_nox {α : Type} {pins : List (Addr × Obj)} {σ : St} {H : Hp} {s : Shared} {Qn : List V → Hp → Prop} {Q : List Value → Shared → Prop} {E : Value → Shared → Prop} {cpos : Pos} (ha : PA X.nox es t) (I : Inv X pins σ H s) (h : t σ H Qn)
    (hf : ∀ us s1 vs H1, Inv X pins σ H1 s1 → Vals vs us → Qn vs H1 → Q us s1) : wpAny (model X.prog X.w) X.A (spliced (backTo cpos (starEach es X.env))) Q E s :=
  wpAny_mono (ha cpos pins s σ H Qn (I.wish _) h) (fun us s1 ⟨vs, H1, I1, r, q⟩ => hf us s1 vs H1 I1.unwish r q) fun _ _ z => False.elim z
theorem pex_call (F : FnOk X.prog X.w X.K X.mg X.base (CXE X.prog X.w) k f fd ps sp) (hr : Room k X.A) (hg : Gl X x) (hm : X.mg x = some (.ref f)) (hk : PySem.W.keepIn X.K (.ref f) = true) (hb : Binds X.K fd ps ds) (hd : Vals dvs ds) (hex : X.ex = [])
    (ha : PA X.nox (e :: es) t) (hdb : (x == ("__debug__" : Str)) = false := by decide) (he : starEach (e :: es) X.env = (false, eval e X.env) :: starEach es X.env := by rfl) (hpl : (backTo pos (starEach es X.env)).any (·.1) = false := by rfl) :
    PEx X (.Call (.Name x p) (e :: es) [] pos) (xCall sp dvs t) := by
  intro pins s σ H Q R I h
  refine wpAny_Call_Name_kw (ld_glob I hg hm ?_ hdb)
  refine PySem.W.callWith_K (h₀ := X.base) I.ok.mod.kin hk (args_nox (α := Unit) ha I h fun us s1 vs H1 I1 r q => ⟨I1.kIn, ?_⟩) he hpl
  exact run_fnx F hr hb hd hex I1 r q
end
end L2
namespace L2
open PySem PySem.Spec PyProof.Rows
abbrev Cx.suite (X : Cx) (a : Addr) : Cx := { X with A := X.A.mark (some (.ref a)), calm := false, xe := fun _ _ => False }
section
variable {X : Cx} {pins : List (Addr × Obj)} {σ : St} {H : Hp} {s : Shared} {a : Addr}
theorem Inv.suite (I : Inv X pins σ H s) (a : Addr) : Inv (X.suite a) pins σ H s :=
  ⟨⟨I.ok.mod, I.ok.kind, I.ok.glob, I.ok.blt, I.ok.above, I.ok.inj, I.ok.has, I.ok.cab, (fun z => nomatch z), I.ok.frames, I.ok.stk, I.ok.exf, I.ok.bs, I.ok.bsz, I.ok.noex, I.ok.exfs, I.ok.funs, I.ok.frf⟩, I.os, I.bare, I.base, I.loc, I.cell, I.free, I.freeC, I.pin, I.hok, I.len⟩
theorem Inv.unsuite (ok : X.Ok) (I : Inv (X.suite a) pins σ H s) : Inv X pins σ H s :=
  ⟨ok, I.os, I.bare, I.base, I.loc, I.cell, I.free, I.freeC, I.pin, I.hok, I.len⟩
theorem goes_ok {M : Model} {A : Around} {E : Value → Shared → Prop} {i : Nat} {n : Str} {pos : Pos} {Q : Unit → Shared → Prop} (I : Inv X pins σ H s) (hN : X.N.Nodup) (hi : X.N[i]? = some n) (hk : X.env.kindOf n = some .local)
    (h : ∀ s', Inv X pins (σ.set i none) H s' → Q () s') : wpAny M A (do bindName X.env n .none; unbindBehindTheSuite X.env n pos) Q E s := by
  obtain ⟨m, hn, hl⟩ := id I.loc
  have hcls : (X.env.scope.kind == .class || (X.env.scope.kind == .module && X.env.locals != X.env.globals)) = false := by rw [I.ok.kind]; rfl
  have hiσ : i < σ.length := by rw [I.len]; exact (List.getElem?_eq_some_iff.mp hi).1
  have cne := I.cne
  refine wpAny_nameGoes_keeps hk hn hcls fun h' v hn' hs => ?_
  obtain ⟨oL, _, _, hoL, _⟩ := id hn
  have hok : HOk X.prog X.w H h' := fun b ob e => by
    refine (I.hok b ob e).stay (fun c w' hc q => (hs.2 c ?_).trans q) (fun _ q => q) fun _ _ q => q
    rintro rfl
    rcases hc with z | hc
    · rw [← z, I.free] at e; cases e
    · rw [I.free] at hc; cases hc
  refine h _ ⟨I.ok, I.os, I.bare, ⟨fun b o e n hb hx => ?_, fun b o e n hb hx => ?_, I.base.free, fun b o e hx => ?_, I.base.tups, I.base.frzs, I.base.tbls⟩, ⟨_, hn', fun j y v' e1 e2 e3 => ?_⟩, fun y c e => ?_, I.free, I.freeC, fun p hp => ?_, hok, by simpa using I.len⟩
  · exact (hs.2 b (Nat.ne_of_lt (Nat.lt_of_lt_of_le (Heap.lt_size e) I.ok.above))).trans (I.base.keep b o e n hb hx)
  · obtain ⟨sl, e1⟩ := I.base.slot b o e n hb hx
    exact ⟨sl, (hs.2 b (Nat.ne_of_lt (Nat.lt_of_lt_of_le (Heap.lt_size e) I.ok.above))).trans e1⟩
  · obtain ⟨o', e1⟩ := I.base.there b o e hx
    exact ⟨o', (hs.2 b (Nat.ne_of_lt (Nat.lt_of_lt_of_le (Heap.lt_size e) I.ok.above))).trans e1⟩
  · by_cases hj : j = i
    · subst hj
      rw [List.getElem?_set_self hiσ] at e2
      cases e2
    · rw [List.getElem?_set_ne (Ne.symm hj)] at e2
      obtain ⟨u', r', q⟩ := hl j y v' e1 e2 e3
      refine ⟨u', r', ?_⟩
      rcases q with ⟨k, e⟩ | ⟨k, c, e, z⟩
      · refine .inl ⟨k, ?_⟩
        have : y ≠ n := fun e => hj (nodup_ix hN e1 (e ▸ hi))
        simp [this, e]
      · exact .inr ⟨k, c, e, z.sameBut hs (cne y c e)⟩
  · obtain ⟨w', z⟩ := I.cell y c e
    exact ⟨w', z.sameBut hs (cne y c e)⟩
  · obtain ⟨e, n, ne, nf, d⟩ := I.pin p hp
    exact ⟨(hs.2 p.1 ne).trans e, n, ne, nf, d⟩
end
def tTry (K : PySem.W.Frag) (B : Addr) (i : Nat) (tb : TSx) (ts : Addr → TS) : TS := fun D σ H => tb D (fun cls σ' H' => ∃ C, cls = .ref C ∧ PySem.W.exmOne K (.ref C) (.ref B) = some true ∧ ∀ a, H' a = none →
  ts a { nx := fun σ2 H2 => D.nx (σ2.set i none) H2, rt := D.rt, bk := fun σ2 H2 => D.bk (σ2.set i none) H2, ct := fun σ2 H2 => D.ct (σ2.set i none) H2 } (σ'.set i (some (.ref a))) (upd H' a (excO a C))) σ H
section
variable {X : Cx} {i : Nat} {n y : Str} {B : Addr} {body suite : List Stmt} {b₀ : Stmt} {tb : TSx} {ts : Addr → TS} {np hp pos : Pos}
theorem met_ok {pins : List (Addr × Obj)} {σ : St} {H : Hp} {s : Shared} {D : Ends} {R : XR} {ev : Value} (hst : X.stack = X.env :: X.outer) (hfr : X.env.frame = some X.env.locals) (hs : ∀ a, PSs (X.suite a) (b₀ :: suite) (ts a)) (hg : Gl X y) (hm : X.mg y = some (.ref B))
    (hN : X.N.Nodup) (hi : X.N[i]? = some n) (hk : X.env.kindOf n = some .local)
    (hx : XP X pins (fun cls σ' H' => ∃ C, cls = .ref C ∧ PySem.W.exmOne X.K (.ref C) (.ref B) = some true ∧ ∀ a, H' a = none →
      ts a { nx := fun σ2 H2 => D.nx (σ2.set i none) H2, rt := D.rt, bk := fun σ2 H2 => D.bk (σ2.set i none) H2, ct := fun σ2 H2 => D.ct (σ2.set i none) H2 } (σ'.set i (some (.ref a))) (upd H' a (excO a C))) ev s)
    (hdb : (y == ("__debug__" : Str)) = false := by decide) :
    wpAny (model X.prog X.w) X.A (noteFrame ev X.env) (fun _ s₂ => wpAny (model X.prog X.w) X.A (setFlight ev none) (fun _ s₃ => wpAny (model X.prog X.w) X.A (handleBy ev X.env [.ExceptHandler (some (.Name y np)) (some n) (b₀ :: suite) hp]) (SP X pins D) X.xe s₃) X.xe s₂) X.xe s := by
  obtain ⟨a, cls, σ, H, rfl, I, fl, C, rfl, hex, hq⟩ := hx
  refine note_s (base := X.base) (outer := X.outer) (L := X.env.locals) (by rw [← hst]; exact I.ok.frames) (by rw [← hst]; exact I.stack) hfr fl.exc fun h' lf => ?_
  rw [← hst] at lf
  have I1 := I.left fl lf
  have fl1 : Fly X pins H { s with heap := h' } a (.ref C) := ⟨lf.exc, fl.hn, fl.s0, fl.loc, fl.cell, fl.pin, fl.st⟩
  refine wpAny_handleBy_cons (codeAny_handlers_test (ld_glob (X := X.suite a) (I1.suite a) hg hm ?_ hdb)) (by intro q; cases q)
  have LT : PySem.W.Looks (model X.prog X.w) h' (typeOf (.ref a)) (.ref C) := by
    obtain ⟨oe, vs, he, hc, _⟩ := lf.exc
    exact hc ▸ (PySem.W.Looks.ld he).andThen .now
  refine (PySem.W.exm_one I1.kIn LT hex) _ _ _ _ (fun _ _ e => e) ?_
  refine codeAny_handlers_suite_as ?_
  refine land_s fl1.exc fun h2 k2 => ?_
  have I2 : Inv X pins σ H { s with heap := h2 } := I1.kept (t' := s.toks) fun b u q => (k2 b).trans q
  have fl2 : Fly X pins H { s with heap := h2 } a (.ref C) := ⟨fl1.exc.same k2, fl.hn, fl.s0, fl.loc, fl.cell, fl.pin, fl.st⟩
  have I3 := (I2.trackX fl2).suite a
  refine store_ok (X := X.suite a) (v := .ref a) I3 hN hi (.inl hk) rfl (fun s4 I4 => ?_) (.inr hk)
  refine wpAny_mono (hs a pins s4 _ _ _ I4 (hq a fl.hn)) (fun f s5 hf => ?_) fun _ _ z => False.elim z
  have fin : ∀ {σ2 : St} {H2 : Hp}, Inv (X.suite a) pins σ2 H2 s5 → ∀ Q : Unit → Shared → Prop, (∀ s', Inv X pins (σ2.set i none) H2 s' → Q () s') → wpAny (model X.prog X.w) X.A (do bindName X.env n .none; unbindBehindTheSuite X.env n hp) Q X.xe s5 :=
    fun J Q hQ => goes_ok (J.unsuite I.ok) hN hi hk hQ
  cases f with
  | next => obtain ⟨σ2, H2, J, q⟩ := hf; exact fin J _ fun s' I' => ⟨_, _, I', q⟩
  | brk => obtain ⟨σ2, H2, J, q⟩ := hf; exact fin J _ fun s' I' => ⟨_, _, I', q⟩
  | cont => obtain ⟨σ2, H2, J, q⟩ := hf; exact fin J _ fun s' I' => ⟨_, _, I', q⟩
  | ret u => obtain ⟨v, σ2, H2, J, r, q⟩ := hf; exact fin J _ fun s' I' => ⟨v, _, _, I', r, q⟩
theorem ps_try (hst : X.stack = X.env :: X.outer) (hfr : X.env.frame = some X.env.locals) (hb : PSx X body tb) (hs : ∀ a, PSs (X.suite a) (b₀ :: suite) (ts a)) (hg : Gl X y) (hm : X.mg y = some (.ref B))
    (hN : X.N.Nodup) (hi : X.N[i]? = some n) (hk : X.env.kindOf n = some .local) (hdb : (y == ("__debug__" : Str)) = false := by decide) :
    PS X (.Try body [.ExceptHandler (some (.Name y np)) (some n) (b₀ :: suite) hp] [] [] pos) (tTry X.K B i tb ts) := by
  intro pins s σ H D I h
  refine wpAny_Try_except (wpAny_mono (hb pins s σ H _ _ I h) (fun f s1 q => ?_) fun e s1 q => met_ok (σ := σ) (H := H) (R := fun _ _ _ => True) hst hfr hs hg hm hN hi hk q hdb)
  cases f with
  | next => exact wpAny_execs_nil q
  | ret v => exact q
  | brk => exact q
  | cont => exact q
end
end L2
namespace L2
open PySem PySem.Spec PyProof.Rows
abbrev bmVE : List Value := [.type "ValueError", .type "Exception", .type "BaseException", .type "object"]
def OwnVE (K : PySem.W.Frag) (C : Addr) : Prop := PySem.W.excIn K C bmVE "ValueError.__new__" = true
theorem own_obj {K : PySem.W.Frag} {h : Heap} {C : Addr} {bmB : List Value} {newId : String} (X : K.In h) (q : PySem.W.excIn K C bmB newId = true) : ∃ bm N nm q bs hdct sn sub ab col dd k0 k1 k2 k3 k5 mN, h.get? C = some (excClassObj nm q C N bs bm hdct sn sub ab col dd k0 k1 k2 k3 k5 newId) ∧ h.Ns N mN ∧ mN "__init__" = none ∧ OwnTail h bmB bm := by
  unfold PySem.W.excIn at q
  split at q
  · rename_i dd cd sl ho
    split at q
    · rename_i C' bm k0 k1 k2 k3 n k5 hm hs
      simp only [Bool.and_eq_true, beq_iff_eq, Bool.not_eq_true'] at q
      obtain ⟨⟨⟨⟨⟨rfl, rfl⟩, hdel⟩, ht⟩, hok⟩, hni⟩ := q
      obtain ⟨nm, bs, mro, ns, qn, hd, sn, sub, ab, col, del⟩ := cd
      dsimp only at hm hdel hok hni
      subst hm hdel
      have hsl : sl = #[k0, k1, k2, k3, some (.builtin n), k5] := by
        obtain ⟨l⟩ := sl
        simp only at hs
        rw [hs]
      subst hsl
      exact ⟨bm, ns, nm, qn, bs, hd, sn, sub, ab, col, dd, k0, k1, k2, k3, k5, _, X _ _ ho, .of_isNs (PySem.W.isNs_of_in X hok), PySem.W.nsMap_none_of_in X hok hni, PySem.W.tail_of_in X ht⟩
    · cases q
  · cases q
theorem ObjOk.get {P : Program} {w : World} {H : Hp} {h : Heap} {a : Addr} {o : HO} (x : ObjOk P w H h a o) : ∃ ob, h.get? a = some ob := by
  cases o with
  | lst xs => obtain ⟨_, _, _, _, e⟩ := x; exact ⟨_, e⟩
  | tup xs => obtain ⟨_, _, _, ob, e, _⟩ := x; exact ⟨_, e⟩
  | dK kvs => obtain ⟨_, _, _, _, o, _, _, e, _⟩ := x; exact ⟨_, e⟩
  | dT kvs => obtain ⟨_, _, _, _, o, _, _, e, _⟩ := x; exact ⟨_, e⟩
  | set S n => obtain ⟨o, _, _, _, e, _⟩ := x; exact ⟨_, e⟩
  | ins C dx fs => obtain ⟨_, _, _, e, _⟩ := x; exact ⟨_, e⟩
  | own y => obtain ⟨_, e⟩ := x; exact ⟨_, e⟩
  | xd fs => obtain ⟨_, ⟨_, _, _, e, _⟩, _⟩ := x; exact ⟨_, e⟩
  | rng lo hi => obtain ⟨_, _, _, e⟩ := x; exact ⟨_, e⟩
  | frz ob u => obtain ⟨e, _⟩ := x; exact ⟨_, e⟩
  | tbl ps => obtain ⟨_, e, _⟩ := x; exact ⟨_, e⟩
  | met f y => exact ⟨_, (show h.get? a = some _ from x)⟩
  | ext φ => obtain ⟨_, ⟨_, e⟩, _⟩ := x; exact ⟨_, e⟩
theorem HOk.off {P : Program} {w : World} {H : Hp} {h : Heap} {a : Addr} (x : HOk P w H h) (e : h.get? a = none) : H a = none := by
  cases q : H a with
  | none => rfl
  | some u =>
    obtain ⟨ob, z⟩ := (x a u q).get
    rw [e] at z; cases z
def Raises (X : Cx) (E : XK) : Prop := ∀ (pins : List (Addr × Obj)) (σ : St) (H : Hp) (s : Shared) (a : Addr) (cls : Value), Inv X pins σ H s → ExcO s.heap a cls → X.s₀.heap.get? a = none → H a = none → E cls none H → X.xe (.ref a) s
def tRaise (C : Addr) (E : XK) (t : TA) : TS := fun _ σ H => t σ H fun vs H1 => vs.length ≤ sizeLine ∧ E (.ref C) none H1
theorem raisesE {P : Program} {w : World} {K : PySem.W.Frag} {mg : Str → Option Value} {base : Heap} {N : List Str} {qual : Str} {scope : Scope} {f : Addr} {cd : Value} {A : Around} {outer : List Env} {s0 : Shared} {H0 : Hp} {E : XK} :
    Raises (cxOf (CXE P w) P w K mg base N qual scope f cd A outer s0 H0 E) E := fun pins σ H s a cls I hx ha hn hE => xe_of I hx ha hn hE
section
variable {X : Cx} {C : Addr} {E : XK} {x : Str} {e₀ : Expr} {rest : List Expr} {t : TA} {np cpos pos : Pos}
theorem ps_raise (hc : X.calm = true) (hex : X.ex = []) (own : OwnVE X.K C) (hg : Gl X x) (hm : X.mg x = some (.ref C)) (hE : Raises X E) (ha : PA X (e₀ :: rest) t)
    (hd : (x == ("__debug__" : Str)) = false := by decide) (he : starEach (e₀ :: rest) X.env = (false, eval e₀ X.env) :: starEach rest X.env := by rfl) (hplain : (backTo cpos (starEach rest X.env)).any (·.1) = false := by rfl) :
    PS X (.Raise (some (.Call (.Name x np) (e₀ :: rest) [] cpos)) none pos) (tRaise C E t) := by
  intro pins s σ H D I h
  obtain ⟨tl, N, nm, q, bs, hdct, sn, sub, ab, col, dd, k0, k1, k2, k3, k5, mN, hC, hN, hni, T⟩ := own_obj I.mod.kin own
  have FB := PySem.F.excBase_ValueError
  refine wpAny_Raise_call_subT (C := C) (nm := nm) (q := q) (N := N) (bs := bs) (bm := tl) (hdct := hdct) (sn := sn) (sub := sub) (ab := ab) (col := col) (dd := dd) (k0 := k0) (k1 := k1) (k2 := k2) (k3 := k3) (k5 := k5)
    FB (mN := mN) (T.hasType FB.hasBase) (I.ok.hd hc) (by rw [he]; show (false || (backTo cpos (starEach rest X.env)).any (·.1)) = false; rw [hplain]; rfl) hni (ld_glob I hg hm ⟨rfl, ?_⟩ hd)
  have hA := thn (ha cpos pins s σ H _ I h) (Q' := fun us s2 => us.length ≤ sizeLine ∧ (∀ b o, X.base.get? b = some o → s2.heap.get? b = some o) ∧ ∀ h' e, Heap.MadeExcOf s2.heap h' e (.ref C) us → X.xe (.ref e) { s2 with heap := h' }) fun us s2 ⟨vs, H1, I1, r, hl, hq⟩ => by
    refine ⟨by rw [← r.length]; exact hl, I1.bk, fun h' e mk => ?_⟩
    obtain ⟨t, h1, h2, h3⟩ := mk.there
    have hn := I1.hok.off mk.new
    exact hE pins σ H1 _ e (.ref C) (I1.kept (t' := s2.toks) mk.keeps) ⟨_, _, h1, rfl, rfl, rfl, by rfl, .inl (by rfl)⟩ (I1.fresh0 hex mk.new) hn hq
  rw [he] at hA ⊢
  exact Calls.evalArgs_plain (wpAny_mono hA (fun vs s₂ h₂ => ⟨rfl, h₂.1, h₂.2.1 _ _ hC, hN.keeps h₂.2.1, T.keeps h₂.2.1, h₂.2.2⟩) fun _ _ y => y)
end
end L2
namespace L2
open PySem PySem.Spec PyProof.Rows
section
variable {X : Cx} {tg : Expr} {e : Addr}
def clsV : V → Value
  | .ref a => .ref a
  | .ty n => .type n
  | _ => .none
def isCV : V → Bool
  | .ref _ => true
  | .ty _ => true
  | _ => false
theorem call_isiX {K : PySem.W.Frag} (hK : X.K = K) : CallR X (.builtin "isinstance") (fun xs H Q => ∃ a D c b, xs = [.ref a, c] ∧ H a = some (excO a D) ∧ XCls K D ∧ isCV c = true ∧ PySem.W.kitOne K (.ref D) (clsV c) = some b ∧ Q (.bl b) H) := by
  subst hK
  rintro pins s σ H xs us Q I r ⟨a, D, c, b, rfl, ha, cl, ic, ek, q⟩
  cases r with
  | cons r1 r2 =>
    cases r2 with
    | cons r3 r4 =>
      cases r4
      rename_i u1 u2
      obtain ⟨o, vs, J, _⟩ := Rd.exc I.hok ha
      have eu1 : u1 = Value.ref a := r1
      subst eu1
      have eu : u2 = clsV c := by
        cases c with
        | ref a => exact r3
        | ty n => exact r3
        | _ => cases ic
      subst eu
      exact PySem.W.kia_one (kitx_exc cl) I.kIn ⟨o, J⟩ ek (fun z => nomatch z) fun tk => ⟨.bl b, H, I.tok _, rfl, q⟩
end
end L2
namespace L2
open PySem PySem.Spec PyProof.Rows
abbrev TF := St → Hp → (Hp → Prop) → Prop
def PF (X : Cx) (e : Expr) (t : TF) : Prop :=
  ∀ (pins : List (Addr × Obj)) (s : Shared) (σ : St) (H : Hp) (Q : Hp → Prop), Inv X pins σ H s → t σ H Q → wpAny (model X.prog X.w) X.A (eval e X.env) (fun v s1 => ∃ y tk H1, v = .str y tk ∧ y.length ≤ 3000 ∧ Inv X pins σ H1 s1 ∧ Q H1) X.xe s
def PFs (X : Cx) (es : List Expr) (t : TF) : Prop :=
  ∀ (acc : Str) (n : Nat) (pins : List (Addr × Obj)) (s : Shared) (σ : St) (H : Hp) (Q : Hp → Prop), acc.length ≤ 3000 * n → n + es.length ≤ 100 → Inv X pins σ H s → t σ H Q →
    Joins (model X.prog X.w) X.A X.xe (evalEach es X.env) acc (fun out s1 => out.length ≤ sizeLine ∧ ∃ H1, Inv X pins σ H1 s1 ∧ Q H1) s
section
variable {X : Cx} {e v₁ v₂ : Expr} {es rest : List Expr} {t u : TF} {te : TE} {pos : Pos}
def fTxt : TF := fun _ H Q => Q H
theorem pf_str {x : Str} {j pos} (hx : x.length ≤ 3000 := by decide) : PF X (.Constant (.str x) j pos) fTxt := fun _ _ _ H _ I h => Calls.Constant_str ⟨x, _, H, rfl, hx, I.tok _, h⟩
def fInt (te : TE) : TF := fun σ H Q => te σ H fun v H1 => ∃ i : Int, v = .int i ∧ i.natAbs.log2 < 1920 ∧ Q H1
theorem pf_int (he : PE X e te) : PF X (.FormattedValue e (-1) none pos) (fInt te) := by
  intro pins s σ H Q I h
  refine wpAny_FormattedValue_plain (thn (he pins s σ H _ I h) fun v s1 ⟨x, H1, I1, r, i, ex, hi, q⟩ => ?_)
  subst ex
  obtain ⟨tk, rfl⟩ := (show ∃ t, v = Value.int i t from r)
  refine wpAny_formatField_int hi ⟨_, _, H1, rfl, ?_, I1.tok _, q⟩
  have e := int_text_length_le (k := 1920) (by decide) hi
  rw [PySem.ofString_length]; omega
def fNil : TF := fun _ H Q => Q H
def fCons (t u : TF) : TF := fun σ H Q => t σ H fun H1 => u σ H1 Q
theorem pfs_nil : PFs X [] fNil := fun acc n pins s σ H Q ha hn I h => ⟨by rw [sizeLine_eq]; have : n ≤ 100 := hn; omega, H, I, h⟩
theorem pfs_cons (h1 : PF X e t) (h2 : PFs X es u) : PFs X (e :: es) (fCons t u) := by
  intro acc n pins s σ H Q ha hn I h
  show wpAny _ _ (eval e X.env) _ _ s
  refine thn (h1 pins s σ H _ I h) fun v s1 ⟨y, tk, H1, ev, hy, I1, q⟩ => ⟨y, tk, ev, ?_, ?_⟩
  · rw [strLen_append, sizeLine_eq]
    have : n + (es.length + 1) ≤ 100 := hn
    omega
  · refine h2 (acc ++ y) (n + 1) pins s1 σ H1 Q ?_ ?_ I1 q
    · rw [strLen_append]; omega
    · have : n + (es.length + 1) ≤ 100 := hn
      omega
def tFst (t : TF) : TE := fun σ H Q => t σ H fun H1 => ∀ x : Str, Q (.str x) H1
theorem pe_fst (h : PFs X (v₁ :: v₂ :: rest) t) (hn : rest.length ≤ 90 := by decide) : PE X (.JoinedStr (v₁ :: v₂ :: rest) pos) (tFst t) := by
  intro pins s σ H Q I hq
  refine wpAny_JoinedStr ?_
  have := h Str.empty 0 pins s σ H _ (by decide) (by show 0 + (rest.length + 1 + 1) ≤ 100; omega) I hq
  refine joins_mono _ _ this fun out s1 ⟨hz, H1, I1, q⟩ => ⟨hz, .str out, H1, I1.tok _, ⟨_, rfl⟩, q out⟩
where
  joins_mono {M : Model} {A : Around} {E : Value → Shared → Prop} {Q Q' : Str → Shared → Prop} : ∀ (l : List (Sem Value)) (acc : Str) {s : Shared}, Joins M A E l acc Q s → (∀ o s, Q o s → Q' o s) → Joins M A E l acc Q' s
    | [], _, _, h, k => k _ _ h
    | _ :: r, acc, _, h, k => wpAny_mono h (fun _ _ ⟨y, t, e, z, q⟩ => ⟨y, t, e, z, joins_mono r (acc ++ y) q k⟩) fun _ _ z => z
end
end L2
namespace L2
open PySem PySem.Spec PyProof.Rows
theorem bt_ValueError : bootBuiltins "ValueError" = some (.type "ValueError") := by decide +kernel
structure AskC (K : PySem.W.Frag) (C : Addr) : Prop where
  cl : (PySem.W.clsIn K C).isSome = true
  ty : PySem.W.typeIn K (.ref C) = some (.type "type")
structure ExcB (K : PySem.W.Frag) (B : Addr) : Prop where
  cl : (PySem.W.clsIn K B).isSome = true
  ty : PySem.W.typeIn K (.ref B) = some (.type "type")
  bx : PySem.W.mroIn K B (.type "BaseException") = some true
structure ExcC (K : PySem.W.Frag) (B D : Addr) : Prop where
  own : OwnVE K D
  ga : PySem.W.findIn K (.ref D) "__getattribute__" = some (some (.builtin "BaseException.__getattribute__"))
  gt : PySem.W.findIn K (.ref D) "__getattr__" = some none
  ca : PySem.W.findIn K (.ref D) "__class__" = some (some (.builtin "object.__class__"))
  mro : (PySem.W.clsIn K D).map (·.mro) = some (.ref D :: .ref B :: bmVE)
section
variable {K : PySem.W.Frag} {B C D : Addr}
theorem ExcC.mroIn (x : ExcC K B D) (v : Value) : PySem.W.mroIn K D v = some ((Value.ref D :: .ref B :: bmVE).contains v) := by
  have m := x.mro
  unfold PySem.W.mroIn
  cases h : PySem.W.clsIn K D with
  | none => rw [h] at m; cases m
  | some cd =>
    rw [h] at m
    have e : cd.mro = .ref D :: .ref B :: bmVE := Option.some.inj m
    show (if cd.mro.isEmpty = true then none else some (cd.mro.contains v)) = _
    rw [e]
    rfl
theorem ExcC.xcls (x : ExcC K B D) : XCls K D := ⟨x.ga, x.gt, x.ca, by rw [x.mroIn]; rfl, by rw [x.mroIn]; rfl, by
  have m := x.mro
  cases h : PySem.W.clsIn K D with
  | none => rw [h] at m; cases m
  | some cd => rfl⟩
theorem kitCls_ref (q : AskC K C) (t : Value) : PySem.W.kitCls K t (.ref C) = PySem.W.subIn K t (.ref C) := by
  show (if ((PySem.W.clsIn K C).isSome && PySem.W.typeIn K (.ref C) == some (.type "type")) = true then PySem.W.subIn K t (.ref C) else none) = _
  rw [if_pos (by rw [q.cl, q.ty]; rfl)]
theorem kit_self : PySem.W.kitOne K (.ref D) (.ref D) = some true := by
  unfold PySem.W.kitOne
  rw [if_pos (by simp)]
theorem kit_ne (x : ExcC K B D) (q : AskC K C) (h1 : D ≠ C) (h2 : B ≠ C) : PySem.W.kitOne K (.ref D) (.ref C) = some false := by
  unfold PySem.W.kitOne
  rw [if_neg (by simpa using h1), kitCls_ref q]
  show PySem.W.mroIn K D (.ref C) = some false
  rw [x.mroIn]
  have e1 : (Value.ref C == Value.ref D) = false := by simpa using Ne.symm h1
  have e2 : (Value.ref C == Value.ref B) = false := by simpa using Ne.symm h2
  rw [List.contains_cons, List.contains_cons, e1, e2]
  rfl
theorem kit_ve (x : ExcC K B D) : PySem.W.kitOne K (.ref D) (.type "ValueError") = some true := by
  unfold PySem.W.kitOne
  rw [if_neg (by simp)]
  unfold PySem.W.kitCls
  have h : PySem.W.kitMeta "ValueError" = true := by decide +kernel
  show (if PySem.W.kitMeta "ValueError" = true then PySem.W.subIn K (.ref D) (.type "ValueError") else none) = _
  rw [if_pos h]
  show PySem.W.mroIn K D (.type "ValueError") = _
  rw [x.mroIn]
  rfl
theorem exm_of (b : ExcB K B) (x : ExcC K B D) : PySem.W.exmOne K (.ref D) (.ref B) = some true := by
  unfold PySem.W.exmOne
  have e : PySem.W.subIn K (.ref B) (.type "BaseException") = some true := b.bx
  rw [e, if_pos (by rfl), kitCls_ref ⟨b.cl, b.ty⟩]
  show PySem.W.mroIn K D (.ref B) = _
  rw [x.mroIn]
  simp
end
end L2
namespace L2
open PySem PySem.Spec PyProof.Rows
theorem askC_mk {K : PySem.W.Frag} {C : Addr} (cl : PySem.W.isClsIn K C = true) (ty : PySem.W.typeIn K (.ref C) = some (.type "type")) : AskC K C := ⟨cl, ty⟩
theorem excB_mk {K : PySem.W.Frag} {C : Addr} (cl : PySem.W.isClsIn K C = true) (ty : PySem.W.typeIn K (.ref C) = some (.type "type")) (bx : PySem.W.mroIn K C (.type "BaseException") = some true) : ExcB K C := ⟨cl, ty, bx⟩
theorem excC_mk {K : PySem.W.Frag} {B C : Addr} (ow : PySem.W.excIn K C bmVE "ValueError.__new__" = true) (ga : PySem.W.findIn K (.ref C) "__getattribute__" = some (some (.builtin "BaseException.__getattribute__"))) (gt : PySem.W.findIn K (.ref C) "__getattr__" = some none) (ca : PySem.W.findIn K (.ref C) "__class__" = some (some (.builtin "object.__class__"))) (mr : (PySem.W.clsIn K C).map (·.mro) = some (.ref C :: .ref B :: bmVE)) : ExcC K B C := ⟨ow, ga, gt, ca, mr⟩
end L2
namespace Sen
open PySem L2
theorem eq_flatsB {K : PySem.W.Frag} {α : Type} [DecidableEq α] (f : α → V) (hf : ∀ x, flatV (f x) = true) (he : ∀ x y, eqV (f x) (f y) = decide (x = y)) {H : Hp} {n : Nat} {p q : Addr} {xs ys : List α} (hp : SqL K H p (xs.map f)) (hq : SqL K H q (ys.map f)) : EqD K H (n + 1) (.ref p) (.ref q) (decide (xs = ys)) := by
  by_cases hl : xs.length = ys.length
  · have z : EqD K H (n + 1) (.ref p) (.ref q) ((List.range (xs.map f).length).all fun j => decide (xs[j]? = ys[j]?)) := .ll hp hq (by rw [List.length_map, List.length_map, hl]) fun j x y h1 h2 => by
      rw [List.getElem?_map] at h1 h2
      cases e1 : xs[j]? with
      | none => rw [e1] at h1; cases h1
      | some x' =>
        cases e2 : ys[j]? with
        | none => rw [e2] at h2; cases h2
        | some y' =>
          rw [e1] at h1; rw [e2] at h2
          cases h1; cases h2
          have e : decide (some x' = some y') = eqV (f x') (f y') := by
            rw [he, Bool.eq_iff_iff]
            simp
          rw [e]
          exact .flat (hf _) (hf _)
    have e : ((List.range (xs.map f).length).all fun j => decide (xs[j]? = ys[j]?)) = decide (xs = ys) := by
      rw [Bool.eq_iff_iff, List.all_eq_true, decide_eq_true_iff]
      constructor
      · intro h
        refine List.ext_getElem? fun j => ?_
        by_cases hj : j < xs.length
        · exact of_decide_eq_true (h j (by rw [List.mem_range, List.length_map]; exact hj))
        · rw [List.getElem?_eq_none (by omega), List.getElem?_eq_none (by omega)]
      · rintro rfl j _
        simp
    rw [e] at z
    exact z
  · have e : decide (xs = ys) = false := by
      rw [decide_eq_false_iff_not]
      rintro rfl
      exact hl rfl
    rw [e]
    exact .ln hp hq (by rw [List.length_map, List.length_map]; exact hl)
theorem eq_blsB {K : PySem.W.Frag} {H : Hp} {n : Nat} {p q : Addr} {xs ys : List Bool} (hp : SqL K H p (xs.map V.bl)) (hq : SqL K H q (ys.map V.bl)) : EqD K H (n + 1) (.ref p) (.ref q) (decide (xs = ys)) :=
  eq_flatsB V.bl (fun _ => rfl) (fun x y => by cases x <;> cases y <;> rfl) hp hq
end Sen
namespace L2
open PySem PySem.Spec PyProof.Rows
section
variable {X : Cx} {e : Expr} {te : TE} {pos : Pos}
def fRep (te : TE) : TF := fun σ H Q => te σ H fun v H1 => ∃ x : Str, v = .str x ∧ (reprText x).length ≤ 3000 ∧ Q H1
theorem pf_repr (he : PE X e te) : PF X (.FormattedValue e 114 none pos) (fRep te) := by
  intro pins s σ H Q I h
  refine wpAny_FormattedValue_repr (thn (he pins s σ H _ I h) fun v s1 ⟨x, H1, I1, r, y, ex, hy, q⟩ => ?_)
  subst ex
  obtain ⟨tk, rfl⟩ := (show ∃ t, v = Value.str y t from r)
  refine wpAny_pyReprObj_str ?_ (by rw [sizeLine_eq]; omega)
  exact wpAny_formatField_str ⟨_, _, H1, rfl, hy, I1.tok _, q⟩ ⟨_, _, H1, rfl, hy, I1.tok _, q⟩ (by rw [sizeLine_eq]; omega)
end
end L2
namespace Sen
open PySem L2
abbrev Rep (x : Str) : Prop := (reprText x).length ≤ 3000
end Sen
namespace L2
open PySem PySem.Spec PyProof.Rows PySem.Builtin PySem.Builtin.Str
section
variable {X : Cx}
theorem strs_of : ∀ {xs : List Str} {l : List Value}, Vals (xs.map V.str) l → ∃ ps : List (Str × Tok), l = strValues ps ∧ ps.map (·.1) = xs
  | [], _, .nil => ⟨[], rfl, rfl⟩
  | x :: xs, _, .cons r rs => by
    obtain ⟨ps, e, e2⟩ := strs_of rs
    obtain ⟨t, rfl⟩ := r
    exact ⟨(x, t) :: ps, by rw [e]; rfl, by rw [List.map_cons, e2]⟩
end
end L2
namespace Sen
open PySem L2
theorem sr1 {a b : Nat} (h : a ≤ b) : sliceRange (a : Int) (b : Int) 1 = List.range' a (b - a) := by
  unfold sliceRange
  have e : (if (1 : Int) > 0 then (if (a : Int) < b then ((b : Int) - a + 1 - 1) / 1 else 0) else (if (a : Int) > b then ((a : Int) - b - 1 - 1) / (-1) else 0)).toNat = b - a := by
    rw [if_pos (by decide)]
    split
    · rw [Int.ediv_one]; omega
    · show (0 : Int).toNat = _
      rw [Int.toNat_zero]; omega
  dsimp only
  rw [e, List.range'_eq_map_range]
  refine List.map_congr_left fun k _ => ?_
  omega
theorem fm_range (xs : List Nat) : ∀ (a m : Nat), a + m ≤ xs.length → (List.range' a m).filterMap (xs[·]?) = (xs.drop a).take m
  | a, 0, _ => by simp
  | a, m + 1, h => by
    rw [List.range'_succ, List.filterMap_cons, List.getElem?_eq_getElem (by omega)]
    dsimp only
    rw [fm_range xs (a + 1) m (by omega), List.drop_eq_getElem_cons (by omega : a < xs.length), List.take_succ_cons]
theorem slice_at {x : Str} {lo hi : Option Int} {a b : Nat} (h : a ≤ b) (hb : b ≤ x.length) (e : Builtin.Str.strSliceIndices lo hi 1 x.length = sliceRange (a : Int) (b : Int) 1) : Txt.slice x lo hi = ⟨((x.cps.toList.drop a).take (b - a)).toArray⟩ := by
  unfold Txt.slice
  rw [e, sr1 h]
  have ls : x.cps.toList.length = x.length := Array.length_toList
  split
  · rename_i w
    have w2 : (List.range' a (b - a)).length = x.length := by simpa using w
    rw [List.length_range'] at w2
    have a0 : a = 0 := by omega
    have bn : b = x.length := by omega
    subst a0
    rw [List.drop_zero, List.take_of_length_le (by omega)]
  · congr 2
    have := fm_range x.cps.toList a (b - a) (by omega)
    rw [← this]
    exact congrArg (fun f => List.filterMap f (List.range' a (b - a))) (funext fun i => (Array.getElem?_toList).symm)
theorem slice_fore {x : Str} {i : Nat} (h : i ≤ x.length) : Txt.slice x none (some (i : Int)) = ⟨(x.cps.toList.take i).toArray⟩ := by
  have := slice_at (x := x) (lo := none) (hi := some (i : Int)) (a := 0) (b := i) (Nat.zero_le _) h (by
    unfold Builtin.Str.strSliceIndices
    dsimp only
    simp only [show (1 : Int) > 0 by decide, if_true]
    rw [if_neg (by omega : ¬ (i : Int) < 0)]
    congr 1
    omega)
  rw [List.drop_zero, Nat.sub_zero] at this
  exact this
theorem slice_rear {x : Str} {i : Nat} (h : i ≤ x.length) : Txt.slice x (some (i : Int)) none = ⟨(x.cps.toList.drop i).toArray⟩ := by
  have := slice_at (x := x) (lo := some (i : Int)) (hi := none) (a := i) (b := x.length) h (Nat.le_refl _) (by
    unfold Builtin.Str.strSliceIndices
    dsimp only
    simp only [show (1 : Int) > 0 by decide, if_true]
    rw [if_neg (by omega : ¬ (i : Int) < 0)]
    congr 1
    omega)
  rw [List.take_of_length_le (by rw [List.length_drop]; have : x.cps.toList.length = x.length := Array.length_toList; omega)] at this
  exact this
end Sen
namespace L2
open PySem PySem.Spec PyProof.Rows
theorem for_str {x : Str} {g : TG} {tb : TS} {D : Ends} {σ : St} {H : Hp} (Pv : Nat → St → Hp → Prop) (h0 : Pv 0 σ H)
    (hs : ∀ i c σ H, x.cps[i]? = some c → Pv i σ H → g (.str ⟨#[c]⟩) σ H fun σ2 H2 => tb { D with nx := Pv (i + 1), ct := Pv (i + 1), bk := D.nx } σ2 H2) (hd : ∀ σ H, Pv x.cps.size σ H → D.nx σ H) :
    ∃ W : Nat → Nat → St → Hp → Prop, (∃ m, W 0 m σ H) ∧ ∀ i m σ H, W i m σ H →
      ((Its x).stop i H ∧ D.nx σ H) ∨ ((Its x).go i H ∧ ∃ N : St → Hp → Prop, (∀ σ' H', N σ' H' → ∃ m', m' < m ∧ W (i + 1) m' σ' H') ∧ ∀ v H', (Its x).yld i H v H' → g v σ H' fun σ2 H2 => tb { D with nx := N, ct := N, bk := D.nx } σ2 H2) := by
  refine ⟨fun i m σ H => m = x.cps.size - i ∧ i ≤ x.cps.size ∧ Pv i σ H, ⟨x.cps.size, by simp, Nat.zero_le _, h0⟩, ?_⟩
  rintro i m σ H ⟨rfl, hi, p⟩
  by_cases hlt : i < x.cps.size
  · refine .inr ⟨hlt, Pv (i + 1), fun σ' H' p' => ⟨x.cps.size - (i + 1), by omega, rfl, hlt, p'⟩, fun v H' y => ?_⟩
    obtain ⟨e, c, hc, rfl⟩ := y
    subst e
    exact hs i c σ _ hc p
  · have e : i = x.cps.size := by omega
    subst e
    exact .inl ⟨rfl, hd σ H p⟩
end L2
namespace L2
open PySem PySem.Spec PyProof.Rows
section
variable {K : PySem.W.Frag} {σ : St} {js : List Nat} {tt : TT} {te : TE} {H : Hp} {Qf : Addr → Hp → List V → Prop}
theorem lc_mapA {a : Addr} {α : Type} (c e : α → V) {ps : List α} (hq : SqL K H a (ps.map c)) (hz : ps.length ≤ sizeLine)
    (hs : ∀ (x : α) H' (Q : V → Hp → Prop), x ∈ ps → Same H H' → (∀ H3, Same H' H3 → Q (e x) H3) → te (lcS σ js (some (c x))) H' Q)
    (hd : ∀ H' p, Same H H' → H' p = none → Qf p H' (ps.map e)) :
    ∃ W : Nat → Nat → List V → Hp → Prop, (∃ m, W 0 m [] H) ∧ ∀ i m ys H, W i m ys H →
      ((Itl K a).stop i H ∧ ∀ p, H p = none → Qf p H ys) ∨
      ((Itl K a).go i H ∧ ys.length < sizeLine ∧ ∀ x H', (Itl K a).yld i H x H' → tYes (lcS σ js (some x)) H' fun b H2 =>
        if b = true then te (lcS σ js (some x)) H2 fun v H3 => ∃ m', m' < m ∧ W (i + 1) m' (ys ++ [v]) H3 else ∃ m', m' < m ∧ W (i + 1) m' ys H2) := by
  refine lc_listC (xs := ps.map c) (fun i ys H' => Same H H' ∧ ys = (ps.take i).map e) ⟨Same.refl _, rfl⟩ (by rw [List.length_map]; exact hz) ?_ ?_ ?_
  · rintro i ys H' hi ⟨g, rfl⟩
    exact ⟨g.seq hq, by rw [List.length_map, List.length_take]; omega⟩
  · rintro i x ys H' Q hx ⟨g, rfl⟩ h
    rw [List.getElem?_map] at hx
    cases e1 : ps[i]? with
    | none => rw [e1] at hx; cases hx
    | some y =>
      rw [e1] at hx
      cases hx
      refine hs y H' Q (List.mem_of_getElem? e1) g fun H3 g3 => h _ _ ⟨g.trans g3, ?_⟩
      rw [take_next e1, List.map_append]
      rfl
  · rintro ys H' p ⟨g, rfl⟩ hp
    rw [List.length_map, List.take_length]
    exact hd H' p g hp
end
end L2
namespace Sen
open PySem L2
inductive Tr
  | s (x : Str)
  | e
  | c (h t : Tr)
def Tr.tup : Tr → Bool
  | .s _ => false
  | _ => true
def Tr.items : Tr → List Tr
  | .c h t => h :: t.items
  | _ => []
def atT (H : Hp) : Tr → (V → Prop) × (List V → Prop)
  | .s x => (fun v => v = .str x, fun _ => False)
  | .e => (fun v => ∃ p, v = .ref p ∧ H p = some (.tup []), fun vs => vs = [])
  | .c h t => (fun v => ∃ p vs, v = .ref p ∧ H p = some (.tup vs) ∧ ∃ x xs, vs = x :: xs ∧ (atT H h).1 x ∧ (atT H t).2 xs, fun vs => ∃ x xs, vs = x :: xs ∧ (atT H h).1 x ∧ (atT H t).2 xs)
def IsT (H : Hp) (t : Tr) (v : V) : Prop := (atT H t).1 v
theorem atT_mono {H H' : Hp} (g : Tups H H') : ∀ t, (∀ v, (atT H t).1 v → (atT H' t).1 v) ∧ (∀ vs, (atT H t).2 vs → (atT H' t).2 vs)
  | .s x => ⟨fun _ h => h, fun _ h => h⟩
  | .e => ⟨fun _ ⟨p, e, h⟩ => ⟨p, e, g _ _ h⟩, fun _ h => h⟩
  | .c h t => ⟨fun _ ⟨p, vs, e, h1, x, xs, e2, h2, h3⟩ => ⟨p, vs, e, g _ _ h1, x, xs, e2, (atT_mono g h).1 _ h2, (atT_mono g t).2 _ h3⟩, fun _ ⟨x, xs, e2, h2, h3⟩ => ⟨x, xs, e2, (atT_mono g h).1 _ h2, (atT_mono g t).2 _ h3⟩⟩
theorem IsT.mono {H H' : Hp} {t : Tr} {v : V} (h : IsT H t v) (g : Tups H H') : IsT H' t v := (atT_mono g t).1 v h
theorem atT_items {H : Hp} : ∀ {t : Tr} {vs : List V}, (atT H t).2 vs → Paired (IsT H) t.items vs
  | .s _, _, h => h.elim
  | .e, _, h => by cases h; exact .nil
  | .c a t, _, ⟨x, xs, e, h1, h2⟩ => by subst e; exact .cons h1 (atT_items h2)
theorem IsT.cut {H : Hp} {t : Tr} {p : Addr} (h : IsT H t (.ref p)) : ∃ vs, H p = some (.tup vs) ∧ Paired (IsT H) t.items vs := by
  cases t with
  | s x => cases h
  | e => obtain ⟨q, e, h⟩ := h; cases e; exact ⟨_, h, .nil⟩
  | c a t => obtain ⟨q, vs, e, h1, h2⟩ := h; cases e; exact ⟨vs, h1, atT_items (t := .c a t) h2⟩
theorem IsT.tup {H : Hp} {t : Tr} {v : V} (h : IsT H t v) (e : t.tup = true) : ∃ p, v = .ref p := by
  cases t with
  | s x => cases e
  | e => obtain ⟨q, e, h⟩ := h; exact ⟨q, e⟩
  | c a t => obtain ⟨q, vs, e, h1, h2⟩ := h; exact ⟨q, e⟩
theorem IsT.str {H : Hp} {t : Tr} {v : V} (h : IsT H t v) (e : t.tup = false) : ∃ x, t = .s x ∧ v = .str x := by
  cases t with
  | s x => exact ⟨x, rfl, h⟩
  | e => cases e
  | c a t => cases e
section
variable {α β : Type} {R : α → β → Prop}
theorem pdTake : ∀ {xs : List α} {ys : List β} (i : Nat), Paired R xs ys → Paired R (xs.take i) (ys.take i)
  | [], [], _, .nil => by simp only [List.take_nil]; exact .nil
  | x :: xs, y :: ys, 0, .cons _ t => .nil
  | x :: xs, y :: ys, i + 1, .cons h t => .cons h (pdTake i t)
theorem pdDrop : ∀ {xs : List α} {ys : List β} (i : Nat), Paired R xs ys → Paired R (xs.drop i) (ys.drop i)
  | [], [], _, .nil => by simp only [List.drop_nil]; exact .nil
  | x :: xs, y :: ys, 0, .cons h t => .cons h t
  | x :: xs, y :: ys, i + 1, .cons h t => pdDrop i t
end
def lk (x : Str) : Option (Nat × Nat) := (tb_SHAPES.find? fun e => decide (e.1 = x)).map fun e => (e.2.1.toNat, e.2.2.toNat)
theorem lk_some {x : Str} {m n : Nat} (h : lk x = some (m, n)) : (x, (m : Int), (n : Int)) ∈ tb_SHAPES ∧ m ≤ 1 ∧ n ≤ 2 := by
  rw [lk, Option.map_eq_some_iff] at h
  obtain ⟨e, h1, h2⟩ := h
  have m1 := List.mem_of_find?_eq_some h1
  have m3 := List.find?_some h1
  have m2 : e.1 = x := of_decide_eq_true m3
  have z : ∀ e ∈ tb_SHAPES, 0 ≤ e.2.1 ∧ 0 ≤ e.2.2 ∧ e.2.1 ≤ 1 ∧ e.2.2 ≤ 2 := by decide +kernel
  obtain ⟨z1, z2, z3, z4⟩ := z e m1
  cases h2
  subst m2
  rw [Int.toNat_of_nonneg z1, Int.toNat_of_nonneg z2]
  exact ⟨m1, by omega, by omega⟩
theorem lk_none {x : Str} (h : lk x = none) : ∀ e ∈ tb_SHAPES, e.1 ≠ x := by
  rw [lk, Option.map_eq_none_iff, List.find?_eq_none] at h
  exact fun e he z => h e he (decide_eq_true z)
def isMk : Tr → Bool
  | .s x => decide (x ∈ letts)
  | _ => false
def shp (t : Tr) : Bool :=
  match t.items with
  | .s x :: r => match lk x with
    | some (m, n) => decide (r.length = m + n) && (r.take m).all isMk && (r.drop m).all Tr.tup
    | none => false
  | _ => false
def pts (t : Tr) : List Tr :=
  match t.items with
  | .s x :: r => match lk x with
    | some (m, _) => r.drop m
    | none => []
  | _ => []
def lev : Nat → Nat → List Tr → Bool
  | 0, _, ts => ts.isEmpty
  | f + 1, t, ts => ts.isEmpty || (decide (t + ts.length ≤ 200) && ts.all shp && lev f (t + ts.length) (ts.flatMap pts))
theorem shp_cut {t : Tr} (h : shp t = true) : ∃ x m n r, t.items = .s x :: r ∧ lk x = some (m, n) ∧ r.length = m + n ∧ (r.take m).all isMk = true ∧ (r.drop m).all Tr.tup = true ∧ pts t = r.drop m := by
  unfold shp at h
  unfold pts
  split at h
  · rename_i x r e
    split at h
    · rename_i m n e2
      rw [Bool.and_eq_true, Bool.and_eq_true] at h
      refine ⟨x, m, n, r, e, e2, of_decide_eq_true h.1.1, h.1.2, h.2, rfl⟩
    · cases h
  · cases h
inductive spMarkX (vs : List V) (H : Hp) (Q : VK) (E9 : XK) : Prop
  | mk (t : Tr) (v : V) (_ : vs = [v]) (_ : IsT H t v) (_ : Q (.bl (isMk t)) H) : spMarkX vs H Q E9
theorem mono_markX : SpMono spMarkX := fun vs H Q Q' E h ⟨t, v, e, h1, q⟩ => ⟨t, v, e, h1, h _ _ q⟩
inductive spShapedX (vs : List V) (H : Hp) (Q : VK) (E9 : XK) : Prop
  | mk (p : Addr) (t : Tr) (_ : vs = [.ref p]) (_ : IsT H t (.ref p)) (_ : ∀ H', Same H H' → Q (.bl (shp t)) H') : spShapedX vs H Q E9
theorem mono_shapedX : SpMono spShapedX := fun vs H Q Q' E h ⟨p, t, e, h1, q⟩ => ⟨p, t, e, h1, fun H' g => h _ _ (q H' g)⟩
inductive spPartsAllX (K : PySem.W.Frag) (vs : List V) (H : Hp) (Q : VK) (E9 : XK) : Prop
  | mk (l : Addr) (ts : List Tr) (ps : List Addr) (_ : vs = [.ref l]) (_ : SqL K H l (ps.map V.ref)) (_ : Paired (fun t p => IsT H t (.ref p)) ts ps) (_ : ts.all shp = true) (_ : ts.length ≤ 200)
    (_ : ∀ (l' : Addr) H' (qs : List Addr), Same H H' → H l' = none → H' l' = some (.lst (qs.map V.ref)) → Paired (fun t p => IsT H' t (.ref p)) (ts.flatMap pts) qs → Q (.ref l') H') : spPartsAllX K vs H Q E9
inductive spIsSenX (vs : List V) (H : Hp) (Q : VK) (E9 : XK) : Prop
  | mk (p : Addr) (t : Tr) (_ : vs = [.ref p]) (_ : IsT H t (.ref p)) (_ : ∀ H', Same H H' → Q (.bl (lev 24 0 [t])) H') : spIsSenX vs H Q E9
def mkV : V → Bool
  | .str x => decide (x ∈ letts)
  | _ => false
def tuV : V → Bool
  | .ref _ => true
  | _ => false
theorem IsT.mk {H : Hp} {t : Tr} {v : V} (h : IsT H t v) : isMk t = mkV v := by
  cases t with
  | s x => cases h; rfl
  | e => obtain ⟨q, e, h⟩ := h; subst e; rfl
  | c a t => obtain ⟨q, vs, e, h1, h2⟩ := h; subst e; rfl
theorem IsT.tu {H : Hp} {t : Tr} {v : V} (h : IsT H t v) : t.tup = tuV v := by
  cases t with
  | s x => cases h; rfl
  | e => obtain ⟨q, e, h⟩ := h; subst e; rfl
  | c a t => obtain ⟨q, vs, e, h1, h2⟩ := h; subst e; rfl
theorem pd_all {α β : Type} {R : α → β → Prop} {f : α → Bool} {g : β → Bool} (h : ∀ a b, R a b → f a = g b) : ∀ {xs : List α} {ys : List β}, Paired R xs ys → xs.all f = ys.all g
  | _, _, .nil => rfl
  | _, _, .cons r t => by rw [List.all_cons, List.all_cons, h _ _ r, pd_all h t]
theorem all_bl (f : V → Bool) (xs : List V) : (xs.map f).all id = xs.all f := by
  rw [List.all_map]; rfl
theorem pd_refs {H : Hp} : ∀ {ts : List Tr} {vs : List V}, Paired (IsT H) ts vs → ts.all Tr.tup = true → ∃ ps : List Addr, vs = ps.map V.ref ∧ Paired (fun t p => IsT H t (.ref p)) ts ps
  | _, _, .nil, _ => ⟨[], rfl, .nil⟩
  | _, _, .cons r t, e => by
    rw [List.all_cons, Bool.and_eq_true] at e
    obtain ⟨p, e1⟩ := r.tup e.1
    obtain ⟨ps, e2, h⟩ := pd_refs t e.2
    subst e1 e2
    exact ⟨p :: ps, rfl, .cons r h⟩
theorem not_mark (xs : List V) : (xs.any fun _ => false) = false := by
  rw [List.any_eq_false]; exact fun _ _ => Bool.false_ne_true
end Sen
namespace L2
open PySem PySem.Spec PyProof PyProof.Rows PySem.Builtin PySem.Builtin.Str
section
variable {X : Cx}
def rAddT (K : PySem.W.Frag) : R2 := fun x y H Q => ∃ p q xs ys, x = .ref p ∧ y = .ref q ∧ SqT K H p xs ∧ SqT K H q ys ∧ xs ≠ [] ∧ xs.length + ys.length ≤ sizeLine ∧ (ys = [] → Q (.ref p) H) ∧ (ys ≠ [] → ∀ l, H l = none → Q (.ref l) (upd H l (.tup (xs ++ ys))))
theorem op_addT {K : PySem.W.Frag} (hK : X.K = K) : OpR X (binaryOp .Add) (rAddT K) := by
  subst hK
  intro pins s σ H x y v u Q I rx ry h
  obtain ⟨p, q, xs, ys, rfl, rfl, hp, hq, ne, hz, h1, h2⟩ := h
  cases rx
  cases ry
  obtain ⟨its1, rv1, pl1, hz1⟩ := I.tuple hp
  obtain ⟨its2, rv2, pl2, hz2⟩ := I.tuple hq
  obtain ⟨⟨cls, dd, data, sl⟩, ho, hc, n, hd⟩ := id pl1
  obtain ⟨⟨cls2, dd2, data2, sl2⟩, ho2, hc2, n2, hd2⟩ := id pl2
  simp only at hc hd hc2 hd2
  subst hc hd hc2 hd2
  have l1 := rv1.length
  have l2 := rv2.length
  have e : its1.toArray ++ its2.toArray = (its1 ++ its2).toArray := by simp
  have n1 : its1 ≠ [] := fun z => ne (List.length_eq_zero_iff.mp (by rw [l1, z]; rfl))
  by_cases hw : ys = []
  · have w0 : its2 = [] := List.length_eq_zero_iff.mp (by rw [← l2, hw]; rfl)
    exact concat_meets ⟨_, ho, rfl⟩ ⟨_, ho2, rfl⟩ noFill_tuple_add seq_tuple_add PySem.F.slot_tuple_add PySem.F.entry_tuple_add (PySem.F.args_tuple_add_2 _ _)
      (tuple_addW1 p q its1.toArray its2.toArray n n2 dd dd2 sl sl2 (by simpa using n1) (by simp [w0])) ⟨ho, ho2, .ref p, H, I, rfl, h1 hw⟩
  · have w0 : its2 ≠ [] := fun z => hw (List.length_eq_zero_iff.mp (by rw [l2, z]; rfl))
    refine concat_meets ⟨_, ho, rfl⟩ ⟨_, ho2, rfl⟩ noFill_tuple_add seq_tuple_add PySem.F.slot_tuple_add PySem.F.entry_tuple_add (PySem.F.args_tuple_add_2 _ _)
      (tuple_addW2 p q its1.toArray its2.toArray n n2 dd dd2 sl sl2 (by simpa using n1) (by simpa using w0) (by rw [List.size_toArray, List.size_toArray, ← l1, ← l2]; exact hz)) ⟨ho, ho2, ?_⟩
    rw [e]
    refine ⟨.ref s.heap.objs.size, _, I.laid (t' := s.toks) (o := .tup (xs ++ ys)) (fun b o e => Heap.get?_push_of_some _ e) (Nat.le_refl _) ?_, rfl, h2 hw _ (I.hok.fresh (Nat.le_refl _))⟩
    exact ⟨by rw [List.length_append]; exact hz, its1 ++ its2, rv1.append rv2, _, Heap.get?_push_size _ rfl, rfl, 0, rfl⟩
def jl (sep : Str) (zs : List Str) : Nat := (zs.map fun x => x.length + sep.length).sum
theorem jl_fold (sep : Str) : ∀ (zs : List Str) (n : Nat), zs.foldl (fun a x => a + x.length + sep.length) n = n + jl sep zs
  | [], n => rfl
  | z :: zs, n => by
    rw [List.foldl_cons, jl_fold sep zs]
    show _ = n + ((z.length + sep.length) + jl sep zs)
    omega
theorem jl_len (sep : Str) : ∀ (zs : List Str), (Str.join sep zs).length ≤ jl sep zs
  | [] => Nat.zero_le _
  | [z] => by show z.length ≤ (z.length + sep.length) + 0; omega
  | z :: y :: zs => by
    have h := jl_len sep (y :: zs)
    show (z ++ sep ++ Str.join sep (y :: zs)).length ≤ (z.length + sep.length) + jl sep (y :: zs)
    rw [strLen_append, strLen_append]
    omega
def rJoinS (K : PySem.W.Frag) : V → List V → Hp → VK → Prop := fun x vs H Q => ∃ (sep : Str) (l : Addr) (zs : List Str), x = .str sep ∧ vs = [.ref l] ∧ (SqL K H l (zs.map V.str) ∨ SqT K H l (zs.map V.str)) ∧ jl sep zs ≤ 30000 ∧ Q (.str (Str.join sep zs)) H
theorem join_post {pins : List (Addr × Obj)} {σ : St} {H : Hp} {s : Shared} {Q : VK} (I : Inv X pins σ H s) (sep : Str) (zs : List Str) (ps : List (Str × Tok)) (e : ps.map (·.1) = zs) (hz : jl sep zs ≤ 30000) (q : Q (.str (Str.join sep zs)) H) {R : Value → Shared → Prop} (hR : ∀ v s', (∃ x H', Inv X pins σ H' s' ∧ RelV x v ∧ Q x H') → R v s') : (joinMade sep ps).post R s := by
  have hl := jl_len sep zs
  match ps, e with
  | [], e =>
    subst e
    refine ⟨by rw [show glued sep (([] : List (Str × Tok)).map (·.1)) = Str.join sep [] from PySem.StrLaws.glued_eq_join sep []]; exact Nat.le_trans hl (by rw [sizeLine_eq]; omega), hR _ _ ⟨.str (Str.join sep []), H, I.tok _, ⟨_, rfl⟩, q⟩⟩
  | [p], e =>
    subst e
    exact hR _ _ ⟨.str p.1, H, I, ⟨p.2, rfl⟩, q⟩
  | p :: p2 :: ps, e =>
    have e2 : glued sep ((p :: p2 :: ps).map (·.1)) = Str.join sep zs := by rw [e]; exact PySem.StrLaws.glued_eq_join sep zs
    have e3 : joinMade sep (p :: p2 :: ps) = Made.str (Str.join sep zs) := congrArg Made.str e2
    rw [e3]
    exact ⟨Nat.le_trans hl (by rw [sizeLine_eq]; omega), hR _ _ ⟨.str (Str.join sep zs), H, I.tok _, ⟨_, rfl⟩, q⟩⟩
theorem mt_joinS {K : PySem.W.Frag} (hK : X.K = K) : MtM X "str.join" (rJoinS K) := by
  subst hK
  intro pins s σ H x vs v us Q I rx rv h
  obtain ⟨sep, l, zs, rfl, rfl, hq, hz, q⟩ := h
  obtain ⟨t, rfl⟩ := rx
  obtain ⟨u, rfl, ru⟩ := rv.one
  cases ru
  have tl : ∀ ps : List (Str × Tok), ps.map (·.1) = zs → tooLong ((ps.map (·.1)).toArray.foldl (· + ·.length + sep.length) 0) = false := fun ps e => by
    rw [e, List.foldl_toArray, jl_fold]
    unfold tooLong
    rw [sizeLine_eq]
    exact decide_eq_false (by omega)
  rcases hq with hq | hq
  · obtain ⟨its, r', pl, _⟩ := I.list hq
    obtain ⟨ps, rfl, eps⟩ := strs_of r'
    exact call_meets PySem.F.slot_str_join (typeIs_str s sep t) PySem.F.entry_str_join (PySem.F.args_str_join_2 _ _) (meets_str_join_list sep t l ps (tl ps eps)) ⟨pl.isList, join_post I sep zs ps eps hz q fun v s' h => h⟩
  · obtain ⟨its, r', pl, _⟩ := I.tuple hq
    obtain ⟨ps, rfl, eps⟩ := strs_of r'
    obtain ⟨o, ho, hc, n, hd⟩ := pl
    exact call_meets PySem.F.slot_str_join (typeIs_str s sep t) PySem.F.entry_str_join (PySem.F.args_str_join_2 _ _) (meets_str_join_tuple sep t l ps (tl ps eps)) ⟨⟨o, n, ho, hc, hd⟩, join_post I sep zs ps eps hz q fun v s' h => h⟩
abbrev TXg := St → Hp → (Str → Hp → Prop) → Prop
def PXg (X : Cx) (e : Expr) (t : TXg) : Prop :=
  ∀ (pins : List (Addr × Obj)) (s : Shared) (σ : St) (H : Hp) (Q : Str → Hp → Prop), Inv X pins σ H s → t σ H Q → wpAny (model X.prog X.w) X.A (eval e X.env) (fun v s1 => ∃ y tk H1, v = .str y tk ∧ y.length ≤ 3000 ∧ Inv X pins σ H1 s1 ∧ Q y H1) X.xe s
abbrev TXs := Str → St → Hp → (Str → Hp → Prop) → Prop
def PXs (X : Cx) (es : List Expr) (t : TXs) : Prop :=
  ∀ (acc : Str) (n : Nat) (pins : List (Addr × Obj)) (s : Shared) (σ : St) (H : Hp) (Q : Str → Hp → Prop), acc.length ≤ 3000 * n → n + es.length ≤ 100 → Inv X pins σ H s → t acc σ H Q →
    Joins (model X.prog X.w) X.A X.xe (evalEach es X.env) acc (fun out s1 => out.length ≤ sizeLine ∧ ∃ H1, Inv X pins σ H1 s1 ∧ Q out H1) s
variable {e v₁ v₂ : Expr} {es rest : List Expr} {t : TXg} {u : TXs} {te : TE} {pos : Pos}
def xgTxt3 (x : Str) : TXg := fun _ H Q => Q x H
theorem px_str3 {x : Str} {j pos} (hx : x.length ≤ 3000 := by decide) : PXg X (.Constant (.str x) j pos) (xgTxt3 x) := fun _ _ _ H _ I h => Calls.Constant_str ⟨x, _, H, rfl, hx, I.tok _, h⟩
def xgStr3 (te : TE) : TXg := fun σ H Q => te σ H fun v H1 => ∃ x : Str, v = .str x ∧ x.length ≤ 3000 ∧ Q x H1
theorem px_text3 (he : PE X e te) : PXg X (.FormattedValue e (-1) none pos) (xgStr3 te) := by
  intro pins s σ H Q I h
  refine wpAny_FormattedValue_plain (thn (he pins s σ H _ I h) fun v s1 ⟨x, H1, I1, r, y, ex, hy, q⟩ => ?_)
  subst ex
  obtain ⟨tk, rfl⟩ := (show ∃ t, v = Value.str y t from r)
  exact wpAny_formatField_str ⟨_, _, H1, rfl, hy, I1, q⟩ ⟨_, _, H1, rfl, hy, I1.tok _, q⟩ (by rw [sizeLine_eq]; omega)
def xgNil3 : TXs := fun acc _ H Q => Q acc H
def xgCons3 (t : TXg) (u : TXs) : TXs := fun acc σ H Q => t σ H fun x H1 => u (acc ++ x) σ H1 Q
theorem pxs_nil3 : PXs X [] xgNil3 := fun acc n pins s σ H Q ha hn I h => ⟨by rw [sizeLine_eq]; have : n ≤ 100 := hn; omega, H, I, h⟩
theorem pxs_cons3 (h1 : PXg X e t) (h2 : PXs X es u) : PXs X (e :: es) (xgCons3 t u) := by
  intro acc n pins s σ H Q ha hn I h
  show wpAny _ _ (eval e X.env) _ _ s
  refine thn (h1 pins s σ H _ I h) fun v s1 ⟨y, tk, H1, ev, hy, I1, q⟩ => ⟨y, tk, ev, ?_, ?_⟩
  · rw [strLen_append, sizeLine_eq]
    have : n + (es.length + 1) ≤ 100 := hn
    omega
  · refine h2 (acc ++ y) (n + 1) pins s1 σ H1 Q ?_ ?_ I1 q
    · rw [strLen_append]; omega
    · have : n + (es.length + 1) ≤ 100 := hn
      omega
def tFstG (u : TXs) : TE := fun σ H Q => u Str.empty σ H fun x H1 => Q (.str x) H1
theorem pe_fstG (h : PXs X (v₁ :: v₂ :: rest) u) (hn : rest.length ≤ 90 := by decide) : PE X (.JoinedStr (v₁ :: v₂ :: rest) pos) (tFstG u) := by
  intro pins s σ H Q I hq
  refine wpAny_JoinedStr ?_
  have := h Str.empty 0 pins s σ H (fun x H1 => Q (.str x) H1) (by decide) (by show 0 + (rest.length + 1 + 1) ≤ 100; omega) I hq
  refine pe_fst.joins_mono _ _ this fun out s1 ⟨hz, H1, I1, q⟩ => ⟨hz, .str out, H1, I1.tok _, ⟨_, rfl⟩, q⟩
end
end L2
namespace Sen
open PySem L2
def hdT (w : Str) (ls ps : List Str) : Str := Str.empty ++ Str.join " " (w :: ls) ++ Str.ofString "(" ++ Str.join ", " ps ++ Str.ofString ")"
def wrt : Sn → Str
  | .c0 y => Sn.word (.c0 y)
  | .mk x => x
  | .nt s => hdT (Sn.word (.nt s)) [] [wrt s]
  | .b2 o s t => hdT (Sn.word (.b2 o s t)) [] [wrt s, wrt t]
  | .q1 o x s => hdT (Sn.word (.q1 o x s)) [x] [wrt s]
theorem wrt_gen {s : Sn} (h : s.parts ≠ []) : wrt s = hdT s.word s.letters (s.parts.map wrt) := by
  cases s with
  | c0 y => exact absurd rfl h
  | mk x => exact absurd rfl h
  | nt s => rfl
  | b2 o s t => rfl
  | q1 o x s => rfl
theorem word_len (s : Sn) : s.word.length ≤ 6 := by
  cases s with
  | c0 y => cases y <;> decide +kernel
  | mk x => show (Str.ofString "mark").length ≤ 6; decide +kernel
  | nt s => show (Str.ofString "not").length ≤ 6; decide +kernel
  | b2 o s t =>
    show (w2 o).length ≤ 6
    revert o
    decide +kernel
  | q1 o x s =>
    cases o
    · show (Str.ofString "each").length ≤ 6; decide +kernel
    · show (Str.ofString "some").length ≤ 6; decide +kernel
theorem lett_len {x : Str} (h : x ∈ letts) : x.length = 1 := by
  have : ∀ x ∈ letts, x.length = 1 := by decide +kernel
  exact this x h
theorem word_mark {s : Sn} (h : ∀ x, s ≠ .mk x) : s.word ≠ "mark" := by
  cases s with
  | c0 y => cases y <;> decide +kernel
  | mk x => exact absurd rfl (h x)
  | nt s => show Str.ofString "not" ≠ "mark"; decide +kernel
  | b2 o s t =>
    clear h
    show w2 o ≠ "mark"
    revert o
    decide +kernel
  | q1 o x s =>
    cases o
    · show Str.ofString "each" ≠ "mark"; decide +kernel
    · show Str.ofString "some" ≠ "mark"; decide +kernel
theorem hd_len (s : Sn) (hl : ∀ x ∈ s.letters, x ∈ letts) : (Str.join " " (s.word :: s.letters)).length ≤ 8 ∧ jl " " (s.word :: s.letters) ≤ 20 := by
  have h6 := word_len s
  have h1 : (Str.ofString " ").length = 1 := by decide +kernel
  have ll := Sn.letters_le s
  cases e : s.letters with
  | nil =>
    refine ⟨by show s.word.length ≤ 8; omega, ?_⟩
    show (s.word.length + (Str.ofString " ").length) + 0 ≤ 20
    omega
  | cons x r =>
    rw [e, List.length_cons] at ll
    have er : r = [] := List.length_eq_zero_iff.mp (by omega)
    subst er
    have hx := lett_len (hl x (by rw [e]; exact List.mem_singleton.mpr rfl))
    refine ⟨?_, ?_⟩
    · show (s.word ++ Str.ofString " " ++ x).length ≤ 8
      rw [Str.length_append, Str.length_append]
      omega
    · show (s.word.length + (Str.ofString " ").length) + ((x.length + (Str.ofString " ").length) + 0) ≤ 20
      omega
theorem hdT_len (w : Str) (ls ps : List Str) : (hdT w ls ps).length = (Str.join " " (w :: ls)).length + (Str.join ", " ps).length + 2 := by
  have e1 : (Str.ofString "(").length = 1 := by decide +kernel
  have e2 : (Str.ofString ")").length = 1 := by decide +kernel
  have e3 : (Str.empty).length = 0 := rfl
  unfold hdT
  rw [Str.length_append, Str.length_append, Str.length_append, Str.length_append]
  omega
theorem wrt_len : ∀ {s : Sn}, s.inO letts → (wrt s).length ≤ 12 * s.count
  | .c0 y, _ => by have := word_len (.c0 y); show (Sn.word (.c0 y)).length ≤ 12 * 1; omega
  | .mk x, h => by have := lett_len (show x ∈ letts from h); show x.length ≤ 12 * 1; omega
  | .nt s, h => by
    have a := wrt_len (s := s) h
    have b := (hd_len (.nt s) (fun _ h => absurd h (by simp [Sn.letters]))).1
    show (hdT _ _ _).length ≤ 12 * (1 + s.count)
    rw [hdT_len]
    have c : (Str.join ", " [wrt s]).length = (wrt s).length := rfl
    have b' : (Str.join " " [Sn.word (.nt s)]).length ≤ 8 := b
    omega
  | .b2 o s t, h => by
    have a := wrt_len (s := s) h.1
    have a2 := wrt_len (s := t) h.2
    have b := word_len (.b2 o s t)
    show (hdT _ _ _).length ≤ 12 * (1 + (s.count + t.count))
    rw [hdT_len]
    have c : (Str.join ", " [wrt s, wrt t]).length = (wrt s).length + 2 + (wrt t).length := by
      show (wrt s ++ Str.ofString ", " ++ wrt t).length = _
      rw [Str.length_append, Str.length_append]
      have : (Str.ofString ", ").length = 2 := by decide +kernel
      omega
    have b' : (Str.join " " [Sn.word (.b2 o s t)]).length ≤ 6 := b
    omega
  | .q1 o x s, h => by
    have a := wrt_len (s := s) h.2
    have b := (hd_len (.q1 o x s) (fun y hy => by rw [List.mem_singleton.mp hy]; exact h.1)).1
    show (hdT _ _ _).length ≤ 12 * (1 + s.count)
    rw [hdT_len]
    have c : (Str.join ", " [wrt s]).length = (wrt s).length := rfl
    have b' : (Str.join " " [Sn.word (.q1 o x s), x]).length ≤ 8 := b
    omega
theorem jl_parts : ∀ {ss : List Sn}, (∀ s ∈ ss, s.inO letts) → jl ", " (ss.map wrt) ≤ 14 * cnt ss
  | [], _ => Nat.zero_le _
  | s :: ss, h => by
    have a := wrt_len (h s List.mem_cons_self)
    have b := jl_parts (ss := ss) fun t ht => h t (List.mem_cons_of_mem _ ht)
    have e : (Str.ofString ", ").length = 2 := by decide +kernel
    have c := Sn.count_parts s
    show ((wrt s).length + (Str.ofString ", ").length) + jl ", " (ss.map wrt) ≤ 14 * (s.count + cnt ss)
    omega
theorem part_count {s t : Sn} (h : t ∈ s.parts) : t.count ≤ s.count := by
  cases s with
  | c0 y => cases h
  | mk x => cases h
  | nt s => rw [List.mem_singleton.mp h]; show s.count ≤ 1 + s.count; omega
  | b2 o a b =>
    show t.count ≤ 1 + (a.count + b.count)
    rcases List.mem_cons.mp h with h | h
    · rw [h]; omega
    · rw [List.mem_singleton.mp h]; omega
  | q1 o x s => rw [List.mem_singleton.mp h]; show s.count ≤ 1 + s.count; omega
inductive spWritten (n : Nat) (vs : List V) (H : Hp) (Q : VK) (E9 : XK) : Prop
  | mk (p : Addr) (s : Sn) (_ : vs = [.ref p]) (_ : IsS H s p) (_ : s.inO letts) (_ : s.count ≤ 200) (_ : s.depth ≤ n) (_ : ∀ H', Same H H' → Q (.str (wrt s)) H') : spWritten n vs H Q E9
theorem mono_written (n : Nat) : SpMono (spWritten n) := fun vs H Q Q' E h ⟨p, s, e, h1, h2, h3, h4, q⟩ => ⟨p, s, e, h1, h2, h3, h4, fun H' g => h _ _ (q H' g)⟩
end Sen
namespace Sen
open PySem L2
def trS : Sn → Tr
  | .c0 y => .c (.s (Sn.word (.c0 y))) .e
  | .mk x => .c (.s "mark") (.c (.s x) .e)
  | .nt s => .c (.s "not") (.c (trS s) .e)
  | .b2 o s t => .c (.s (w2 o)) (.c (trS s) (.c (trS t) .e))
  | .q1 o x s => .c (.s (if o then "some" else "each")) (.c (.s x) (.c (trS s) .e))
theorem trS_tup (s : Sn) : (trS s).tup = true := by cases s <;> rfl
end Sen
namespace Sen
open PySem L2
theorem val_or {ta tb : TE} {σ : St} {H : Hp} {Q : VK} {b1 b2 : Bool} (h1 : ∀ Q : VK, Q (.bl b1) H → ta σ H Q) (h2 : ∀ Q : VK, Q (.bl b2) H → tb σ H Q) (q : Q (.bl (b1 || b2)) H) : tOrV ta tb σ H Q := by
  refine h1 _ ⟨b1, rfl, ?_⟩
  cases b1
  · exact h2 _ q
  · exact q
theorem val_and {ta tb : TE} {σ : St} {H : Hp} {Q : VK} {b1 b2 : Bool} (h1 : ∀ Q : VK, Q (.bl b1) H → ta σ H Q) (h2 : ∀ Q : VK, Q (.bl b2) H → tb σ H Q) (q : Q (.bl (b1 && b2)) H) : tAndV ta tb σ H Q := by
  refine h1 _ ⟨b1, rfl, ?_⟩
  cases b1
  · exact q
  · exact h2 _ q
end Sen
namespace Sen
open PySem L2
def cn : Tr → Nat × Nat
  | .s _ => (0, 0)
  | .e => (1, 0)
  | .c h t => (1 + (cn t).2, (cn h).1 + (cn t).2)
def dp : Tr → Nat × Nat
  | .s _ => (0, 0)
  | .e => (1, 0)
  | .c h t => (1 + (dp t).2, max (dp h).1 (dp t).2)
def ctT (t : Tr) : Nat := (cn t).1
def dpT (t : Tr) : Nat := (dp t).1
def sumC (ts : List Tr) : Nat := (ts.map ctT).foldr (· + ·) 0
def maxD (ts : List Tr) : Nat := (ts.map dpT).foldr max 0
theorem sumC_cons (t : Tr) (ts : List Tr) : sumC (t :: ts) = ctT t + sumC ts := rfl
theorem maxD_cons (t : Tr) (ts : List Tr) : maxD (t :: ts) = max (dpT t) (maxD ts) := rfl
theorem sumC_app (ts us : List Tr) : sumC (ts ++ us) = sumC ts + sumC us := by
  induction ts with
  | nil => simp [sumC]
  | cons t r ih => rw [List.cons_append, sumC_cons, sumC_cons, ih]; omega
theorem maxD_app (ts us : List Tr) : maxD (ts ++ us) = max (maxD ts) (maxD us) := by
  induction ts with
  | nil => simp [maxD]
  | cons t r ih => rw [List.cons_append, maxD_cons, maxD_cons, ih]; omega
theorem cn_items : ∀ t : Tr, (cn t).2 = sumC t.items
  | .s _ => rfl
  | .e => rfl
  | .c h t => by show (cn h).1 + (cn t).2 = ctT h + sumC t.items; rw [cn_items t]; rfl
theorem dp_items : ∀ t : Tr, (dp t).2 = maxD t.items
  | .s _ => rfl
  | .e => rfl
  | .c h t => by show max (dp h).1 (dp t).2 = max (dpT h) (maxD t.items); rw [dp_items t]; rfl
theorem ctT_cons {t : Tr} {u : Tr} {r : List Tr} (h : t.items = u :: r) : ctT t = 1 + sumC r := by
  cases t with
  | s x => cases h
  | e => cases h
  | c a b =>
    have h : a :: b.items = u :: r := h
    cases h
    show 1 + (cn b).2 = _
    rw [cn_items]
theorem dpT_cons {t : Tr} {u : Tr} {r : List Tr} (h : t.items = u :: r) : dpT t = 1 + maxD r := by
  cases t with
  | s x => cases h
  | e => cases h
  | c a b =>
    have h : a :: b.items = u :: r := h
    cases h
    show 1 + (dp b).2 = _
    rw [dp_items]
def lm : Tr → Nat
  | .s x => ((lk x).map Prod.fst).getD 0
  | _ => 0
def gs : Tr → Bool × List Bool
  | .s _ => (false, [])
  | .e => (false, [])
  | .c h t => (shp (.c h t) && ((gs t).2.drop (lm h)).all id, (gs h).1 :: (gs t).2)
def gdT (t : Tr) : Bool := (gs t).1
theorem gs_items : ∀ t : Tr, (gs t).2 = t.items.map gdT
  | .s _ => rfl
  | .e => rfl
  | .c h t => by show (gs h).1 :: (gs t).2 = gdT h :: t.items.map gdT; rw [gs_items t]; rfl
theorem good_eq (t : Tr) : gdT t = (shp t && (pts t).all gdT) := by
  cases t with
  | s x => rfl
  | e => rfl
  | c h t =>
    show (shp (.c h t) && ((gs t).2.drop (lm h)).all id) = _
    rw [gs_items, ← List.map_drop, List.all_map]
    cases hs : shp (.c h t) with
    | false => rfl
    | true =>
      obtain ⟨x, m, n, r, e1, e2, e3, e4, e5, e6⟩ := shp_cut hs
      have e1 : h :: t.items = .s x :: r := e1
      cases e1
      rw [e6]
      have : lm (.s x) = m := by show ((lk x).map Prod.fst).getD 0 = m; rw [e2]; rfl
      rw [this]
      rfl
theorem mk_zero {t : Tr} (h : isMk t = true) : ctT t = 0 ∧ dpT t = 0 := by
  cases t with
  | s x => exact ⟨rfl, rfl⟩
  | e => cases h
  | c a b => cases h
theorem mks_zero : ∀ {ts : List Tr}, ts.all isMk = true → sumC ts = 0 ∧ maxD ts = 0
  | [], _ => ⟨rfl, rfl⟩
  | t :: r, h => by
    rw [List.all_cons, Bool.and_eq_true] at h
    obtain ⟨a, b⟩ := mk_zero h.1
    obtain ⟨c, d⟩ := mks_zero h.2
    rw [sumC_cons, maxD_cons, a, b, c, d]
    exact ⟨rfl, rfl⟩
theorem shp_meas {t : Tr} (h : shp t = true) : ctT t = 1 + sumC (pts t) ∧ dpT t = 1 + maxD (pts t) := by
  obtain ⟨x, m, n, r, e1, e2, e3, e4, e5, e6⟩ := shp_cut h
  rw [ctT_cons e1, dpT_cons e1, e6]
  obtain ⟨a, b⟩ := mks_zero e4
  have s := sumC_app (r.take m) (r.drop m)
  have d := maxD_app (r.take m) (r.drop m)
  rw [List.take_append_drop] at s d
  rw [s, d, a, b]
  exact ⟨by omega, by omega⟩
theorem sums_meas : ∀ {ts : List Tr}, ts.all shp = true → sumC ts = ts.length + sumC (ts.flatMap pts) ∧ (ts ≠ [] → maxD ts = 1 + maxD (ts.flatMap pts))
  | [], _ => ⟨rfl, fun h => absurd rfl h⟩
  | t :: r, h => by
    rw [List.all_cons, Bool.and_eq_true] at h
    obtain ⟨a, b⟩ := shp_meas h.1
    obtain ⟨c, d⟩ := sums_meas h.2
    rw [List.flatMap_cons, sumC_app, maxD_app, sumC_cons, maxD_cons, a, b, c, List.length_cons]
    refine ⟨by omega, fun _ => ?_⟩
    cases r with
    | nil => simp [maxD]
    | cons u r => rw [d (fun z => nomatch z)]; omega
theorem all_good {ts : List Tr} (h : ts.all shp = true) : ts.all gdT = (ts.flatMap pts).all gdT := by
  induction ts with
  | nil => rfl
  | cons t r ih =>
    rw [List.all_cons, Bool.and_eq_true] at h
    rw [List.all_cons, List.flatMap_cons, List.all_append, ih h.2, good_eq t, h.1, Bool.true_and]
theorem good_shp {ts : List Tr} (h : ts.all gdT = true) : ts.all shp = true := by
  rw [List.all_eq_true] at h ⊢
  intro t ht
  have := h t ht
  rw [good_eq, Bool.and_eq_true] at this
  exact this.1
theorem lev_eq : ∀ (f c : Nat) (ts : List Tr), c ≤ 200 → lev f c ts = (ts.all gdT && decide (c + sumC ts ≤ 200) && decide (maxD ts ≤ f))
  | 0, c, ts, hc => by
    cases ts with
    | nil =>
      show true = _
      have : c + sumC [] ≤ 200 := hc
      have h2 : maxD [] ≤ 0 := Nat.le_refl _
      rw [decide_eq_true this, decide_eq_true h2]; rfl
    | cons t r =>
      show false = _
      cases hg : (t :: r).all gdT with
      | false => rfl
      | true =>
        have hs := good_shp hg
        have := (sums_meas hs).2 (fun z => nomatch z)
        rw [decide_eq_false (show ¬ maxD (t :: r) ≤ 0 by omega), Bool.and_false]
  | f + 1, c, ts, hc => by
    cases ts with
    | nil =>
      show true = _
      have : c + sumC [] ≤ 200 := hc
      have h2 : maxD [] ≤ f + 1 := Nat.zero_le _
      rw [decide_eq_true this, decide_eq_true h2]; rfl
    | cons t r =>
      show (decide (c + (t :: r).length ≤ 200) && (t :: r).all shp && lev f (c + (t :: r).length) ((t :: r).flatMap pts)) = _
      generalize hts : t :: r = ts
      have hne : ts ≠ [] := by rw [← hts]; exact fun z => nomatch z
      cases hs : ts.all shp with
      | false =>
        rw [Bool.and_false, Bool.false_and]
        cases hg : ts.all gdT with
        | false => rfl
        | true => rw [good_shp hg] at hs; cases hs
      | true =>
        obtain ⟨a, b⟩ := sums_meas hs
        have b := b hne
        rw [Bool.and_true]
        by_cases hl : c + ts.length ≤ 200
        · rw [decide_eq_true hl, Bool.true_and, lev_eq f _ _ hl, ← all_good hs]
          have e1 : (c + ts.length + sumC (ts.flatMap pts) ≤ 200) = (c + sumC ts ≤ 200) := by rw [a]; exact propext ⟨fun h => by omega, fun h => by omega⟩
          have e2 : (maxD (ts.flatMap pts) ≤ f) = (maxD ts ≤ f + 1) := by rw [b]; exact propext ⟨fun h => by omega, fun h => by omega⟩
          simp only [e1, e2]
        · rw [decide_eq_false hl, Bool.false_and, decide_eq_false (show ¬ c + sumC ts ≤ 200 by omega), Bool.and_false, Bool.false_and]
theorem lev_top (t : Tr) : lev 24 0 [t] = (gdT t && decide (ctT t ≤ 200) && decide (dpT t ≤ 24)) := by
  rw [lev_eq 24 0 [t] (by decide)]
  have e1 : 0 + sumC [t] = ctT t := by show 0 + (ctT t + 0) = _; omega
  have e2 : maxD [t] = dpT t := by show max (dpT t) 0 = _; omega
  rw [e1, e2, List.all_cons, List.all_nil, Bool.and_true]
theorem lk_word {x : Str} {m n : Nat} (h : lk x = some (m, n)) : ((x = "yes" ∨ x = "no") ∧ m = 0 ∧ n = 0) ∨ (x = "mark" ∧ m = 1 ∧ n = 0) ∨ (x = "not" ∧ m = 0 ∧ n = 1) ∨ ((∃ o : Fin 4, x = w2 o) ∧ m = 0 ∧ n = 2) ∨ ((∃ o : Bool, x = (if o then ("some" : Str) else "each")) ∧ m = 1 ∧ n = 1) := by
  obtain ⟨h1, _, _⟩ := lk_some h
  have z : ∀ e ∈ tb_SHAPES, ((e.1 = "yes" ∨ e.1 = "no") ∧ e.2.1 = 0 ∧ e.2.2 = 0) ∨ (e.1 = "mark" ∧ e.2.1 = 1 ∧ e.2.2 = 0) ∨ (e.1 = "not" ∧ e.2.1 = 0 ∧ e.2.2 = 1) ∨ ((e.1 = "and" ∨ e.1 = "or" ∨ e.1 = "either" ∨ e.1 = "if") ∧ e.2.1 = 0 ∧ e.2.2 = 2) ∨ ((e.1 = "some" ∨ e.1 = "each") ∧ e.2.1 = 1 ∧ e.2.2 = 1) := by decide +kernel
  have z := z _ h1
  dsimp only at z
  rcases z with ⟨a, b, c⟩ | ⟨a, b, c⟩ | ⟨a, b, c⟩ | ⟨a, b, c⟩ | ⟨a, b, c⟩
  · exact .inl ⟨a, by omega, by omega⟩
  · exact .inr (.inl ⟨a, by omega, by omega⟩)
  · exact .inr (.inr (.inl ⟨a, by omega, by omega⟩))
  · refine .inr (.inr (.inr (.inl ⟨?_, by omega, by omega⟩)))
    rcases a with a | a | a | a
    · exact ⟨0, a⟩
    · exact ⟨1, a⟩
    · exact ⟨2, a⟩
    · exact ⟨3, a⟩
  · refine .inr (.inr (.inr (.inr ⟨?_, by omega, by omega⟩)))
    rcases a with a | a
    · exact ⟨true, a⟩
    · exact ⟨false, a⟩
theorem sen_tree {H : Hp} : ∀ {s : Sn} {p : Addr}, IsS H s p → IsT H (trS s) (.ref p)
  | .c0 y, p, h => ⟨p, _, rfl, h, _, _, rfl, rfl, rfl⟩
  | .mk x, p, h => ⟨p, _, rfl, h, _, _, rfl, rfl, _, _, rfl, rfl, rfl⟩
  | .nt s, p, ⟨q, h, k⟩ => ⟨p, _, rfl, h, _, _, rfl, rfl, _, _, rfl, sen_tree k, rfl⟩
  | .b2 o s t, p, ⟨q, r, h, k, l⟩ => ⟨p, _, rfl, h, _, _, rfl, rfl, _, _, rfl, sen_tree k, _, _, rfl, sen_tree l, rfl⟩
  | .q1 o x s, p, ⟨q, h, k⟩ => ⟨p, _, rfl, h, _, _, rfl, rfl, _, _, rfl, rfl, _, _, rfl, sen_tree k, rfl⟩
theorem trS_meas : ∀ s : Sn, ctT (trS s) = s.count ∧ dpT (trS s) = s.depth
  | .c0 y => ⟨rfl, rfl⟩
  | .mk x => ⟨rfl, rfl⟩
  | .nt s => by
    obtain ⟨a, b⟩ := trS_meas s
    refine ⟨?_, ?_⟩
    · show 1 + (ctT (trS s) + 0) = 1 + s.count; omega
    · show 1 + max (dpT (trS s)) 0 = 1 + s.depth; omega
  | .b2 o s t => by
    obtain ⟨a, b⟩ := trS_meas s
    obtain ⟨c, d⟩ := trS_meas t
    refine ⟨?_, ?_⟩
    · show 1 + (ctT (trS s) + (ctT (trS t) + 0)) = 1 + (s.count + t.count); omega
    · show 1 + max (dpT (trS s)) (max (dpT (trS t)) 0) = 1 + max s.depth t.depth; omega
  | .q1 o x s => by
    obtain ⟨a, b⟩ := trS_meas s
    refine ⟨?_, ?_⟩
    · show 1 + (0 + (ctT (trS s) + 0)) = 1 + s.count; omega
    · show 1 + max 0 (max (dpT (trS s)) 0) = 1 + s.depth; omega
end Sen
namespace Sen
open PySem L2
theorem lk_mark : lk "mark" = some (1, 0) := by decide +kernel
theorem lk_not : lk "not" = some (0, 1) := by decide +kernel
theorem gd_lk {t : Tr} {x : Str} {r : List Tr} {m n : Nat} (e : t.items = .s x :: r) (l : lk x = some (m, n)) : gdT t = (decide (r.length = m + n) && (r.take m).all isMk && (r.drop m).all Tr.tup && (r.drop m).all gdT) := by
  rw [good_eq]
  have e1 : shp t = (decide (r.length = m + n) && (r.take m).all isMk && (r.drop m).all Tr.tup) := by
    unfold shp; rw [e]; show (match lk x with | some (m, n) => _ | none => false) = _; rw [l]
  have e2 : pts t = r.drop m := by
    unfold pts; rw [e]; show (match lk x with | some (m, _) => _ | none => []) = _; rw [l]
  rw [e1, e2]
end Sen
namespace PySem
open PySem.Builtin PySem.Builtin.Str
def toIndex (len : Nat) (i : Int) : Nat := min (max 0 (if i < 0 then i + len else i)).toNat len
theorem gives_rfind4 (x y : Str) (i j : Int) (t u v z : Tok) : Gives («str.rfind» ⟨[.str x t, .str y u, .int i v, .int j z], []⟩) (.int (match lastOccurrence x y (fromIndex x.length i) (toIndex x.length j) with | some k => (k : Int) | none => -1)) := by
  show Gives (match lastOccurrence x y (fromIndex x.length i) (toIndex x.length j) with | some k => retInt k | none => (do rule "str.rfind.not-found"; retInt (-1))) _
  cases lastOccurrence x y (fromIndex x.length i) (toIndex x.length j) with
  | none => exact .rule (.of_eq rfl)
  | some k => exact .of_eq rfl
end PySem
namespace L2
open PySem PySem.Spec PyProof.Rows
section
variable {X : Cx}
def rS1 (f : Str → Str → V) : V → List V → Hp → VK → Prop := fun x vs H Q => ∃ y z : Str, x = .str y ∧ vs = [.str z] ∧ Q (f y z) H
theorem mt_sFind : MtM X "str.find" (rS1 fun y z => .int (Txt.find y z)) := by
  intro pins s σ H x vs v us Q I rx rv h
  obtain ⟨y, z, rfl, rfl, q⟩ := h
  obtain ⟨t, rfl⟩ := rx
  obtain ⟨u, rfl, ru⟩ := rv.one
  obtain ⟨t', rfl⟩ := ru
  exact SC.find ⟨.int _, H, I.tok _, ⟨_, rfl⟩, q⟩
theorem mt_sCount : MtM X "str.count" (rS1 fun y z => .int (Txt.count y z)) := by
  intro pins s σ H x vs v us Q I rx rv h
  obtain ⟨y, z, rfl, rfl, q⟩ := h
  obtain ⟨t, rfl⟩ := rx
  obtain ⟨u, rfl, ru⟩ := rv.one
  obtain ⟨t', rfl⟩ := ru
  exact SC.count ⟨.int _, H, I.tok _, ⟨_, rfl⟩, q⟩
theorem mt_sEnds : MtM X "str.endswith" (rS1 fun y z => .bl (Txt.endswith y z)) := by
  intro pins s σ H x vs v us Q I rx rv h
  obtain ⟨y, z, rfl, rfl, q⟩ := h
  obtain ⟨t, rfl⟩ := rx
  obtain ⟨u, rfl, ru⟩ := rv.one
  obtain ⟨t', rfl⟩ := ru
  exact SC.endswith ⟨.bl _, H, I, rfl, q⟩
theorem mt_sAlpha : MtM X "str.isalpha" (fun x vs H Q => ∃ y : Str, x = .str y ∧ vs = [] ∧ Q (.bl (Txt.isalpha y)) H) := by
  intro pins s σ H x vs v us Q I rx rv h
  obtain ⟨y, rfl, rfl, q⟩ := h
  obtain ⟨t, rfl⟩ := rx
  cases rv
  exact SC.isalpha ⟨.bl _, H, I, rfl, q⟩
theorem mt_sStarts3 : MtM X "str.startswith" (fun x vs H Q => ∃ (y z : Str) (i : Int), x = .str y ∧ vs = [.str z, .int i] ∧ Q (.bl (Txt.startswith3 y z i)) H) := by
  intro pins s σ H x vs v us Q I rx rv h
  obtain ⟨y, z, i, rfl, rfl, q⟩ := h
  obtain ⟨t, rfl⟩ := rx
  cases rv with
  | cons r1 r2 =>
  cases r2 with
  | cons r3 r4 =>
  cases r4
  obtain ⟨t1, rfl⟩ := r1
  obtain ⟨t2, rfl⟩ := r3
  exact SC.startswith3 ⟨.bl _, H, I, rfl, q⟩
def rfnd (x y : Str) (i j : Int) : Int := match Builtin.Str.lastOccurrence x y (fromIndex x.length i) (toIndex x.length j) with | some k => (k : Int) | none => -1
theorem mt_sRfind4 : MtM X "str.rfind" (fun x vs H Q => ∃ (y z : Str) (i j : Int), x = .str y ∧ vs = [.str z, .int i, .int j] ∧ Q (.int (rfnd y z i j)) H) := by
  intro pins s σ H x vs v us Q I rx rv h
  obtain ⟨y, z, i, j, rfl, rfl, q⟩ := h
  obtain ⟨t, rfl⟩ := rx
  cases rv with
  | cons r1 r2 =>
  cases r2 with
  | cons r3 r4 =>
  cases r4 with
  | cons r5 r6 =>
  cases r6
  obtain ⟨t1, rfl⟩ := r1
  obtain ⟨t2, rfl⟩ := r3
  obtain ⟨t3, rfl⟩ := r5
  exact call_gives PySem.F.slot_str_rfind (typeIs_str _ _ _) PySem.F.entry_str_rfind (PySem.F.args_str_rfind_4 _ _ _ _) (gives_rfind4 y z i j t t1 t2 t3) ⟨.int _, H, I.tok _, ⟨_, rfl⟩, q⟩
def rSplit : V → List V → Hp → VK → Prop := fun x vs H Q => ∃ y z : Str, x = .str y ∧ vs = [.str z] ∧ (z.length == 0) = false ∧ y.length ≤ 10000 ∧ ∀ l, H l = none → Q (.ref l) (upd H l (.lst ((Txt.split y z).map V.str)))
theorem mt_sSplit : MtM X "str.split" rSplit := by
  intro pins s σ H x vs v us Q I rx rv h
  obtain ⟨y, z, rfl, rfl, hz, hy, q⟩ := h
  obtain ⟨t, rfl⟩ := rx
  obtain ⟨u, rfl, ru⟩ := rv.one
  obtain ⟨t', rfl⟩ := ru
  have hf : H s.heap.objs.size = none := I.hok.fresh (Nat.le_refl _)
  have lay : ∀ (us : List Value) (ps : List Str) (tk : Nat), Vals (ps.map V.str) us → ps.length ≤ sizeLine → Txt.split y z = ps → EP X pins σ Q (.ref s.heap.objs.size) { s with toks := tk, heap := s.heap.push { cls := .type "list", data := .seq us.toArray } } := fun us ps tk r hl e =>
    ⟨.ref s.heap.objs.size, upd H s.heap.objs.size (.lst (ps.map V.str)), I.laid (t' := tk) (fun b u e => Heap.get?_push_of_some _ e) (Nat.le_refl _) ⟨by rw [List.length_map]; exact hl, us, 0, r, Heap.get?_push_size _ rfl⟩, rfl, by rw [← e]; exact q _ hf⟩
  have own : Txt.split y z = [y] → EP X pins σ Q (.ref s.heap.objs.size) { s with heap := s.heap.push { cls := .type "list", data := .seq [Value.str y t].toArray } } := fun e => lay [.str y t] [y] s.toks (.cons ⟨t, rfl⟩ .nil) (by show 1 ≤ sizeLine; decide) e
  cases h1 : (decide (y.length < z.length) || decide (Builtin.Str.strKind y < Builtin.Str.strKind z)) with
  | true =>
    refine call_meets PySem.F.slot_str_split (typeIs_str _ _ _) PySem.F.entry_str_split (PySem.F.args_str_split_2 _ _) (meets_str_split_cannot_occur y z t t' h1) ?_
    exact own (if_pos h1)
  | false =>
  cases hf2 : (Builtin.Str.occurrences y z 0 y.length (y.length + 1)).isEmpty with
  | true =>
    refine call_meets PySem.F.slot_str_split (typeIs_str _ _ _) PySem.F.entry_str_split (PySem.F.args_str_split_2 _ _) (meets_str_split_not_found y z t t' h1 hz hf2) ?_
    exact own ((if_neg (ne_true_of_eq_false h1)).trans (if_pos hf2))
  | false =>
    have hn : (Builtin.Str.partsBetween y (Builtin.Str.occurrences y z 0 y.length (y.length + 1)) z.length).length ≤ sizeLine := by
      have := StrLaws.occ_length_le y z 0 y.length (y.length + 1)
      unfold Builtin.Str.partsBetween
      rw [List.length_map, List.length_zip, List.length_append]
      exact Nat.le_trans (Nat.min_le_right _ _) (Nat.le_trans (show _ + 1 ≤ 10002 by omega) (by decide))
    refine call_meets PySem.F.slot_str_split (typeIs_str _ _ _) PySem.F.entry_str_split (PySem.F.args_str_split_2 _ _) (meets_str_split_sep y z t t' h1 hz hf2 (Nat.le_trans hy (by decide)) hn) ?_
    show wants _ _ _ { s with toks := _, heap := s.heap.push { cls := .type "list", data := .seq (strsFrom s.toks (Builtin.Str.partsBetween y (Builtin.Str.occurrences y z 0 y.length (y.length + 1)) z.length)).toArray } }
    rw [strsFrom_eq]
    refine lay _ _ _ ?_ hn ((if_neg (ne_true_of_eq_false h1)).trans (if_neg (ne_true_of_eq_false hf2)))
    have vl : ∀ l : List (Str × Tok), Vals ((l.map (·.1)).map V.str) (strValues l) := fun l => by
      induction l with
      | nil => exact .nil
      | cons a b ih => exact .cons ⟨a.2, rfl⟩ ih
    have := vl (numbered s.toks (Builtin.Str.partsBetween y (Builtin.Str.occurrences y z 0 y.length (y.length + 1)) z.length))
    rw [numbered_texts] at this
    exact this
theorem app_nil (a b : Str) (h : (a.length == 0) = true) : a ++ b = b := by
  have h0 : a.length = 0 := by simpa using h
  have h : a.cps = #[] := Array.eq_empty_of_size_eq_zero h0
  cases a with
  | mk c =>
    cases b with
    | mk d =>
      have h : c = #[] := h
      subst h
      show Str.mk (#[] ++ d) = _
      rw [Array.empty_append]
theorem app_nil2 (a b : Str) (h : (b.length == 0) = true) : a ++ b = a := by
  have h0 : b.length = 0 := by simpa using h
  have h : b.cps = #[] := Array.eq_empty_of_size_eq_zero h0
  cases a with
  | mk c =>
    cases b with
    | mk d =>
      have h : d = #[] := h
      subst h
      show Str.mk (c ++ #[]) = _
      rw [Array.append_empty]
theorem op_addS : OpR X (binaryOp .Add) (fun x y H Q => ∃ a b : Str, x = .str a ∧ y = .str b ∧ (a ++ b).length ≤ sizeLine ∧ Q (.str (a ++ b)) H) := by
  intro pins s σ H x y v u Q I rx ry h
  obtain ⟨a, b, rfl, rfl, hz, q⟩ := h
  obtain ⟨t, rfl⟩ := rx
  obtain ⟨t', rfl⟩ := ry
  refine P.add_str ?_
  by_cases h1 : (a.length == 0) = true
  · rw [if_pos h1]
    rw [app_nil a b h1] at q
    exact ⟨.str b, H, I, ⟨_, rfl⟩, q⟩
  rw [if_neg h1]
  by_cases h2 : (b.length == 0) = true
  · rw [if_pos h2]
    rw [app_nil2 a b h2] at q
    exact ⟨.str a, H, I, ⟨_, rfl⟩, q⟩
  rw [if_neg h2]
  exact ⟨hz, .str (a ++ b), H, I.tok _, ⟨_, rfl⟩, q⟩
end
end L2
namespace L2
open PySem PySem.Spec PyProof PyProof.Rows PySem.Builtin PySem.Builtin.Str
section
variable {X : Cx}
def rAddT1 : R2 := fun x y H Q => ∃ p q xs ys, x = .ref p ∧ y = .ref q ∧ H p = some (.tup xs) ∧ H q = some (.tup ys) ∧ xs.length + ys.length ≤ sizeLine ∧ ∀ (l : Addr) (H' : Hp), Same H H' → H' l = some (.tup (xs ++ ys)) → Q (.ref l) H'
theorem op_addT1 : OpR X (binaryOp .Add) rAddT1 := by
  intro pins s σ H x y v u Q I rx ry h
  obtain ⟨p, q, xs, ys, rfl, rfl, hp, hq, hz, h⟩ := h
  by_cases ne : xs = []
  · subst ne
    cases rx
    cases ry
    obtain ⟨its1, rv1, pl1, hz1⟩ := I.tuple (SqT.of hp)
    obtain ⟨its2, rv2, pl2, hz2⟩ := I.tuple (SqT.of hq)
    obtain ⟨⟨cls, dd, data, sl⟩, ho, hc, n, hd⟩ := id pl1
    obtain ⟨⟨cls2, dd2, data2, sl2⟩, ho2, hc2, n2, hd2⟩ := id pl2
    simp only at hc hd hc2 hd2
    subst hc hd hc2 hd2
    have l1 := rv1.length
    have w0 : its1 = [] := List.length_eq_zero_iff.mp (by rw [← l1]; rfl)
    exact concat_meets ⟨_, ho, rfl⟩ ⟨_, ho2, rfl⟩ noFill_tuple_add seq_tuple_add PySem.F.slot_tuple_add PySem.F.entry_tuple_add (PySem.F.args_tuple_add_2 _ _)
      (tuple_addW0 p q its1.toArray its2.toArray n n2 dd dd2 sl sl2 (by simp [w0])) ⟨ho, ho2, .ref q, H, I, rfl, h q H (Same.refl _) hq⟩
  · refine op_addT rfl pins s σ H _ _ v u Q I rx ry ⟨p, q, xs, ys, rfl, rfl, SqT.of hp, SqT.of hq, ne, hz, fun e => ?_, fun _ l hl => h l _ (Same.new hl _) upd_same⟩
    refine h p H (Same.refl _) ?_
    rw [e, List.append_nil]
    exact hp
end
end L2
namespace Sen
open PySem L2
def toS (cs : List Nat) : Str := ⟨cs.toArray⟩
def cs (x : Str) : List Nat := x.cps.toList
def alps (l : List Nat) : Nat := (l.takeWhile Unicode.isAlpha).length
def rdL : Nat → List Nat → Option (List Str × Nat)
  | 0, _ => some ([], 0)
  | m + 1, l => if l.take 1 = [32] ∧ toS ((l.drop 1).take 1) ∈ letts then (rdL m (l.drop 2)).map fun r => (toS ((l.drop 1).take 1) :: r.1, 2 + r.2) else none
def rdQ (f : List Nat → Option (Sn × Nat)) : Bool → Nat → List Nat → Option (List Sn × Nat)
  | _, 0, _ => some ([], 0)
  | b, k + 1, l =>
    if b = false ∧ l.take 2 ≠ [44, 32] then none else
      match f (l.drop (if b then 0 else 2)) with
      | none => none
      | some (s, n) => (rdQ f false k (l.drop ((if b then 0 else 2) + n))).map fun r => (s :: r.1, (if b then 0 else 2) + n + r.2)
def rdP (f : List Nat → Option (Sn × Nat)) (k : Nat) (l : List Nat) : Option (List Sn × Nat) :=
  if k = 0 then some ([], 0) else
    if l.take 1 ≠ [40] then none else
      match rdQ f true k (l.drop 1) with
      | none => none
      | some (ss, n) => if (l.drop (1 + n)).take 1 = [41] then some (ss, n + 2) else none
def mkS (w : Str) (ls : List Str) (ss : List Sn) : Option Sn :=
  if w = "yes" then some (.c0 true) else if w = "no" then some (.c0 false) else
    match ls, ss with
    | [], [s] => some (.nt s)
    | [], [s, t] => if w = "and" then some (.b2 0 s t) else if w = "or" then some (.b2 1 s t) else if w = "either" then some (.b2 2 s t) else if w = "if" then some (.b2 3 s t) else none
    | [x], [s] => if w = "some" then some (.q1 true x s) else if w = "each" then some (.q1 false x s) else none
    | _, _ => none
def rdS : Nat → List Nat → Option (Sn × Nat)
  | 0, _ => none
  | d + 1, l =>
    if toS (l.take (alps l)) ∈ letts then some (.mk (toS (l.take (alps l))), alps l) else
    if toS (l.take (alps l)) = "mark" then none else
      match lk (toS (l.take (alps l))) with
      | none => none
      | some (m, k) =>
        match rdL m (l.drop (alps l)) with
        | none => none
        | some (ls, n1) =>
          match rdP (rdS d) k (l.drop (alps l + n1)) with
          | none => none
          | some (ss, n2) => (mkS (toS (l.take (alps l))) ls ss).map fun s => (s, alps l + n1 + n2)
theorem starts_iff (x z : Str) (i : Nat) (hi : i ≤ x.length) : Txt.startswith3 x z (i : Nat) = decide (((cs x).drop i).take z.length = cs z) := by
  have e0 : fromIndex x.length (i : Nat) = i := by
    unfold fromIndex
    rw [if_neg (by omega)]
    omega
  show (decide (fromIndex x.length (i : Nat) + z.length ≤ x.length) && Builtin.Str.subAt x z (fromIndex x.length (i : Nat))) = _
  rw [e0]
  have e1 : (x.cps.extract i (i + z.length)).toList = ((cs x).drop i).take z.length := by
    rw [Array.toList_extract]
    show List.take (i + z.length - i) (List.drop i _) = _
    rw [Nat.add_sub_cancel_left]
    rfl
  by_cases h : ((cs x).drop i).take z.length = cs z
  · rw [decide_eq_true h]
    have hl := congrArg List.length h
    rw [List.length_take, List.length_drop] at hl
    have hl : min z.length (x.length - i) = z.length := hl
    have hle : i + z.length ≤ x.length := by omega
    rw [decide_eq_true hle, Bool.true_and]
    show (x.cps.extract i (i + z.length) == z.cps) = true
    rw [beq_iff_eq]
    exact Array.toList_inj.mp (by rw [e1, h]; rfl)
  · rw [decide_eq_false h]
    cases hs : Builtin.Str.subAt x z i with
    | false => rw [Bool.and_false]
    | true =>
      exfalso
      apply h
      have hs : (x.cps.extract i (i + z.length) == z.cps) = true := hs
      rw [beq_iff_eq] at hs
      rw [← e1, hs]
      rfl
end Sen
namespace Sen
open PySem L2
inductive spBehindWord (vs : List V) (H : Hp) (Q : VK) (E9 : XK) : Prop
  | mk (x : Str) (i : Nat) (_ : vs = [.str x, .int (i : Nat)]) (_ : i ≤ x.length) (_ : x.length ≤ 5000) (_ : Q (.int ((i + alps ((cs x).drop i) : Nat))) H) : spBehindWord vs H Q E9
inductive spPiece (D : Addr) (vs : List V) (H : Hp) (Q : VK) (E : XK) : Prop
  | mk (x z : Str) (i : Nat) (_ : vs = [.str x, .int (i : Nat), .str z]) (_ : i ≤ x.length) (_ : x.length ≤ 5000) (_ : z.length ≤ 10) (_ : Rep z) (_ : ((cs x).drop i).take z.length = cs z → Q (.int ((i + z.length : Nat))) H) (_ : ((cs x).drop i).take z.length ≠ cs z → E (.ref D) none H) : spPiece D vs H Q E
inductive spReadL (D : Addr) (vs : List V) (H : Hp) (Q : VK) (E : XK) : Prop
  | mk (x : Str) (i m : Nat) (_ : vs = [.str x, .int (i : Nat), .int (m : Nat)]) (_ : i ≤ x.length) (_ : x.length ≤ 5000) (_ : m ≤ 1)
    (_ : ∀ (ls : List Str) (n : Nat) (t l : Addr) H', rdL m ((cs x).drop i) = some (ls, n) → Same H H' → H' t = some (.tup [.ref l, .int ((i + n : Nat))]) → H' l = some (.tup (ls.map V.str)) → Q (.ref t) H')
    (_ : rdL m ((cs x).drop i) = none → ∀ H', Same H H' → E (.ref D) none H') : spReadL D vs H Q E
inductive spReadP (D : Addr) (d : Nat) (vs : List V) (H : Hp) (Q : VK) (E : XK) : Prop
  | mk (x : Str) (i k : Nat) (_ : vs = [.str x, .int (i : Nat), .int (k : Nat), .int (d : Nat)]) (_ : i ≤ x.length) (_ : x.length ≤ 5000) (_ : k ≤ 2)
    (_ : ∀ (ss : List Sn) (n : Nat) (t l : Addr) (ps : List Addr) H', rdP (rdS d) k ((cs x).drop i) = some (ss, n) → Same H H' → H' t = some (.tup [.ref l, .int ((i + n : Nat))]) → H' l = some (.tup (ps.map V.ref)) → Paired (IsS H') ss ps → Q (.ref t) H')
    (_ : rdP (rdS d) k ((cs x).drop i) = none → ∀ H', Same H H' → E (.ref D) none H') : spReadP D d vs H Q E
inductive spReadS (D : Addr) (d : Nat) (vs : List V) (H : Hp) (Q : VK) (E : XK) : Prop
  | mk (x : Str) (i : Nat) (_ : vs = [.str x, .int (i : Nat), .int (d : Nat)]) (_ : i ≤ x.length) (_ : x.length ≤ 5000)
    (_ : ∀ (s : Sn) (n : Nat) (t p : Addr) H', rdS d ((cs x).drop i) = some (s, n) → Same H H' → H' t = some (.tup [.ref p, .int ((i + n : Nat))]) → IsS H' s p → Q (.ref t) H')
    (_ : rdS d ((cs x).drop i) = none → ∀ H', Same H H' → E (.ref D) none H') : spReadS D d vs H Q E
theorem alps_at {l : List Nat} {c : Nat} (h : l[0]? = some c) (a : Unicode.isAlpha c = true) : alps l = 1 + alps (l.drop 1) := by
  cases l with
  | nil => cases h
  | cons b r =>
    cases h
    show ((c :: r).takeWhile Unicode.isAlpha).length = 1 + (r.takeWhile Unicode.isAlpha).length
    rw [List.takeWhile_cons_of_pos a, List.length_cons, Nat.add_comm]
theorem alps_end {l : List Nat} {c : Nat} (h : l[0]? = some c) (a : Unicode.isAlpha c = false) : alps l = 0 := by
  cases l with
  | nil => cases h
  | cons b r =>
    cases h
    show ((c :: r).takeWhile Unicode.isAlpha).length = 0
    rw [List.takeWhile_cons_of_neg (by rw [a]; exact Bool.false_ne_true)]; rfl
theorem alps_le (l : List Nat) : alps l ≤ l.length := List.Sublist.length_le (List.takeWhile_sublist _)
theorem alpha_one (c : Nat) : Txt.isalpha ⟨#[c]⟩ = Unicode.isAlpha c := by
  show (decide ((1 : Nat) > 0) && (#[c] : Array Nat).all Unicode.isAlpha) = _
  simp
theorem log_small {i : Nat} (h : i ≤ 5000) : ((i : Nat) : Int).natAbs.log2 < 1920 := by
  rw [Int.natAbs_natCast]
  by_cases h0 : i = 0
  · subst h0; decide
  · exact (Nat.log2_lt h0).mpr (Nat.lt_of_le_of_lt h (by decide))
theorem slice_mid {x : Str} {i j : Nat} (h : i ≤ j) (hi : i ≤ x.length) : Txt.slice x (some (i : Int)) (some (j : Int)) = toS (((cs x).drop i).take (j - i)) := by
  have ls : x.cps.toList.length = x.length := Array.length_toList
  have := slice_at (x := x) (lo := some (i : Int)) (hi := some (j : Int)) (a := i) (b := min j x.length) (by omega) (Nat.min_le_right _ _) (by
    unfold Builtin.Str.strSliceIndices
    dsimp only
    simp only [show (1 : Int) > 0 by decide, if_true]
    rw [if_neg (by omega : ¬ (i : Int) < 0), if_neg (by omega : ¬ (j : Int) < 0)]
    congr 1 <;> omega)
  rw [this]
  show Str.mk _ = Str.mk _
  congr 2
  show ((cs x).drop i).take (min j x.length - i) = ((cs x).drop i).take (j - i)
  by_cases hj : j ≤ x.length
  · rw [Nat.min_eq_left hj]
  · rw [Nat.min_eq_right (by omega), List.take_of_length_le (by rw [List.length_drop]; show x.cps.toList.length - i ≤ _; omega), List.take_of_length_le (by rw [List.length_drop]; show x.cps.toList.length - i ≤ _; omega)]
theorem cs_drop_len {x : Str} {i : Nat} : ((cs x).drop i).length = x.length - i := by
  rw [List.length_drop]
  show x.cps.toList.length - i = _
  rw [Array.length_toList]
  rfl
theorem rdL_le : ∀ {m : Nat} {l : List Nat} {ls : List Str} {n : Nat}, rdL m l = some (ls, n) → n ≤ l.length
  | 0, l, ls, n, h => by cases h; exact Nat.zero_le _
  | m + 1, l, ls, n, h => by
    unfold rdL at h
    split at h
    · rename_i hc
      cases hr : rdL m (l.drop 2) with
      | none => rw [hr] at h; cases h
      | some r =>
        rw [hr] at h
        cases h
        have := rdL_le hr
        rw [List.length_drop] at this
        have h2 : 2 ≤ l.length := by
          match l, hc with
          | [], hc => exact absurd hc.1 (by simp)
          | [a], hc => exact absurd hc.2 (by show toS [] ∉ letts; decide +kernel)
          | a :: b :: r, _ => show 2 ≤ r.length + 1 + 1; omega
        show 2 + r.2 ≤ l.length
        omega
    · cases h
theorem rdQ_le {f : List Nat → Option (Sn × Nat)} (hf : ∀ l s n, f l = some (s, n) → n ≤ l.length) : ∀ {b : Bool} {k : Nat} {l : List Nat} {ss : List Sn} {n : Nat}, rdQ f b k l = some (ss, n) → n ≤ l.length
  | b, 0, l, ss, n, h => by
    unfold rdQ at h
    cases h; exact Nat.zero_le _
  | b, k + 1, l, ss, n, h => by
    unfold rdQ at h
    split at h
    · cases h
    · rename_i hc
      have ho : (if b then 0 else 2) ≤ l.length := by
        cases b with
        | true => exact Nat.zero_le _
        | false =>
          have h2 : l.take 2 = [44, 32] := Classical.byContradiction fun z => hc ⟨rfl, z⟩
          have := congrArg List.length h2
          rw [List.length_take] at this
          have : min 2 l.length = 2 := this
          show 2 ≤ l.length
          omega
      cases hr : f (l.drop (if b then 0 else 2)) with
      | none => rw [hr] at h; cases h
      | some r =>
        obtain ⟨s, m⟩ := r
        rw [hr] at h
        have h1 := hf _ _ _ hr
        rw [List.length_drop] at h1
        dsimp only at h
        cases hq : rdQ f false k (l.drop ((if b then 0 else 2) + m)) with
        | none => rw [hq] at h; cases h
        | some r =>
          rw [hq] at h
          cases h
          have := rdQ_le hf hq
          rw [List.length_drop] at this
          show (if b then 0 else 2) + m + r.2 ≤ l.length
          omega
theorem rdP_le {f : List Nat → Option (Sn × Nat)} (hf : ∀ l s n, f l = some (s, n) → n ≤ l.length) {k : Nat} {l : List Nat} {ss : List Sn} {n : Nat} (h : rdP f k l = some (ss, n)) : n ≤ l.length := by
  unfold rdP at h
  split at h
  · cases h; exact Nat.zero_le _
  split at h
  · cases h
  · rename_i hc
    split at h
    · cases h
    · rename_i ss' m hq
      split at h
      · rename_i hd
        cases h
        have h1 := rdQ_le hf hq
        rw [List.length_drop] at h1
        have h2 := congrArg List.length hd
        rw [List.length_take, List.length_drop] at h2
        have h2 : min 1 (l.length - (1 + m)) = 1 := h2
        omega
      · cases h
theorem rdS_le : ∀ {d : Nat} {l : List Nat} {s : Sn} {n : Nat}, rdS d l = some (s, n) → n ≤ l.length
  | 0, l, s, n, h => by unfold rdS at h; cases h
  | d + 1, l, s, n, h => by
    have ha := alps_le l
    unfold rdS at h
    split at h
    · cases h; exact ha
    split at h
    · cases h
    split at h
    · cases h
    · split at h
      · cases h
      · rename_i ls n1 hl
        have h1 := rdL_le hl
        rw [List.length_drop] at h1
        split at h
        · cases h
        · rename_i ss n2 hp
          have h2 := rdP_le (fun l s n h => rdS_le h) hp
          rw [List.length_drop] at h2
          rw [Option.map_eq_some_iff] at h
          obtain ⟨s', _, e⟩ := h
          cases e
          omega
theorem rdQ_yes {f : List Nat → Option (Sn × Nat)} {b : Bool} {k o : Nat} {l : List Nat} {s : Sn} {n : Nat} (eo : o = if b then 0 else 2) (hb : b = false → l.take 2 = [44, 32]) (h : f (l.drop o) = some (s, n)) : rdQ f b (k + 1) l = (rdQ f false k (l.drop (o + n))).map fun r => (s :: r.1, o + n + r.2) := by
  subst eo
  conv => lhs; unfold rdQ
  rw [if_neg (fun z => z.2 (hb z.1)), h]
theorem rdQ_no {f : List Nat → Option (Sn × Nat)} {b : Bool} {k o : Nat} {l : List Nat} (eo : o = if b then 0 else 2) (h : f (l.drop o) = none) : rdQ f b (k + 1) l = none := by
  subst eo
  unfold rdQ
  split
  · rfl
  · rw [h]
theorem rdS_eq {d : Nat} {x : Str} {i n : Nat} {wd : Str} (en : alps ((cs x).drop i) = n) (ew : toS (((cs x).drop i).take n) = wd) : rdS (d + 1) ((cs x).drop i) = (if wd ∈ letts then some (.mk wd, n) else if wd = "mark" then none else
      match lk wd with
      | none => none
      | some (m, k) =>
        match rdL m ((cs x).drop (i + n)) with
        | none => none
        | some (ls, n1) =>
          match rdP (rdS d) k ((cs x).drop (i + n + n1)) with
          | none => none
          | some (ss, n2) => (mkS wd ls ss).map fun s => (s, n + n1 + n2)) := by
  conv => lhs; unfold rdS
  rw [en, ew]
  have e : ∀ n1, ((cs x).drop i).drop (n + n1) = (cs x).drop (i + n + n1) := fun n1 => by rw [List.drop_drop, Nat.add_assoc]
  have e0 : ((cs x).drop i).drop n = (cs x).drop (i + n) := by rw [List.drop_drop]
  simp only [e, e0]
  all_goals rfl
theorem rdL_len : ∀ {m : Nat} {l : List Nat} {ls : List Str} {n : Nat}, rdL m l = some (ls, n) → ls.length = m
  | 0, l, ls, n, h => by unfold rdL at h; cases h; rfl
  | m + 1, l, ls, n, h => by
    unfold rdL at h
    split at h
    · cases hr : rdL m (l.drop 2) with
      | none => rw [hr] at h; cases h
      | some r =>
        rw [hr] at h
        cases h
        show r.1.length + 1 = m + 1
        rw [rdL_len (ls := r.1) (n := r.2) hr]
    · cases h
theorem rdQ_len {f : List Nat → Option (Sn × Nat)} : ∀ {b : Bool} {k : Nat} {l : List Nat} {ss : List Sn} {n : Nat}, rdQ f b k l = some (ss, n) → ss.length = k
  | b, 0, l, ss, n, h => by unfold rdQ at h; cases h; rfl
  | b, k + 1, l, ss, n, h => by
    unfold rdQ at h
    split at h
    · cases h
    · split at h
      · cases h
      · rename_i s m hr
        cases hq : rdQ f false k (l.drop ((if b then 0 else 2) + m)) with
        | none => rw [hq] at h; cases h
        | some r =>
          rw [hq] at h
          cases h
          show r.1.length + 1 = k + 1
          rw [rdQ_len (ss := r.1) (n := r.2) hq]
theorem rdP_len {f : List Nat → Option (Sn × Nat)} {k : Nat} {l : List Nat} {ss : List Sn} {n : Nat} (h : rdP f k l = some (ss, n)) : ss.length = k := by
  unfold rdP at h
  split at h
  · rename_i e; cases h; exact e.symm
  split at h
  · cases h
  split at h
  · cases h
  · rename_i ss' m hq
    split at h
    · cases h; exact rdQ_len hq
    · cases h
theorem mkS_ok {H : Hp} {wd : Str} {ls : List Str} {ss : List Sn} {ps : List Addr} {m k : Nat} {l : Addr} (hk : lk wd = some (m, k)) (nm : wd ≠ "mark") (h1 : ls.length = m) (h2 : ss.length = k) (pd : Paired (IsS H) ss ps) (e : H l = some (.tup (.str wd :: (ls.map V.str ++ ps.map V.ref)))) : ∃ s, mkS wd ls ss = some s ∧ IsS H s l := by
  rcases lk_word hk with ⟨a, rfl, rfl⟩ | ⟨a, _, _⟩ | ⟨rfl, rfl, rfl⟩ | ⟨⟨o, rfl⟩, rfl, rfl⟩ | ⟨⟨o, rfl⟩, rfl, rfl⟩
  · have e1 : ls = [] := List.eq_nil_of_length_eq_zero h1
    have e2 : ss = [] := List.eq_nil_of_length_eq_zero h2
    subst e1 e2
    cases pd
    rcases a with rfl | rfl
    · exact ⟨.c0 true, rfl, e⟩
    · exact ⟨.c0 false, by unfold mkS; rw [if_neg (by decide +kernel)]; exact if_pos rfl, e⟩
  · exact absurd a nm
  · have e1 : ls = [] := List.eq_nil_of_length_eq_zero h1
    subst e1
    match ss, h2, pd with
    | [s], _, .cons (b := p) hp .nil =>
      refine ⟨.nt s, ?_, p, e, hp⟩
      unfold mkS
      rw [if_neg (by decide +kernel), if_neg (by decide +kernel)]
  · have e1 : ls = [] := List.eq_nil_of_length_eq_zero h1
    subst e1
    match ss, h2, pd with
    | [s, t], _, .cons (b := p) hp (.cons (b := r) hr .nil) =>
      refine ⟨.b2 o s t, ?_, p, r, e, hp, hr⟩
      unfold mkS
      match o with
      | 0 => rw [if_neg (by decide +kernel), if_neg (by decide +kernel)]; exact if_pos rfl
      | 1 => rw [if_neg (by decide +kernel), if_neg (by decide +kernel)]; exact (if_neg (by decide +kernel)).trans (if_pos rfl)
      | 2 => rw [if_neg (by decide +kernel), if_neg (by decide +kernel)]; exact (if_neg (by decide +kernel)).trans ((if_neg (by decide +kernel)).trans (if_pos rfl))
      | 3 => rw [if_neg (by decide +kernel), if_neg (by decide +kernel)]; exact (if_neg (by decide +kernel)).trans ((if_neg (by decide +kernel)).trans ((if_neg (by decide +kernel)).trans (if_pos rfl)))
  · match ls, h1, ss, h2, pd with
    | [y], _, [s], _, .cons (b := p) hp .nil =>
      refine ⟨.q1 o y s, ?_, p, e, hp⟩
      unfold mkS
      cases o with
      | true => rw [if_neg (by decide +kernel), if_neg (by decide +kernel)]; exact if_pos rfl
      | false => rw [if_neg (by decide +kernel), if_neg (by decide +kernel)]; exact (if_neg (by decide +kernel)).trans (if_pos rfl)
def rdT (x : Str) : Option Sn :=
  match rdS 24 (cs x) with
  | none => none
  | some (s, n) => if n = x.length then (if lev 24 0 [trS s] = true then some s else none) else none
inductive spRead (D : Addr) (vs : List V) (H : Hp) (Q : VK) (E : XK) : Prop
  | mk (x : Str) (_ : vs = [.str x]) (_ : x.length ≤ 5000)
    (_ : ∀ (s : Sn) (p : Addr) H', rdT x = some s → Same H H' → IsS H' s p → Q (.ref p) H')
    (_ : rdT x = none → ∀ H', Same H H' → E (.ref D) none H') : spRead D vs H Q E
end Sen
namespace Sen
open PySem L2
def wl : Sn → List Nat
  | .c0 y => cs (Sn.word (.c0 y))
  | .mk x => cs x
  | .nt s => cs "not" ++ ([40] ++ (wl s ++ [41]))
  | .b2 o s t => cs (w2 o) ++ ([40] ++ (wl s ++ ([44, 32] ++ (wl t ++ [41]))))
  | .q1 o x s => cs (if o then "some" else "each") ++ ([32] ++ (cs x ++ ([40] ++ (wl s ++ [41]))))
def stop (l : List Nat) : Prop := ∀ c, l.head? = some c → Unicode.isAlpha c = false
theorem al_40 : Unicode.isAlpha 40 = false := by decide +kernel
theorem al_41 : Unicode.isAlpha 41 = false := by decide +kernel
theorem al_44 : Unicode.isAlpha 44 = false := by decide +kernel
theorem al_32 : Unicode.isAlpha 32 = false := by decide +kernel
theorem stop_cons {c : Nat} {l : List Nat} (h : Unicode.isAlpha c = false) : stop (c :: l) := fun d hd => by cases hd; exact h
theorem alps_app {u r : List Nat} (h : ∀ c ∈ u, Unicode.isAlpha c = true) (hr : stop r) : alps (u ++ r) = u.length := by
  induction u with
  | nil =>
    cases r with
    | nil => rfl
    | cons c r => exact alps_end rfl (hr c rfl)
  | cons c u ih =>
    have := alps_at (l := c :: u ++ r) (c := c) rfl (h c (by simp))
    rw [this]
    show 1 + alps (u ++ r) = u.length + 1
    rw [ih fun c hc => h c (List.mem_cons_of_mem _ hc)]
    omega
theorem toS_cs (x : Str) : toS (cs x) = x := rfl
theorem take_app {α : Type} (u r : List α) : (u ++ r).take u.length = u := by rw [List.take_append_of_le_length (Nat.le_refl _), List.take_length]
theorem drop_app {α : Type} (u r : List α) : (u ++ r).drop u.length = r := by rw [List.drop_append_of_le_length (Nat.le_refl _), List.drop_length, List.nil_append]
def wds : List Str := ["yes", "no", "not", "and", "or", "either", "if", "some", "each"]
theorem wds_al : ∀ x ∈ wds, (∀ c ∈ cs x, Unicode.isAlpha c = true) ∧ x ∉ letts ∧ x ≠ "mark" := by decide +kernel
theorem letts_al : ∀ x ∈ letts, (∀ c ∈ cs x, Unicode.isAlpha c = true) ∧ (cs x).length = 1 := by decide +kernel
theorem w2_wds : ∀ o : Fin 4, w2 o ∈ wds ∧ lk (w2 o) = some (0, 2) := by decide +kernel
theorem rdS_word {d : Nat} {wd : Str} {r : List Nat} (hw : wd ∈ wds) (hr : stop r) : rdS (d + 1) (cs wd ++ r) = (match lk wd with
      | none => none
      | some (m, k) =>
        match rdL m r with
        | none => none
        | some (ls, n1) =>
          match rdP (rdS d) k (r.drop n1) with
          | none => none
          | some (ss, n2) => (mkS wd ls ss).map fun s => (s, (cs wd).length + n1 + n2)) := by
  obtain ⟨h1, h2, h3⟩ := wds_al wd hw
  have ea : alps (cs wd ++ r) = (cs wd).length := alps_app h1 hr
  conv => lhs; unfold rdS
  rw [ea, take_app, toS_cs, if_neg h2, if_neg h3, drop_app]
  have e : ∀ n1, (cs wd ++ r).drop ((cs wd).length + n1) = r.drop n1 := fun n1 => by rw [← List.drop_drop, drop_app]
  simp only [e]
  all_goals rfl
theorem rdS_wl : ∀ (s : Sn) (d : Nat) (r : List Nat), s.inO letts → s.depth ≤ d → stop r → rdS d (wl s ++ r) = some (s, (wl s).length)
  | s, 0, r, _, hd, _ => by have := Sn.depth_pos s; omega
  | .c0 y, d + 1, r, _, _, hr => by
    have hw : Sn.word (.c0 y) ∈ wds := by cases y <;> decide +kernel
    have hl : lk (Sn.word (.c0 y)) = some (0, 0) := by cases y <;> decide +kernel
    show rdS (d + 1) (cs (Sn.word (.c0 y)) ++ r) = _
    rw [rdS_word hw hr, hl]
    show Option.map _ (mkS (Sn.word (.c0 y)) [] []) = _
    have hm : mkS (Sn.word (.c0 y)) [] [] = some (.c0 y) := by
      cases y
      · unfold mkS; rw [if_neg (by decide +kernel)]; exact if_pos rfl
      · exact if_pos rfl
    rw [hm]
    rfl
  | .mk x, d + 1, r, hin, _, hr => by
    have hx : x ∈ letts := hin
    obtain ⟨h1, h2⟩ := letts_al x hx
    show rdS (d + 1) (cs x ++ r) = _
    have ea : alps (cs x ++ r) = (cs x).length := alps_app h1 hr
    conv => lhs; unfold rdS
    rw [ea, take_app, toS_cs, if_pos hx]
    rfl
  | .nt s, d + 1, r, hin, hd, hr => by
    have hd : 1 + s.depth ≤ d + 1 := hd
    have ih := rdS_wl s d ([41] ++ r) hin (by omega) (stop_cons al_41)
    have e : wl (.nt s) ++ r = cs "not" ++ ([40] ++ (wl s ++ ([41] ++ r))) := by
      show (cs "not" ++ ([40] ++ (wl s ++ [41]))) ++ r = _
      simp only [List.append_assoc]
    rw [e, rdS_word (wd := "not") (by decide +kernel) (show stop ([40] ++ (wl s ++ ([41] ++ r))) from stop_cons al_40), lk_not]
    have hq : rdQ (rdS d) true 1 (wl s ++ ([41] ++ r)) = some ([s], (wl s).length) := by
      rw [rdQ_yes (b := true) (o := 0) rfl (fun z => Bool.noConfusion z) ih]
      unfold rdQ
      show some ([s], 0 + (wl s).length + 0) = _
      rw [Nat.zero_add]; rfl
    have hp : rdP (rdS d) 1 ([40] ++ (wl s ++ ([41] ++ r))) = some ([s], (wl s).length + 2) := by
      unfold rdP
      rw [if_neg (by decide), if_neg (fun z => z rfl)]
      show (match rdQ (rdS d) true 1 (wl s ++ ([41] ++ r)) with | none => none | some (ss, n) => if (([40] ++ (wl s ++ ([41] ++ r))).drop (1 + n)).take 1 = [41] then some (ss, n + 2) else none) = _
      rw [hq]
      dsimp only
      rw [if_pos]
      show (([40] ++ (wl s ++ ([41] ++ r))).drop (1 + (wl s).length)).take 1 = [41]
      rw [← List.drop_drop]
      show ((wl s ++ ([41] ++ r)).drop (wl s).length).take 1 = [41]
      rw [drop_app]; rfl
    show (match rdP (rdS d) 1 ([40] ++ (wl s ++ ([41] ++ r))) with | none => none | some (ss, n2) => (mkS "not" [] ss).map fun s => (s, (cs "not").length + 0 + n2)) = _
    rw [hp]
    have hm : mkS "not" [] [s] = some (.nt s) := by
      unfold mkS
      rw [if_neg (by decide +kernel), if_neg (by decide +kernel)]
    dsimp only
    rw [hm]
    show some (Sn.nt s, (cs "not").length + 0 + ((wl s).length + 2)) = some (.nt s, (cs "not" ++ ([40] ++ (wl s ++ [41]))).length)
    rw [List.length_append, List.length_append, List.length_append]
    congr 2
    show 3 + 0 + ((wl s).length + 2) = 3 + (1 + ((wl s).length + 1))
    omega
  | .b2 o s t, d + 1, r, hin, hd, hr => by
    have hd : 1 + max s.depth t.depth ≤ d + 1 := hd
    obtain ⟨hw, hl⟩ := w2_wds o
    have ih1 := rdS_wl s d ([44, 32] ++ (wl t ++ ([41] ++ r))) hin.1 (by omega) (stop_cons al_44)
    have ih2 := rdS_wl t d ([41] ++ r) hin.2 (by omega) (stop_cons al_41)
    have e : wl (.b2 o s t) ++ r = cs (w2 o) ++ ([40] ++ (wl s ++ ([44, 32] ++ (wl t ++ ([41] ++ r))))) := by
      show (cs (w2 o) ++ ([40] ++ (wl s ++ ([44, 32] ++ (wl t ++ [41]))))) ++ r = _
      simp only [List.append_assoc]
    rw [e, rdS_word hw (show stop ([40] ++ (wl s ++ ([44, 32] ++ (wl t ++ ([41] ++ r))))) from stop_cons al_40), hl]
    have hq2 : rdQ (rdS d) false 1 ([44, 32] ++ (wl t ++ ([41] ++ r))) = some ([t], 2 + (wl t).length) := by
      rw [rdQ_yes (b := false) (o := 2) rfl (fun _ => rfl) ih2]
      unfold rdQ
      rfl
    have hq : rdQ (rdS d) true 2 (wl s ++ ([44, 32] ++ (wl t ++ ([41] ++ r)))) = some ([s, t], (wl s).length + (2 + (wl t).length)) := by
      rw [rdQ_yes (b := true) (o := 0) rfl (fun z => Bool.noConfusion z) ih1, Nat.zero_add, drop_app, hq2]
      rfl
    have hp : rdP (rdS d) 2 ([40] ++ (wl s ++ ([44, 32] ++ (wl t ++ ([41] ++ r))))) = some ([s, t], (wl s).length + (2 + (wl t).length) + 2) := by
      unfold rdP
      rw [if_neg (by decide), if_neg (fun z => z rfl)]
      show (match rdQ (rdS d) true 2 (wl s ++ ([44, 32] ++ (wl t ++ ([41] ++ r)))) with | none => none | some (ss, n) => if (([40] ++ (wl s ++ ([44, 32] ++ (wl t ++ ([41] ++ r))))).drop (1 + n)).take 1 = [41] then some (ss, n + 2) else none) = _
      rw [hq]
      dsimp only
      rw [if_pos]
      rw [← List.drop_drop]
      show ((wl s ++ ([44, 32] ++ (wl t ++ ([41] ++ r)))).drop ((wl s).length + (2 + (wl t).length))).take 1 = [41]
      rw [← List.drop_drop, drop_app, ← List.drop_drop]
      show ((wl t ++ ([41] ++ r)).drop (wl t).length).take 1 = [41]
      rw [drop_app]; rfl
    show (match rdP (rdS d) 2 ([40] ++ (wl s ++ ([44, 32] ++ (wl t ++ ([41] ++ r))))) with | none => none | some (ss, n2) => (mkS (w2 o) [] ss).map fun s => (s, (cs (w2 o)).length + 0 + n2)) = _
    rw [hp]
    have hm : mkS (w2 o) [] [s, t] = some (.b2 o s t) := by
      unfold mkS
      match o with
      | 0 => rw [if_neg (by decide +kernel), if_neg (by decide +kernel)]; exact if_pos rfl
      | 1 => rw [if_neg (by decide +kernel), if_neg (by decide +kernel)]; exact (if_neg (by decide +kernel)).trans (if_pos rfl)
      | 2 => rw [if_neg (by decide +kernel), if_neg (by decide +kernel)]; exact (if_neg (by decide +kernel)).trans ((if_neg (by decide +kernel)).trans (if_pos rfl))
      | 3 => rw [if_neg (by decide +kernel), if_neg (by decide +kernel)]; exact (if_neg (by decide +kernel)).trans ((if_neg (by decide +kernel)).trans ((if_neg (by decide +kernel)).trans (if_pos rfl)))
    dsimp only
    rw [hm]
    show some (Sn.b2 o s t, (cs (w2 o)).length + 0 + ((wl s).length + (2 + (wl t).length) + 2)) = some (.b2 o s t, (cs (w2 o) ++ ([40] ++ (wl s ++ ([44, 32] ++ (wl t ++ [41]))))).length)
    simp only [List.length_append]
    congr 2
    show (cs (w2 o)).length + 0 + ((wl s).length + (2 + (wl t).length) + 2) = (cs (w2 o)).length + (1 + ((wl s).length + (2 + ((wl t).length + 1))))
    omega
  | .q1 o x s, d + 1, r, hin, hd, hr => by
    have hd : 1 + s.depth ≤ d + 1 := hd
    have hx : x ∈ letts := hin.1
    obtain ⟨h1, h2⟩ := letts_al x hx
    have ih := rdS_wl s d ([41] ++ r) hin.2 (by omega) (stop_cons al_41)
    have hw : (if o then ("some" : Str) else "each") ∈ wds := by cases o <;> decide +kernel
    have hl : lk (if o then ("some" : Str) else "each") = some (1, 1) := by cases o <;> decide +kernel
    generalize ewd : (if o then ("some" : Str) else "each") = wd at hw hl
    have e : wl (.q1 o x s) ++ r = cs wd ++ ([32] ++ (cs x ++ ([40] ++ (wl s ++ ([41] ++ r))))) := by
      show (cs (if o then "some" else "each") ++ ([32] ++ (cs x ++ ([40] ++ (wl s ++ [41]))))) ++ r = _
      rw [ewd]
      simp only [List.append_assoc]
    rw [e, rdS_word hw (show stop ([32] ++ (cs x ++ ([40] ++ (wl s ++ ([41] ++ r))))) from stop_cons al_32), hl]
    have hL : rdL 1 ([32] ++ (cs x ++ ([40] ++ (wl s ++ ([41] ++ r))))) = some ([x], 2) := by
      have ex : ((cs x ++ ([40] ++ (wl s ++ ([41] ++ r)))).take 1) = cs x := by
        have := take_app (cs x) ([40] ++ (wl s ++ ([41] ++ r)))
        rw [h2] at this
        exact this
      unfold rdL
      rw [if_pos ⟨rfl, by show toS ((cs x ++ ([40] ++ (wl s ++ ([41] ++ r)))).take 1) ∈ letts; rw [ex, toS_cs]; exact hx⟩]
      show some ([toS ((cs x ++ ([40] ++ (wl s ++ ([41] ++ r)))).take 1)], 2) = _
      rw [ex, toS_cs]
    have hq : rdQ (rdS d) true 1 (wl s ++ ([41] ++ r)) = some ([s], (wl s).length) := by
      rw [rdQ_yes (b := true) (o := 0) rfl (fun z => Bool.noConfusion z) ih]
      unfold rdQ
      show some ([s], 0 + (wl s).length + 0) = _
      rw [Nat.zero_add]; rfl
    have hp : rdP (rdS d) 1 ([40] ++ (wl s ++ ([41] ++ r))) = some ([s], (wl s).length + 2) := by
      unfold rdP
      rw [if_neg (by decide), if_neg (fun z => z rfl)]
      show (match rdQ (rdS d) true 1 (wl s ++ ([41] ++ r)) with | none => none | some (ss, n) => if (([40] ++ (wl s ++ ([41] ++ r))).drop (1 + n)).take 1 = [41] then some (ss, n + 2) else none) = _
      rw [hq]
      dsimp only
      rw [if_pos]
      rw [← List.drop_drop]
      show ((wl s ++ ([41] ++ r)).drop (wl s).length).take 1 = [41]
      rw [drop_app]; rfl
    have ed : ([32] ++ (cs x ++ ([40] ++ (wl s ++ ([41] ++ r))))).drop 2 = [40] ++ (wl s ++ ([41] ++ r)) := by
      show (cs x ++ ([40] ++ (wl s ++ ([41] ++ r)))).drop 1 = _
      have := drop_app (cs x) ([40] ++ (wl s ++ ([41] ++ r)))
      rw [h2] at this
      exact this
    dsimp only
    rw [hL]
    dsimp only
    rw [ed, hp]
    have hm : mkS wd [x] [s] = some (.q1 o x s) := by
      subst ewd
      unfold mkS
      cases o with
      | true => rw [if_neg (by decide +kernel), if_neg (by decide +kernel)]; exact if_pos rfl
      | false => rw [if_neg (by decide +kernel), if_neg (by decide +kernel)]; exact (if_neg (by decide +kernel)).trans (if_pos rfl)
    dsimp only
    rw [hm]
    show some (Sn.q1 o x s, (cs wd).length + 2 + ((wl s).length + 2)) = some (.q1 o x s, (cs (if o then "some" else "each") ++ ([32] ++ (cs x ++ ([40] ++ (wl s ++ [41]))))).length)
    rw [ewd]
    simp only [List.length_append]
    rw [h2]
    congr 2
    show (cs wd).length + 2 + ((wl s).length + 2) = (cs wd).length + (1 + (1 + (1 + ((wl s).length + 1))))
    omega
end Sen
namespace Sen
open PySem L2
theorem cs_toS (u : List Nat) : cs (toS u) = u := rfl
theorem rdL_txt {l : List Nat} {ls : List Str} {n : Nat} (h : rdL 1 l = some (ls, n)) : ∃ x ∈ letts, ls = [x] ∧ n = 2 ∧ l.take 2 = [32] ++ cs x := by
  unfold rdL at h
  split at h
  · rename_i hc
    have h : some ([toS ((l.drop 1).take 1)], 2 + 0) = some (ls, n) := h
    cases h
    refine ⟨_, hc.2, rfl, rfl, ?_⟩
    rw [show 2 = 1 + 1 from rfl, List.take_add, hc.1]
    rfl
  · cases h
theorem rdQ_one {f : List Nat → Option (Sn × Nat)} {l : List Nat} {ss : List Sn} {n : Nat} (h : rdQ f true 1 l = some (ss, n)) : ∃ s, f l = some (s, n) ∧ ss = [s] := by
  cases hf : f l with
  | none => rw [rdQ_no (b := true) (o := 0) rfl hf] at h; cases h
  | some r =>
    obtain ⟨s, m⟩ := r
    rw [rdQ_yes (b := true) (o := 0) rfl (fun z => Bool.noConfusion z) hf] at h
    unfold rdQ at h
    have h : some ([s], 0 + m + 0) = some (ss, n) := h
    cases h
    exact ⟨s, by rw [Nat.zero_add]; rfl, rfl⟩
theorem rdQ_sec {f : List Nat → Option (Sn × Nat)} {l : List Nat} {ss : List Sn} {n : Nat} (h : rdQ f false 1 l = some (ss, n)) : ∃ s m, l.take 2 = [44, 32] ∧ f (l.drop 2) = some (s, m) ∧ ss = [s] ∧ n = 2 + m := by
  by_cases h2 : l.take 2 = [44, 32]
  · cases hf : f (l.drop 2) with
    | none => rw [rdQ_no (b := false) (o := 2) rfl hf] at h; cases h
    | some r =>
      obtain ⟨s, m⟩ := r
      rw [rdQ_yes (b := false) (o := 2) rfl (fun _ => h2) hf] at h
      unfold rdQ at h
      have h : some ([s], 2 + m + 0) = some (ss, n) := h
      cases h
      exact ⟨s, m, h2, rfl, rfl, rfl⟩
  · unfold rdQ at h
    rw [if_pos ⟨rfl, h2⟩] at h
    cases h
theorem rdQ_two {f : List Nat → Option (Sn × Nat)} {l : List Nat} {ss : List Sn} {n : Nat} (h : rdQ f true 2 l = some (ss, n)) : ∃ s t m m', f l = some (s, m) ∧ (l.drop m).take 2 = [44, 32] ∧ f (l.drop (m + 2)) = some (t, m') ∧ ss = [s, t] ∧ n = m + (2 + m') := by
  cases hf : f l with
  | none => rw [rdQ_no (b := true) (o := 0) rfl hf] at h; cases h
  | some r =>
    obtain ⟨s, m⟩ := r
    rw [rdQ_yes (b := true) (o := 0) rfl (fun z => Bool.noConfusion z) hf, Nat.zero_add] at h
    cases hq : rdQ f false 1 (l.drop m) with
    | none => rw [hq] at h; cases h
    | some r =>
      obtain ⟨ts, m2⟩ := r
      rw [hq] at h
      obtain ⟨t, m', a, b, c, d⟩ := rdQ_sec hq
      have h : some (s :: ts, m + m2) = some (ss, n) := h
      cases h
      rw [List.drop_drop] at b
      exact ⟨s, t, m, m', rfl, a, b, by rw [c], by rw [d]⟩
theorem rdP_cut {f : List Nat → Option (Sn × Nat)} {k : Nat} {l : List Nat} {ss : List Sn} {n : Nat} (hk : k ≠ 0) (h : rdP f k l = some (ss, n)) : ∃ m, rdQ f true k (l.drop 1) = some (ss, m) ∧ n = m + 2 ∧ l.take (m + 2) = [40] ++ ((l.drop 1).take m ++ [41]) := by
  unfold rdP at h
  rw [if_neg hk] at h
  split at h
  · cases h
  · rename_i hc
    have hc : l.take 1 = [40] := Classical.byContradiction hc
    split at h
    · cases h
    · rename_i ss' m hq
      split at h
      · rename_i hd
        cases h
        refine ⟨m, hq, rfl, ?_⟩
        rw [show m + 2 = 1 + (m + 1) by omega, List.take_add, hc, List.take_add, List.drop_drop, hd]
      · cases h
theorem rdS_sound : ∀ (d : Nat) (l : List Nat) (s : Sn) (n : Nat), rdS d l = some (s, n) → l.take n = wl s ∧ s.inO letts ∧ s.depth ≤ d
  | 0, l, s, n, h => by unfold rdS at h; cases h
  | d + 1, l, s, n, h => by
    have IH := rdS_sound d
    unfold rdS at h
    generalize ewd : toS (l.take (alps l)) = wd at h
    have ew : l.take (alps l) = cs wd := by rw [← ewd]; exact (cs_toS _).symm
    split at h
    · rename_i hw
      cases h
      exact ⟨ew, hw, Nat.le_add_left _ _⟩
    split at h
    · cases h
    rename_i hw hm
    split at h
    · cases h
    · rename_i m k hk
      split at h
      · cases h
      · rename_i ls n1 hl
        split at h
        · cases h
        · rename_i ss n2 hp
          rw [Option.map_eq_some_iff] at h
          obtain ⟨s', hs, e⟩ := h
          cases e
          have et : l.take (alps l + n1 + n2) = cs wd ++ ((l.drop (alps l)).take n1 ++ (l.drop (alps l + n1)).take n2) := by
            rw [Nat.add_assoc, List.take_add, ew, List.take_add, List.drop_drop]
          rw [et]
          generalize hl1 : l.drop (alps l) = l1 at hl
          generalize hl2 : l.drop (alps l + n1) = l2 at hp
          rcases lk_word hk with ⟨a, rfl, rfl⟩ | ⟨a, _, _⟩ | ⟨rfl, rfl, rfl⟩ | ⟨⟨o, rfl⟩, rfl, rfl⟩ | ⟨⟨o, rfl⟩, rfl, rfl⟩
          · unfold rdL at hl
            cases hl
            have hp : some ([], 0) = some (ss, n2) := hp
            cases hp
            rw [List.take_zero, List.take_zero, List.append_nil, List.append_nil]
            rcases a with rfl | rfl
            · have hs : some (Sn.c0 true) = some s := hs
              cases hs
              exact ⟨rfl, trivial, Nat.le_add_left _ _⟩
            · have hs : some (Sn.c0 false) = some s := by
                rw [← hs]
                unfold mkS
                rw [if_neg (by decide +kernel)]
                exact (if_pos rfl).symm
              cases hs
              exact ⟨rfl, trivial, Nat.le_add_left _ _⟩
          · exact absurd a hm
          · unfold rdL at hl
            cases hl
            obtain ⟨m2, hq, rfl, hc⟩ := rdP_cut (by decide) hp
            obtain ⟨s1, hf, rfl⟩ := rdQ_one hq
            obtain ⟨i1, i2, i3⟩ := IH _ _ _ hf
            have hs : some (Sn.nt s1) = some s := by
              rw [← hs]
              unfold mkS
              rw [if_neg (by decide +kernel), if_neg (by decide +kernel)]
            cases hs
            rw [List.take_zero, List.nil_append, hc, i1]
            exact ⟨rfl, i2, by show 1 + s1.depth ≤ d + 1; omega⟩
          · unfold rdL at hl
            cases hl
            obtain ⟨m2, hq, rfl, hc⟩ := rdP_cut (by decide) hp
            obtain ⟨s1, t1, m3, m4, f1, f2, f3, rfl, rfl⟩ := rdQ_two hq
            obtain ⟨i1, i2, i3⟩ := IH _ _ _ f1
            obtain ⟨j1, j2, j3⟩ := IH _ _ _ f3
            have hs : some (Sn.b2 o s1 t1) = some s := by
              rw [← hs]
              unfold mkS
              match o with
              | 0 => rw [if_neg (by decide +kernel), if_neg (by decide +kernel)]; exact (if_pos rfl).symm
              | 1 => rw [if_neg (by decide +kernel), if_neg (by decide +kernel)]; exact ((if_neg (by decide +kernel)).trans (if_pos rfl)).symm
              | 2 => rw [if_neg (by decide +kernel), if_neg (by decide +kernel)]; exact ((if_neg (by decide +kernel)).trans ((if_neg (by decide +kernel)).trans (if_pos rfl))).symm
              | 3 => rw [if_neg (by decide +kernel), if_neg (by decide +kernel)]; exact ((if_neg (by decide +kernel)).trans ((if_neg (by decide +kernel)).trans ((if_neg (by decide +kernel)).trans (if_pos rfl)))).symm
            cases hs
            rw [List.take_zero, List.nil_append, hc]
            have e2 : (l2.drop 1).take (m3 + (2 + m4)) = wl s1 ++ ([44, 32] ++ wl t1) := by
              rw [List.take_add, i1, List.take_add, f2, List.drop_drop, j1]
            rw [e2]
            refine ⟨?_, ⟨i2, j2⟩, by show 1 + max s1.depth t1.depth ≤ d + 1; omega⟩
            show _ = cs (w2 o) ++ ([40] ++ (wl s1 ++ ([44, 32] ++ (wl t1 ++ [41]))))
            simp only [List.append_assoc]
          · obtain ⟨x, hx, rfl, rfl, hL⟩ := rdL_txt hl
            obtain ⟨m2, hq, rfl, hc⟩ := rdP_cut (by decide) hp
            obtain ⟨s1, hf, rfl⟩ := rdQ_one hq
            obtain ⟨i1, i2, i3⟩ := IH _ _ _ hf
            have hs : some (Sn.q1 o x s1) = some s := by
              rw [← hs]
              unfold mkS
              cases o with
              | true => rw [if_neg (by decide +kernel), if_neg (by decide +kernel)]; exact (if_pos rfl).symm
              | false => rw [if_neg (by decide +kernel), if_neg (by decide +kernel)]; exact ((if_neg (by decide +kernel)).trans (if_pos rfl)).symm
            cases hs
            rw [hL, hc, i1]
            refine ⟨?_, ⟨hx, i2⟩, by show 1 + s1.depth ≤ d + 1; omega⟩
            show _ = cs (if o then "some" else "each") ++ ([32] ++ (cs x ++ ([40] ++ (wl s1 ++ [41]))))
            simp only [List.append_assoc]
theorem gd_trS : ∀ (s : Sn), s.inO letts → gdT (trS s) = true
  | .c0 y, _ => by
    have hl : lk (Sn.word (.c0 y)) = some (0, 0) := by cases y <;> decide +kernel
    rw [gd_lk (t := trS (.c0 y)) (x := Sn.word (.c0 y)) (r := []) rfl hl]
    rfl
  | .mk x, h => by
    have h : x ∈ letts := h
    rw [gd_lk (t := trS (.mk x)) (x := "mark") (r := [.s x]) rfl lk_mark]
    show (true && (isMk (.s x) && true) && true && true) = true
    have : isMk (.s x) = true := decide_eq_true h
    rw [this]; rfl
  | .nt s, h => by
    rw [gd_lk (t := trS (.nt s)) (x := "not") (r := [trS s]) rfl lk_not]
    show (true && true && ((trS s).tup && true) && (gdT (trS s) && true)) = true
    rw [trS_tup, gd_trS s h]; rfl
  | .b2 o s t, h => by
    rw [gd_lk (t := trS (.b2 o s t)) (x := w2 o) (r := [trS s, trS t]) rfl (w2_wds o).2]
    show (true && true && ((trS s).tup && ((trS t).tup && true)) && (gdT (trS s) && (gdT (trS t) && true))) = true
    rw [trS_tup, trS_tup, gd_trS s h.1, gd_trS t h.2]; rfl
  | .q1 o x s, h => by
    have hx : isMk (.s x) = true := decide_eq_true h.1
    have hl : lk (if o then ("some" : Str) else "each") = some (1, 1) := by cases o <;> decide +kernel
    rw [gd_lk (t := trS (.q1 o x s)) (x := if o then "some" else "each") (r := [.s x, trS s]) rfl hl]
    show (true && (isMk (.s x) && true) && ((trS s).tup && true) && (gdT (trS s) && true)) = true
    rw [hx, trS_tup, gd_trS s h.2]; rfl
theorem rdT_iff {x : Str} {s : Sn} : rdT x = some s ↔ (cs x = wl s ∧ s.inO letts ∧ s.depth ≤ 24 ∧ s.count ≤ 200) := by
  have hlen : (cs x).length = x.length := Array.length_toList
  constructor
  · intro h
    unfold rdT at h
    split at h
    · cases h
    · rename_i s' n hr
      split at h
      · rename_i en
        split at h
        · rename_i hv
          cases h
          obtain ⟨a, b, c⟩ := rdS_sound 24 _ _ _ hr
          rw [lev_top, Bool.and_eq_true, Bool.and_eq_true] at hv
          have hc := of_decide_eq_true hv.1.2
          rw [(trS_meas s).1] at hc
          refine ⟨?_, b, c, hc⟩
          rw [← a, en, ← hlen, List.take_length]
        · cases h
      · cases h
  · rintro ⟨h1, h2, h3, h4⟩
    have hr := rdS_wl s 24 [] h2 h3 (fun c hc => nomatch hc)
    rw [List.append_nil, ← h1] at hr
    unfold rdT
    rw [hr]
    dsimp only
    rw [if_pos hlen, if_pos]
    rw [lev_top, gd_trS s h2, (trS_meas s).1, (trS_meas s).2, decide_eq_true h4, decide_eq_true h3]; rfl
theorem rdT_none {x : Str} : rdT x = none ↔ ¬ ∃ s : Sn, cs x = wl s ∧ s.inO letts ∧ s.depth ≤ 24 ∧ s.count ≤ 200 := by
  constructor
  · rintro h ⟨s, hs⟩
    rw [rdT_iff.mpr hs] at h
    cases h
  · intro h
    cases hr : rdT x with
    | none => rfl
    | some s => exact absurd ⟨s, rdT_iff.mp hr⟩ h
end Sen
namespace Sen
open PySem L2
theorem cs_app (a b : Str) : cs (a ++ b) = cs a ++ cs b := by
  show (a.cps ++ b.cps).toList = _
  rw [Array.toList_append]
  rfl
theorem cs_inj {a b : Str} (h : cs a = cs b) : a = b := by
  cases a with
  | mk c =>
    cases b with
    | mk d =>
      have h : c.toList = d.toList := h
      rw [Array.toList_inj.mp h]
theorem cs_hd (w : Str) (ls ps : List Str) : cs (hdT w ls ps) = cs (Str.join " " (w :: ls)) ++ ([40] ++ (cs (Str.join ", " ps) ++ [41])) := by
  unfold hdT
  rw [cs_app, cs_app, cs_app, cs_app]
  show (([] ++ cs (Str.join " " (w :: ls))) ++ [40]) ++ cs (Str.join ", " ps) ++ [41] = _
  simp only [List.nil_append, List.append_assoc]
theorem wl_wrt : ∀ s : Sn, cs (wrt s) = wl s
  | .c0 y => rfl
  | .mk x => rfl
  | .nt s => by
    show cs (hdT (Sn.word (.nt s)) [] [wrt s]) = _
    rw [cs_hd]
    show cs "not" ++ ([40] ++ (cs (wrt s) ++ [41])) = _
    rw [wl_wrt s]
    rfl
  | .b2 o s t => by
    show cs (hdT (Sn.word (.b2 o s t)) [] [wrt s, wrt t]) = _
    rw [cs_hd]
    show cs (w2 o) ++ ([40] ++ (cs (wrt s ++ ", " ++ wrt t) ++ [41])) = _
    rw [cs_app, cs_app, wl_wrt s, wl_wrt t]
    show cs (w2 o) ++ ([40] ++ (wl s ++ [44, 32] ++ wl t ++ [41])) = cs (w2 o) ++ ([40] ++ (wl s ++ ([44, 32] ++ (wl t ++ [41]))))
    simp only [List.append_assoc]
  | .q1 o x s => by
    show cs (hdT (Sn.word (.q1 o x s)) [x] [wrt s]) = _
    rw [cs_hd]
    have e : Sn.word (.q1 o x s) = (if o then ("some" : Str) else "each") := by cases o <;> rfl
    rw [e]
    show cs ((if o then ("some" : Str) else "each") ++ " " ++ x) ++ ([40] ++ (cs (wrt s) ++ [41])) = _
    rw [cs_app, cs_app, wl_wrt s]
    show cs (if o then ("some" : Str) else "each") ++ [32] ++ cs x ++ ([40] ++ (wl s ++ [41])) = cs (if o then ("some" : Str) else "each") ++ ([32] ++ (cs x ++ ([40] ++ (wl s ++ [41]))))
    simp only [List.append_assoc]
def opn (l : List Nat) : Nat := (l.filter fun c => c == 40 || c == 44).length
theorem opn_app (a b : List Nat) : opn (a ++ b) = opn a + opn b := by
  unfold opn
  rw [List.filter_append, List.length_append]
theorem opn_wds : ∀ x ∈ wds, opn (cs x) = 0 := by decide +kernel
theorem opn_letts : ∀ x ∈ letts, opn (cs x) = 0 := by decide +kernel
theorem count_opn : ∀ s : Sn, s.inO letts → s.count = 1 + opn (wl s)
  | .c0 y, _ => by
    have := opn_wds (Sn.word (.c0 y)) (by cases y <;> decide +kernel)
    show 1 = 1 + opn (cs (Sn.word (.c0 y)))
    omega
  | .mk x, h => by
    have := opn_letts x h
    show 1 = 1 + opn (cs x)
    omega
  | .nt s, h => by
    have h0 : opn (cs "not") = 0 := by decide +kernel
    have ih := count_opn s h
    show 1 + s.count = 1 + opn (cs "not" ++ ([40] ++ (wl s ++ [41])))
    rw [opn_app, opn_app, opn_app, h0]
    have h1 : opn [40] = 1 := by decide
    have h2 : opn [41] = 0 := by decide
    omega
  | .b2 o s t, h => by
    have h0 : opn (cs (w2 o)) = 0 := opn_wds _ (w2_wds o).1
    have ih := count_opn s h.1
    have ih2 := count_opn t h.2
    show 1 + (s.count + t.count) = 1 + opn (cs (w2 o) ++ ([40] ++ (wl s ++ ([44, 32] ++ (wl t ++ [41])))))
    rw [opn_app, opn_app, opn_app, opn_app, opn_app, h0]
    have h1 : opn [40] = 1 := by decide
    have h2 : opn [41] = 0 := by decide
    have h3 : opn [44, 32] = 1 := by decide
    omega
  | .q1 o x s, h => by
    have h0 : opn (cs (if o then ("some" : Str) else "each")) = 0 := opn_wds _ (by cases o <;> decide +kernel)
    have hx := opn_letts x h.1
    have ih := count_opn s h.2
    show 1 + s.count = 1 + opn (cs (if o then "some" else "each") ++ ([32] ++ (cs x ++ ([40] ++ (wl s ++ [41])))))
    rw [opn_app, opn_app, opn_app, opn_app, opn_app, hx]
    have h1 : opn [40] = 1 := by decide
    have h2 : opn [41] = 0 := by decide
    have h3 : opn [32] = 0 := by decide
    have h0 : opn (cs (if o = true then Str.ofString "some" else Str.ofString "each")) = 0 := h0
    omega
end Sen
namespace Sen
open PySem L2
inductive Xs
  | lf (u : List Nat)
  | n1 (nm : List Nat) (s : Xs)
  | n2 (nm : List Nat) (s t : Xs)
def wx : Xs → List Nat
  | .lf u => u
  | .n1 nm s => nm ++ ([40] ++ (wx s ++ [41]))
  | .n2 nm s t => nm ++ ([40] ++ (wx s ++ ([44, 32] ++ (wx t ++ [41]))))
def lonT : List Str := ["yes", "no", "#", "a", "b", "c", "d", "e", "f", "g", "h"]
def nm1T : List Str := "not" :: ((letts.map fun x => (Str.ofString "some ") ++ x) ++ (letts.map fun x => (Str.ofString "each ") ++ x))
def nm2T : List Str := ["and", "or", "either", "if"]
def okX : Xs → Prop
  | .lf u => ∃ x ∈ lonT, u = cs x
  | .n1 nm s => (∃ x ∈ nm1T, nm = cs x) ∧ okX s
  | .n2 nm s t => (∃ x ∈ nm2T, nm = cs x) ∧ okX s ∧ okX t
theorem lon_no : ∀ x ∈ lonT, 40 ∉ cs x ∧ 41 ∉ cs x ∧ 44 ∉ cs x ∧ 32 ∉ cs x ∧ cs x ≠ [] := by decide +kernel
theorem nm1_no : ∀ x ∈ nm1T, 40 ∉ cs x ∧ 41 ∉ cs x ∧ 44 ∉ cs x ∧ 35 ∉ cs x ∧ cs x ≠ [] ∧ (cs x).head? ≠ some 32 := by decide +kernel
theorem nm2_no : ∀ x ∈ nm2T, 40 ∉ cs x ∧ 41 ∉ cs x ∧ 44 ∉ cs x ∧ 35 ∉ cs x ∧ cs x ≠ [] ∧ (cs x).head? ≠ some 32 := by decide +kernel
theorem lon_hash : ∀ x ∈ lonT, 35 ∈ cs x → cs x = [35] := by decide +kernel
theorem split_at {α : Type} {a b u v : List α} {c : α} (h : a ++ b = u ++ c :: v) : (∃ v', a = u ++ c :: v' ∧ v = v' ++ b) ∨ ∃ u', u = a ++ u' ∧ b = u' ++ c :: v := by
  rcases List.append_eq_append_iff.mp h with ⟨w, h1, h2⟩ | ⟨w, h1, h2⟩
  · exact .inr ⟨w, h1, h2⟩
  · cases w with
    | nil =>
      right
      exact ⟨[], by rw [List.append_nil] at h1 ⊢; exact h1.symm, h2.symm⟩
    | cons d w =>
      have h2 : c :: v = d :: (w ++ b) := h2
      cases h2
      exact .inl ⟨w, h1, rfl⟩
theorem split_r {α : Type} {a b u v : List α} {c : α} (h : a ++ b = u ++ c :: v) (n : c ∉ a) : ∃ u', u = a ++ u' ∧ b = u' ++ c :: v := by
  rcases split_at h with ⟨v', e, _⟩ | h
  · exact absurd (by rw [e]; simp) n
  · exact h
theorem split_l {α : Type} {a b u v : List α} {c : α} (h : a ++ b = u ++ c :: v) (n : c ∉ b) : ∃ v', a = u ++ c :: v' ∧ v = v' ++ b := by
  rcases split_at h with h | ⟨u', _, e⟩
  · exact h
  · exact absurd (by rw [e]; simp) n
theorem put_hash : ∀ {e : Xs} {u v : List Nat} {z : Xs}, okX e → okX z → wx e = u ++ 35 :: v → ∃ e', okX e' ∧ wx e' = u ++ (wx z ++ v)
  | .lf w, u, v, z, ⟨x, hx, ew⟩, hz, h => by
    have h : w = u ++ 35 :: v := h
    have hm : 35 ∈ cs x := by rw [← ew, h]; simp
    have h1 := lon_hash x hx hm
    rw [← ew, h] at h1
    have lu : u = [] := by
      cases u with
      | nil => rfl
      | cons a r => have := congrArg List.length h1; simp at this
    subst lu
    have h1 : 35 :: v = [35] := h1
    cases h1
    exact ⟨z, hz, by rw [List.append_nil]; rfl⟩
  | .n1 nm s, u, v, z, ⟨⟨x, hx, en⟩, hs⟩, hz, h => by
    have h : nm ++ ([40] ++ (wx s ++ [41])) = u ++ 35 :: v := h
    obtain ⟨u1, q1, k1⟩ := split_r h (by rw [en]; exact (nm1_no x hx).2.2.2.1)
    obtain ⟨u2, q2, k2⟩ := split_r k1 (by decide)
    obtain ⟨v1, k3, q3⟩ := split_l k2 (by decide)
    subst q1 q2 q3
    obtain ⟨e', h1, h2⟩ := put_hash hs hz k3
    refine ⟨.n1 nm e', ⟨⟨x, hx, en⟩, h1⟩, ?_⟩
    show nm ++ ([40] ++ (wx e' ++ [41])) = _
    rw [h2]
    simp only [List.append_assoc]
  | .n2 nm s t, u, v, z, ⟨⟨x, hx, en⟩, hs, ht⟩, hz, h => by
    have h : nm ++ ([40] ++ (wx s ++ ([44, 32] ++ (wx t ++ [41])))) = u ++ 35 :: v := h
    obtain ⟨u1, q1, k1⟩ := split_r h (by rw [en]; exact (nm2_no x hx).2.2.2.1)
    obtain ⟨u2, q2, k2⟩ := split_r k1 (by decide)
    rcases split_at k2 with ⟨v1, k3, q3⟩ | ⟨u3, q3, k3⟩
    · subst q1 q2 q3
      obtain ⟨e', h1, h2⟩ := put_hash hs hz k3
      refine ⟨.n2 nm e' t, ⟨⟨x, hx, en⟩, h1, ht⟩, ?_⟩
      show nm ++ ([40] ++ (wx e' ++ ([44, 32] ++ (wx t ++ [41])))) = _
      rw [h2]
      simp only [List.append_assoc]
    · obtain ⟨u4, q4, k4⟩ := split_r k3 (by decide)
      obtain ⟨v1, k5, q5⟩ := split_l k4 (by decide)
      subst q1 q2 q3 q4 q5
      obtain ⟨e', h1, h2⟩ := put_hash ht hz k5
      refine ⟨.n2 nm s e', ⟨⟨x, hx, en⟩, hs, h1⟩, ?_⟩
      show nm ++ ([40] ++ (wx s ++ ([44, 32] ++ (wx e' ++ [41])))) = _
      rw [h2]
      simp only [List.append_assoc]
def xS : Sn → Xs
  | .c0 y => .lf (cs (Sn.word (.c0 y)))
  | .mk x => .lf (cs x)
  | .nt s => .n1 (cs "not") (xS s)
  | .b2 o s t => .n2 (cs (w2 o)) (xS s) (xS t)
  | .q1 o x s => .n1 (cs (if o then (Str.ofString "some " ++ x) else (Str.ofString "each " ++ x))) (xS s)
theorem xS_wx : ∀ s : Sn, wx (xS s) = wl s
  | .c0 y => rfl
  | .mk x => rfl
  | .nt s => by show cs "not" ++ ([40] ++ (wx (xS s) ++ [41])) = _; rw [xS_wx s]; rfl
  | .b2 o s t => by show cs (w2 o) ++ ([40] ++ (wx (xS s) ++ ([44, 32] ++ (wx (xS t) ++ [41])))) = _; rw [xS_wx s, xS_wx t]; rfl
  | .q1 o x s => by
    show cs (if o then (Str.ofString "some " ++ x) else (Str.ofString "each " ++ x)) ++ ([40] ++ (wx (xS s) ++ [41])) = cs (if o then ("some" : Str) else "each") ++ ([32] ++ (cs x ++ ([40] ++ (wl s ++ [41]))))
    rw [xS_wx s]
    have e : cs (if o then (Str.ofString "some " ++ x) else (Str.ofString "each " ++ x)) = cs (if o then ("some" : Str) else "each") ++ ([32] ++ cs x) := by
      cases o
      · show cs (Str.ofString "each " ++ x) = cs "each" ++ ([32] ++ cs x)
        rw [cs_app]; rfl
      · show cs (Str.ofString "some " ++ x) = cs "some" ++ ([32] ++ cs x)
        rw [cs_app]; rfl
    rw [e]
    simp only [List.append_assoc]
theorem xS_ok : ∀ s : Sn, s.inO letts → okX (xS s)
  | .c0 y, _ => ⟨Sn.word (.c0 y), by cases y <;> decide +kernel, rfl⟩
  | .mk x, h => ⟨x, by
      have : ∀ x ∈ letts, x ∈ lonT := by decide +kernel
      exact this x h, rfl⟩
  | .nt s, h => ⟨⟨"not", by decide +kernel, rfl⟩, xS_ok s h⟩
  | .b2 o s t, h => ⟨⟨w2 o, by
      have : ∀ o : _root_.Fin 4, w2 o ∈ nm2T := by decide +kernel
      exact this o, rfl⟩, xS_ok s h.1, xS_ok t h.2⟩
  | .q1 o x s, h => ⟨⟨if o then (Str.ofString "some " ++ x) else (Str.ofString "each " ++ x), by
      have h1 : ∀ x ∈ letts, (Str.ofString "some " ++ x) ∈ nm1T ∧ (Str.ofString "each " ++ x) ∈ nm1T := by decide +kernel
      cases o
      · exact (h1 x h.1).2
      · exact (h1 x h.1).1, rfl⟩, xS_ok s h.2⟩
theorem sn_of : ∀ {e : Xs}, okX e → 35 ∉ wx e → ∃ s : Sn, s.inO letts ∧ wl s = wx e
  | .lf u, ⟨x, hx, eu⟩, h => by
    have h : 35 ∉ cs x := by rw [← eu]; exact h
    have z : ∀ x ∈ lonT, 35 ∉ cs x → x = "yes" ∨ x = "no" ∨ x ∈ letts := by decide +kernel
    rcases z x hx h with rfl | rfl | hm
    · exact ⟨.c0 true, trivial, eu.symm⟩
    · exact ⟨.c0 false, trivial, eu.symm⟩
    · exact ⟨.mk x, hm, eu.symm⟩
  | .n1 nm s, ⟨⟨x, hx, en⟩, hs⟩, h => by
    have h : 35 ∉ nm ++ ([40] ++ (wx s ++ [41])) := h
    obtain ⟨s1, i1, i2⟩ := sn_of hs (fun z => h (by simp [z]))
    have z : ∀ x ∈ nm1T, x = "not" ∨ (∃ y ∈ letts, x = Str.ofString "some " ++ y) ∨ ∃ y ∈ letts, x = Str.ofString "each " ++ y := by decide +kernel
    rcases z x hx with rfl | ⟨y, hy, rfl⟩ | ⟨y, hy, rfl⟩
    · refine ⟨.nt s1, i1, ?_⟩
      show cs "not" ++ ([40] ++ (wl s1 ++ [41])) = nm ++ ([40] ++ (wx s ++ [41]))
      rw [i2, en]
    · refine ⟨.q1 true y s1, ⟨hy, i1⟩, ?_⟩
      rw [← xS_wx]
      show cs (Str.ofString "some " ++ y) ++ ([40] ++ (wx (xS s1) ++ [41])) = nm ++ ([40] ++ (wx s ++ [41]))
      rw [xS_wx, i2, en]
    · refine ⟨.q1 false y s1, ⟨hy, i1⟩, ?_⟩
      rw [← xS_wx]
      show cs (Str.ofString "each " ++ y) ++ ([40] ++ (wx (xS s1) ++ [41])) = nm ++ ([40] ++ (wx s ++ [41]))
      rw [xS_wx, i2, en]
  | .n2 nm s t, ⟨⟨x, hx, en⟩, hs, ht⟩, h => by
    have h : 35 ∉ nm ++ ([40] ++ (wx s ++ ([44, 32] ++ (wx t ++ [41])))) := h
    obtain ⟨s1, i1, i2⟩ := sn_of hs (fun z => h (by simp [z]))
    obtain ⟨t1, j1, j2⟩ := sn_of ht (fun z => h (by simp [z]))
    have z : ∀ x ∈ nm2T, ∃ o : _root_.Fin 4, x = w2 o := by decide +kernel
    obtain ⟨o, rfl⟩ := z x hx
    refine ⟨.b2 o s1 t1, ⟨i1, j1⟩, ?_⟩
    show cs (w2 o) ++ ([40] ++ (wl s1 ++ ([44, 32] ++ (wl t1 ++ [41])))) = nm ++ ([40] ++ (wx s ++ ([44, 32] ++ (wx t ++ [41]))))
    rw [i2, j2, en]
end Sen
namespace Sen
open PySem L2
def Xs.nodes : Xs → Nat
  | .lf _ => 0
  | .n1 _ s => s.nodes + 1
  | .n2 _ s t => s.nodes + t.nodes + 1
def bndT (u : List Nat) : Prop := u = [] ∨ (∃ u', u = u' ++ [40]) ∨ ∃ u', u = u' ++ [44, 32]
theorem bndT_app {a u : List Nat} (ha : bndT a) (hu : bndT u) : bndT (a ++ u) := by
  rcases hu with rfl | ⟨u', rfl⟩ | ⟨u', rfl⟩
  · rw [List.append_nil]; exact ha
  · exact .inr (.inl ⟨a ++ u', by rw [List.append_assoc]⟩)
  · exact .inr (.inr ⟨a ++ u', by rw [List.append_assoc]⟩)
def Inn (nm inr : List Nat) : Prop := ((∃ x ∈ nm1T, nm = cs x) ∧ ∃ y ∈ lonT, inr = cs y) ∨ ((∃ x ∈ nm2T, nm = cs x) ∧ ∃ y ∈ lonT, ∃ y' ∈ lonT, inr = cs y ++ ([44, 32] ++ cs y'))
structure Fst (e : Xs) (u nm inr v : List Nat) (e' : Xs) : Prop where
  txt : wx e = u ++ (nm ++ ([40] ++ (inr ++ ([41] ++ v))))
  new : wx e' = u ++ 35 :: v
  ok : okX e'
  no : 41 ∉ u
  bd : bndT u
  inn : Inn nm inr
  nod : e'.nodes + 1 = e.nodes
theorem hash_ok : okX (.lf [35]) := ⟨"#", by decide +kernel, rfl⟩
theorem fst_ex : ∀ (e : Xs), okX e → 0 < e.nodes → ∃ u nm inr v e', Fst e u nm inr v e'
  | .lf w, _, h => absurd h (Nat.lt_irrefl _)
  | .n1 nm s, ⟨⟨x, hx, en⟩, hs⟩, _ => by
    have nx := nm1_no x hx
    match s, hs with
    | .lf w, ⟨y, hy, ew⟩ =>
      exact ⟨[], nm, w, [], .lf [35], rfl, rfl, hash_ok, by simp, .inl rfl, .inl ⟨⟨x, hx, en⟩, y, hy, ew⟩, rfl⟩
    | .n1 a b, hs =>
      obtain ⟨u, m, i, v, e', F⟩ := fst_ex (.n1 a b) hs (Nat.succ_pos _)
      refine ⟨nm ++ ([40] ++ u), m, i, v ++ [41], .n1 nm e', ?_, ?_, ⟨⟨x, hx, en⟩, F.ok⟩, ?_, ?_, F.inn, ?_⟩
      · show nm ++ ([40] ++ (wx (.n1 a b) ++ [41])) = _
        rw [F.txt]; simp only [List.append_assoc]
      · show nm ++ ([40] ++ (wx e' ++ [41])) = _
        rw [F.new]; simp only [List.append_assoc, List.cons_append]
      · intro z
        rw [en] at z
        simp only [List.mem_append, List.mem_singleton] at z
        rcases z with z | z | z
        · exact nx.2.1 z
        · exact absurd z (by decide)
        · exact F.no z
      · rw [← List.append_assoc]
        exact bndT_app (.inr (.inl ⟨nm, rfl⟩)) F.bd
      · show e'.nodes + 1 + 1 = (Xs.n1 a b).nodes + 1
        rw [F.nod]
    | .n2 a b c, hs =>
      obtain ⟨u, m, i, v, e', F⟩ := fst_ex (.n2 a b c) hs (Nat.succ_pos _)
      refine ⟨nm ++ ([40] ++ u), m, i, v ++ [41], .n1 nm e', ?_, ?_, ⟨⟨x, hx, en⟩, F.ok⟩, ?_, ?_, F.inn, ?_⟩
      · show nm ++ ([40] ++ (wx (.n2 a b c) ++ [41])) = _
        rw [F.txt]; simp only [List.append_assoc]
      · show nm ++ ([40] ++ (wx e' ++ [41])) = _
        rw [F.new]; simp only [List.append_assoc, List.cons_append]
      · intro z
        rw [en] at z
        simp only [List.mem_append, List.mem_singleton] at z
        rcases z with z | z | z
        · exact nx.2.1 z
        · exact absurd z (by decide)
        · exact F.no z
      · rw [← List.append_assoc]
        exact bndT_app (.inr (.inl ⟨nm, rfl⟩)) F.bd
      · show e'.nodes + 1 + 1 = (Xs.n2 a b c).nodes + 1
        rw [F.nod]
  | .n2 nm s t, ⟨⟨x, hx, en⟩, hs, ht⟩, _ => by
    have nx := nm2_no x hx
    by_cases s0 : 0 < s.nodes
    · obtain ⟨u, m, i, v, e', F⟩ := fst_ex s hs s0
      refine ⟨nm ++ ([40] ++ u), m, i, v ++ ([44, 32] ++ (wx t ++ [41])), .n2 nm e' t, ?_, ?_, ⟨⟨x, hx, en⟩, F.ok, ht⟩, ?_, ?_, F.inn, ?_⟩
      · show nm ++ ([40] ++ (wx s ++ ([44, 32] ++ (wx t ++ [41])))) = _
        rw [F.txt]; simp only [List.append_assoc]
      · show nm ++ ([40] ++ (wx e' ++ ([44, 32] ++ (wx t ++ [41])))) = _
        rw [F.new]; simp only [List.append_assoc, List.cons_append]
      · intro z
        rw [en] at z
        simp only [List.mem_append, List.mem_singleton] at z
        rcases z with z | z | z
        · exact nx.2.1 z
        · exact absurd z (by decide)
        · exact F.no z
      · rw [← List.append_assoc]
        exact bndT_app (.inr (.inl ⟨nm, rfl⟩)) F.bd
      · show e'.nodes + t.nodes + 1 + 1 = s.nodes + t.nodes + 1
        have := F.nod
        omega
    · match s, hs, s0 with
      | .n1 a b, _, s0 => exact absurd (Nat.succ_pos _) s0
      | .n2 a b c, _, s0 => exact absurd (Nat.succ_pos _) s0
      | .lf w, ⟨y, hy, ew⟩, _ =>
        have ny := lon_no y hy
        by_cases t0 : 0 < t.nodes
        · obtain ⟨u, m, i, v, e', F⟩ := fst_ex t ht t0
          refine ⟨nm ++ ([40] ++ (w ++ ([44, 32] ++ u))), m, i, v ++ [41], .n2 nm (.lf w) e', ?_, ?_, ⟨⟨x, hx, en⟩, ⟨y, hy, ew⟩, F.ok⟩, ?_, ?_, F.inn, ?_⟩
          · show nm ++ ([40] ++ (w ++ ([44, 32] ++ (wx t ++ [41])))) = _
            rw [F.txt]; simp only [List.append_assoc]
          · show nm ++ ([40] ++ (w ++ ([44, 32] ++ (wx e' ++ [41])))) = _
            rw [F.new]; simp only [List.append_assoc, List.cons_append]
          · intro z
            rw [en, ew] at z
            simp only [List.mem_append, List.mem_singleton, List.mem_cons, List.not_mem_nil, or_false] at z
            rcases z with z | z | z | (z | z) | z
            · exact nx.2.1 z
            · exact absurd z (by decide)
            · exact ny.2.1 z
            · exact absurd z (by decide)
            · exact absurd z (by decide)
            · exact F.no z
          · have : nm ++ ([40] ++ (w ++ ([44, 32] ++ u))) = (nm ++ ([40] ++ (w ++ [44, 32]))) ++ u := by simp only [List.append_assoc]
            rw [this]
            exact bndT_app (.inr (.inr ⟨nm ++ ([40] ++ w), by simp only [List.append_assoc]⟩)) F.bd
          · show 0 + e'.nodes + 1 + 1 = 0 + t.nodes + 1
            have := F.nod
            omega
        · match t, ht, t0 with
          | .n1 a b, _, t0 => exact absurd (Nat.succ_pos _) t0
          | .n2 a b c, _, t0 => exact absurd (Nat.succ_pos _) t0
          | .lf w', ⟨y', hy', ew'⟩, _ =>
            refine ⟨[], nm, w ++ ([44, 32] ++ w'), [], .lf [35], ?_, rfl, hash_ok, by simp, .inl rfl, .inr ⟨⟨x, hx, en⟩, y, hy, y', hy', by rw [ew, ew']⟩, rfl⟩
            show nm ++ ([40] ++ (w ++ ([44, 32] ++ (w' ++ [41])))) = _
            simp only [List.append_assoc, List.nil_append, List.append_nil]
def Nam (nm : List Nat) : Prop := 40 ∉ nm ∧ 44 ∉ nm ∧ nm ≠ [] ∧ nm.head? ≠ some 32
theorem nam_not {u z nm f : List Nat} (hz : z ≠ []) (hf : bndT (f ++ z)) (h : Nam (z ++ nm)) : False := by
  obtain ⟨h1, h2, _, h4⟩ := h
  have n40 : 40 ∉ z := fun y => h1 (List.mem_append_left _ y)
  have n44 : 44 ∉ z := fun y => h2 (List.mem_append_left _ y)
  rcases List.eq_nil_or_concat z with e | ⟨z', c, e⟩
  · exact hz e
  rw [List.concat_eq_append] at e
  subst e
  rcases hf with hf | ⟨u', hf⟩ | ⟨u', hf⟩
  · have := congrArg List.length hf
    rw [List.length_append, List.length_append] at this
    have : f.length + (z'.length + 1) = 0 := this
    omega
  · rw [← List.append_assoc] at hf
    have := (List.append_inj' hf rfl).2
    cases this
    exact n40 (by simp)
  · have hf : (f ++ z') ++ [c] = (u' ++ [44]) ++ [32] := by rw [List.append_assoc, hf, List.append_assoc]; rfl
    have hc := (List.append_inj' hf rfl).2
    have hz' := (List.append_inj' hf rfl).1
    cases hc
    rcases List.eq_nil_or_concat z' with e | ⟨z2, c2, e⟩
    · subst e
      exact h4 rfl
    · rw [List.concat_eq_append] at e
      subst e
      rw [← List.append_assoc] at hz'
      have := (List.append_inj' hz' rfl).2
      cases this
      exact n44 (by simp)
theorem fit_one {u f nm nm' : List Nat} (hu : bndT u) (hf : bndT f) (hn : Nam nm) (hn' : Nam nm') (h : u ++ nm = f ++ nm') : u = f ∧ nm = nm' := by
  rcases List.append_eq_append_iff.mp h with ⟨z, h1, h2⟩ | ⟨z, h1, h2⟩
  · by_cases hz : z = []
    · subst hz
      rw [List.append_nil] at h1
      exact ⟨h1.symm, h2⟩
    · subst h1 h2
      exact (nam_not (u := u) hz hf hn).elim
  · by_cases hz : z = []
    · subst hz
      rw [List.append_nil] at h1
      exact ⟨h1, h2.symm⟩
    · subst h1 h2
      exact (nam_not (u := f) hz hu hn').elim
end Sen
namespace Sen
open PySem L2 PySem.StrLaws
theorem at_one {x : Str} {c i hi : Nat} : At x (toS [c]) hi i ↔ (i + 1 ≤ hi ∧ (cs x)[i]? = some c) := by
  have e : (x.cps.extract i (i + 1)).toList = ((cs x).drop i).take 1 := by
    rw [Array.toList_extract]
    show List.take (i + 1 - i) (List.drop i _) = _
    rw [Nat.add_sub_cancel_left]
    rfl
  have key : Builtin.Str.subAt x (toS [c]) i = true ↔ (cs x)[i]? = some c := by
    show (x.cps.extract i (i + 1) == (toS [c]).cps) = true ↔ _
    rw [beq_iff_eq]
    constructor
    · intro h
      have h2 := congrArg Array.toList h
      rw [e] at h2
      have h2 : ((cs x).drop i).take 1 = [c] := h2
      have h3 : (((cs x).drop i).take 1)[0]? = ([c] : List Nat)[0]? := by rw [h2]
      rw [List.getElem?_take, if_pos (by decide), List.getElem?_drop] at h3
      exact h3
    · intro h
      apply Array.toList_inj.mp
      rw [e]
      show ((cs x).drop i).take 1 = [c]
      have hi' : i < (cs x).length := (List.getElem?_eq_some_iff.mp h).1
      rw [List.drop_eq_getElem_cons hi', List.take_succ_cons, List.take_zero]
      have := (List.getElem?_eq_some_iff.mp h).2
      rw [this]
  show (i + 1 ≤ hi ∧ Builtin.Str.subAt x (toS [c]) i = true) ↔ _
  rw [key]
theorem last_gen (x y : Str) (hi : Nat) : (Builtin.Str.lastOccurrence x y 0 hi = none ∧ ∀ i, ¬ At x y hi i) ∨ ∃ i, Builtin.Str.lastOccurrence x y 0 hi = some i ∧ At x y hi i ∧ ∀ k, i < k → ¬ At x y hi k := by
  have e := last_eq x y 0 hi
  have pw : (List.range' 0 (hi + 1)).Pairwise (· < ·) := by simpa using List.pairwise_lt_range' (s := 0) (n := hi + 1)
  have run := last_run x y hi (List.range' 0 (hi + 1)) [] none (fun _ h => nomatch h) (fun _ h => nomatch h) pw
  have all : ∀ i, At x y hi i → i ∈ [] ++ List.range' 0 (hi + 1) := fun i h => by
    have := h.1
    simp [List.mem_range']
    omega
  rw [Nat.sub_zero] at e
  rw [← e] at run
  cases hr : Builtin.Str.lastOccurrence x y 0 hi with
  | none =>
    rw [hr] at run
    exact .inl ⟨rfl, fun i h => run i (all i h) h⟩
  | some a =>
    rw [hr] at run
    exact .inr ⟨a, rfl, run.1, fun k hk hA => run.2 k (all k hA) hk hA⟩
theorem cs_len (x : Str) : (cs x).length = x.length := Array.length_toList
theorem find_at {x : Str} {c : Nat} {a b : List Nat} (h : cs x = a ++ c :: b) (n : c ∉ a) : Txt.find x (toS [c]) = (a.length : Nat) := by
  have hc : (cs x)[a.length]? = some c := by rw [h, List.getElem?_append_right (Nat.le_refl _), Nat.sub_self]; rfl
  have hl : a.length < x.length := by rw [← cs_len, h, List.length_append, List.length_cons]; omega
  rcases occ_head x (toS [c]) 1 (Nat.le_refl _) with ⟨_, h2⟩ | ⟨i, r, h1, h2, h3⟩
  · exact absurd (at_one.mpr ⟨hl, hc⟩) (h2 _)
  · have e : i = a.length := by
      rcases Nat.lt_trichotomy i a.length with z | z | z
      · exfalso
        have := (at_one.mp h2).2
        rw [h, List.getElem?_append_left z] at this
        exact n (List.mem_of_getElem? this)
      · exact z
      · exact absurd (at_one.mpr ⟨hl, hc⟩) (h3 _ z)
    show (match Builtin.Str.occurrences x (toS [c]) 0 x.length 1 with | i :: _ => (i : Int) | [] => -1) = _
    rw [h1, e]
theorem find_no {x : Str} {c : Nat} (n : c ∉ cs x) : Txt.find x (toS [c]) = -1 := by
  rcases occ_head x (toS [c]) 1 (Nat.le_refl _) with ⟨h1, _⟩ | ⟨i, r, _, h2, _⟩
  · show (match Builtin.Str.occurrences x (toS [c]) 0 x.length 1 with | i :: _ => (i : Int) | [] => -1) = _
    rw [h1]
  · exact absurd (List.mem_of_getElem? (at_one.mp h2).2) n
theorem toI {x : Str} {e : Nat} (h : e ≤ x.length) : toIndex x.length (e : Nat) = e := by
  unfold toIndex
  rw [if_neg (by omega)]
  omega
theorem rfind_at {x : Str} {c : Nat} {a b t : List Nat} (h : cs x = a ++ c :: (b ++ t)) (n : c ∉ b) : rfnd x (toS [c]) 0 ((a.length + 1 + b.length : Nat)) = (a.length : Nat) := by
  have hl : a.length + 1 + b.length ≤ x.length := by rw [← cs_len, h, List.length_append, List.length_cons, List.length_append]; omega
  have hc : (cs x)[a.length]? = some c := by rw [h, List.getElem?_append_right (Nat.le_refl _), Nat.sub_self]; rfl
  unfold rfnd
  rw [toI hl]
  have e0 : fromIndex x.length 0 = 0 := rfl
  rw [e0]
  rcases last_gen x (toS [c]) (a.length + 1 + b.length) with ⟨_, h2⟩ | ⟨i, h1, h2, h3⟩
  · exact absurd (at_one.mpr ⟨by omega, hc⟩) (h2 a.length)
  · have e : i = a.length := by
      rcases Nat.lt_trichotomy i a.length with z | z | z
      · exact absurd (at_one.mpr ⟨by omega, hc⟩) (h3 _ z)
      · exact z
      · exfalso
        obtain ⟨q1, q2⟩ := at_one.mp h2
        rw [h, List.getElem?_append_right (by omega)] at q2
        obtain ⟨j, ej⟩ : ∃ j, i - a.length = j + 1 := ⟨i - a.length - 1, by omega⟩
        rw [ej, List.getElem?_cons_succ, List.getElem?_append_left (by omega)] at q2
        exact n (List.mem_of_getElem? q2)
    rw [h1, e]
theorem rfind_no {x : Str} {c e : Nat} (he : e ≤ x.length) (n : c ∉ (cs x).take e) : rfnd x (toS [c]) 0 (e : Nat) = -1 := by
  unfold rfnd
  rw [toI he]
  have e0 : fromIndex x.length 0 = 0 := rfl
  rw [e0]
  rcases last_gen x (toS [c]) e with ⟨h1, _⟩ | ⟨i, _, h2, _⟩
  · rw [h1]
  · obtain ⟨q1, q2⟩ := at_one.mp h2
    exact absurd (List.mem_of_getElem? (i := i) (by rw [List.getElem?_take, if_pos (by omega)]; exact q2)) n
end Sen
namespace Sen
open PySem L2 PySem.StrLaws
theorem sub_iff {x z : Str} {i : Nat} (hi : i + z.length ≤ x.length) : Builtin.Str.subAt x z i = true ↔ ((cs x).drop i).take z.length = cs z := by
  have e1 : (x.cps.extract i (i + z.length)).toList = ((cs x).drop i).take z.length := by
    rw [Array.toList_extract]
    show List.take (i + z.length - i) (List.drop i _) = _
    rw [Nat.add_sub_cancel_left]
    rfl
  show (x.cps.extract i (i + z.length) == z.cps) = true ↔ _
  rw [beq_iff_eq, ← e1]
  constructor
  · intro h; rw [h]; rfl
  · intro h; exact Array.toList_inj.mp h
theorem ends_iff {x z : Str} : Txt.endswith x z = true ↔ ∃ f, cs x = f ++ cs z := by
  show (decide (0 + z.length ≤ x.length) && Builtin.Str.subAt x z (x.length - z.length)) = true ↔ _
  rw [Bool.and_eq_true]
  constructor
  · rintro ⟨h1, h2⟩
    have h1 := of_decide_eq_true h1
    rw [sub_iff (by omega)] at h2
    refine ⟨(cs x).take (x.length - z.length), ?_⟩
    rw [← h2, List.take_of_length_le (l := (cs x).drop (x.length - z.length)) (by rw [List.length_drop, cs_len]; omega), List.take_append_drop]
  · rintro ⟨f, h⟩
    have hl := congrArg List.length h
    rw [List.length_append, cs_len, cs_len] at hl
    refine ⟨decide_eq_true (by omega), ?_⟩
    rw [sub_iff (by omega), h, show x.length - z.length = f.length by omega, drop_app]
    have : (cs z).take z.length = cs z := by rw [← cs_len]; exact List.take_length
    exact this
theorem glue_split (x y : Str) : Builtin.Str.glued y (Txt.split x y) = x := by
  unfold Txt.split
  split
  · cases x; rfl
  split
  · cases x; rfl
  · exact glued_between_self x y (x.length + 1)
theorem split_one {x p : Str} (h : Txt.split x ", " = [p]) : x = p := by
  have := glue_split x ", "
  rw [h] at this
  rw [← this]
  cases p; rfl
theorem split_two {x p q : Str} (h : Txt.split x ", " = [p, q]) : cs x = cs p ++ ([44, 32] ++ cs q) := by
  have := glue_split x ", "
  rw [h] at this
  rw [← this]
  show (p.cps ++ (Str.ofString ", ").cps ++ q.cps).toList = _
  rw [Array.toList_append, Array.toList_append, List.append_assoc]
  rfl
theorem split_lone : ∀ y ∈ lonT, Txt.split y ", " = [y] := by decide +kernel
theorem split_lones : ∀ y ∈ lonT, ∀ y' ∈ lonT, Txt.split (y ++ ", " ++ y') ", " = [y, y'] := by decide +kernel
def frontT (x z : Str) : Str := Txt.slice x none (some ((x.length : Nat) - (z.length : Nat) : Int))
def fitB (x z : Str) : Bool := Txt.endswith x z && (decide (frontT x z = "") || (Txt.endswith (frontT x z) "(" || Txt.endswith (frontT x z) ", "))
inductive spFits (vs : List V) (H : Hp) (Q : VK) (E9 : XK) : Prop
  | mk (x z : Str) (_ : vs = [.str x, .str z]) (_ : x.length ≤ 5000) (_ : z.length ≤ 5000) (_ : Q (.bl (fitB x z)) H) : spFits vs H Q E9
theorem fit_iff {x z : Str} : fitB x z = true ↔ ∃ f, bndT f ∧ cs x = f ++ cs z := by
  have fr : ∀ {f : List Nat}, cs x = f ++ cs z → cs (frontT x z) = f := fun {f} h => by
    have hl := congrArg List.length h
    rw [List.length_append, cs_len, cs_len] at hl
    unfold frontT
    rw [show ((x.length : Nat) - (z.length : Nat) : Int) = ((f.length : Nat) : Int) by omega, slice_fore (by omega)]
    show (cs x).take f.length = f
    rw [h, take_app]
  unfold fitB
  rw [Bool.and_eq_true, Bool.or_eq_true, Bool.or_eq_true, ends_iff, ends_iff, ends_iff]
  constructor
  · rintro ⟨⟨f, h⟩, h2⟩
    refine ⟨f, ?_, h⟩
    rw [← fr h]
    rcases h2 with h2 | ⟨u, h2⟩ | ⟨u, h2⟩
    · have := of_decide_eq_true h2
      rw [this]
      exact .inl rfl
    · exact .inr (.inl ⟨u, h2⟩)
    · exact .inr (.inr ⟨u, h2⟩)
  · rintro ⟨f, hb, h⟩
    refine ⟨⟨f, h⟩, ?_⟩
    rcases hb with e | ⟨u, e⟩ | ⟨u, e⟩
    · left
      exact decide_eq_true (cs_inj (by rw [fr h, e]; rfl))
    · right; left
      exact ⟨u, by rw [fr h, e]; rfl⟩
    · right; right
      exact ⟨u, by rw [fr h, e]; rfl⟩
inductive spLone (vs : List V) (H : Hp) (Q : VK) (E9 : XK) : Prop
  | mk (x : Str) (_ : vs = [.str x]) (_ : x.length ≤ 5000) (_ : ∀ H', Same H H' → Q (.bl (decide (x ∈ lonT))) H') : spLone vs H Q E9
theorem one_sign {x : Str} (h : x.length = 1) : ∃ c, x = toS [c] := by
  have hl : (cs x).length = 1 := by rw [cs_len]; exact h
  match hc : cs x, hl with
  | [c], _ => exact ⟨c, cs_inj hc⟩
theorem lone_find {x : Str} (h : x.length = 1) : decide (Txt.find "abcdefgh" x ≥ 0) = decide (x ∈ letts) := by
  obtain ⟨c, rfl⟩ := one_sign h
  by_cases hc : c ∈ cs "abcdefgh"
  · have z : ∀ c ∈ cs "abcdefgh", Txt.find "abcdefgh" (toS [c]) ≥ 0 ∧ toS [c] ∈ letts := by decide +kernel
    obtain ⟨z1, z2⟩ := z c hc
    rw [decide_eq_true z1, decide_eq_true z2]
  · rw [find_no hc]
    have : toS [c] ∉ letts := fun z => hc (by
      have y : ∀ x ∈ letts, ∀ c ∈ cs x, c ∈ cs "abcdefgh" := by decide +kernel
      exact y _ z c (by show c ∈ [c]; simp))
    rw [decide_eq_false this]; rfl
theorem lon_letts {x : Str} (h : x ∉ (["yes", "no", "#"] : List Str)) : decide (x ∈ lonT) = decide (x ∈ letts) := by
  have e : lonT = (["yes", "no", "#"] : List Str) ++ letts := rfl
  by_cases hx : x ∈ letts
  · rw [decide_eq_true hx, decide_eq_true (by rw [e]; exact List.mem_append_right _ hx)]
  · rw [decide_eq_false hx, decide_eq_false (by
      rw [e]
      intro z
      rcases List.mem_append.mp z with z | z
      · exact h z
      · exact hx z)]
theorem lon_in {x : Str} (h : x ∈ (["yes", "no", "#"] : List Str)) : x ∈ lonT := by
  have e : lonT = (["yes", "no", "#"] : List Str) ++ letts := rfl
  rw [e]; exact List.mem_append_left _ h
theorem lett_one : ∀ x ∈ letts, x.length = 1 := by decide +kernel
end Sen
namespace Sen
open PySem L2
structure Dec (x u nm inr v : List Nat) : Prop where
  txt : x = u ++ (nm ++ ([40] ++ (inr ++ ([41] ++ v))))
  no : 41 ∉ u
  bd : bndT u
  inn : Inn nm inr
theorem Inn.nam {nm inr : List Nat} (h : Inn nm inr) : Nam nm ∧ 41 ∉ nm ∧ 40 ∉ inr ∧ 41 ∉ inr := by
  rcases h with ⟨⟨x, hx, rfl⟩, y, hy, rfl⟩ | ⟨⟨x, hx, rfl⟩, y, hy, y', hy', rfl⟩
  · obtain ⟨a, b, c, d, e, f⟩ := nm1_no x hx
    obtain ⟨g, h, _⟩ := lon_no y hy
    exact ⟨⟨a, c, e, f⟩, b, g, h⟩
  · obtain ⟨a, b, c, d, e, f⟩ := nm2_no x hx
    obtain ⟨g, h, _⟩ := lon_no y hy
    obtain ⟨g', h', _⟩ := lon_no y' hy'
    refine ⟨⟨a, c, e, f⟩, b, ?_, ?_⟩
    · intro z
      simp only [List.mem_append, List.mem_cons, List.not_mem_nil, or_false] at z
      rcases z with z | (z | z) | z
      · exact g z
      · exact absurd z (by decide)
      · exact absurd z (by decide)
      · exact g' z
    · intro z
      simp only [List.mem_append, List.mem_cons, List.not_mem_nil, or_false] at z
      rcases z with z | (z | z) | z
      · exact h z
      · exact absurd z (by decide)
      · exact absurd z (by decide)
      · exact h' z
theorem first_uniq {a b a' b' : List Nat} {c : Nat} (h : a ++ c :: b = a' ++ c :: b') (n : c ∉ a) (n' : c ∉ a') : a = a' ∧ b = b' := by
  rcases split_at h with ⟨v', e, _⟩ | ⟨u', e, e2⟩
  · exact absurd (by rw [e]; simp) n
  · cases u' with
    | nil =>
      rw [List.append_nil] at e
      have e2 : c :: b = c :: b' := e2
      cases e2
      exact ⟨e.symm, rfl⟩
    | cons d r =>
      have e2 : c :: b = d :: (r ++ c :: b') := e2
      cases e2
      exact absurd (by rw [e]; simp) n'
theorem last_uniq {a b a' b' : List Nat} {c : Nat} (h : a ++ c :: b = a' ++ c :: b') (n : c ∉ b) (n' : c ∉ b') : a = a' ∧ b = b' := by
  have hr := congrArg List.reverse h
  rw [List.reverse_append, List.reverse_append, List.reverse_cons, List.reverse_cons, List.append_assoc, List.append_assoc] at hr
  obtain ⟨h1, h2⟩ := first_uniq (a := b.reverse) (b := a.reverse) (a' := b'.reverse) (b' := a'.reverse) hr (by simpa using n) (by simpa using n')
  exact ⟨List.reverse_inj.mp h2, List.reverse_inj.mp h1⟩
theorem Dec.cut {x u nm inr v : List Nat} (D : Dec x u nm inr v) : x = ((u ++ nm) ++ 40 :: inr) ++ 41 :: v ∧ 41 ∉ (u ++ nm) ++ 40 :: inr ∧ 40 ∉ inr := by
  obtain ⟨h1, h2, h3, h4⟩ := D.inn.nam
  refine ⟨?_, ?_, h3⟩
  · rw [D.txt]; simp only [List.append_assoc, List.cons_append, List.nil_append]
  · intro z
    simp only [List.mem_append, List.mem_cons] at z
    rcases z with (z | z) | z | z
    · exact D.no z
    · exact h2 z
    · exact absurd z (by decide)
    · exact h4 z
theorem Dec.uniq {x u nm inr v u' nm' inr' v' : List Nat} (D : Dec x u nm inr v) (D' : Dec x u' nm' inr' v') : u = u' ∧ nm = nm' ∧ inr = inr' ∧ v = v' := by
  obtain ⟨a1, a2, a3⟩ := D.cut
  obtain ⟨b1, b2, b3⟩ := D'.cut
  rw [a1] at b1
  obtain ⟨c1, c2⟩ := first_uniq b1 a2 b2
  obtain ⟨d1, d2⟩ := last_uniq c1 a3 b3
  obtain ⟨e1, e2⟩ := fit_one D.bd D'.bd D.inn.nam.1 D'.inn.nam.1 d1
  exact ⟨e1, e2, d2, c2⟩
def Stp (x y : Str) : Prop := ∃ u nm inr v, Dec (cs x) u nm inr v ∧ cs y = u ++ 35 :: v
inductive IsTx : Nat → Str → Bool → Prop
  | out (x : Str) : IsTx 0 x false
  | last (n : Nat) (x : Str) (h : 40 ∉ cs x ∧ 41 ∉ cs x) : IsTx (n + 1) x (decide (x ∈ lonT))
  | step (n : Nat) (x y : Str) (b : Bool) (h : ¬ (40 ∉ cs x ∧ 41 ∉ cs x)) (hs : Stp x y) (r : IsTx n y b) : IsTx (n + 1) x b
  | none (n : Nat) (x : Str) (h : ¬ (40 ∉ cs x ∧ 41 ∉ cs x)) (hs : ¬ ∃ y, Stp x y) : IsTx (n + 1) x false
theorem node_of {nm inr : List Nat} (h : Inn nm inr) : ∃ z, okX z ∧ wx z = nm ++ ([40] ++ (inr ++ [41])) := by
  rcases h with ⟨hx, y, hy, rfl⟩ | ⟨hx, y, hy, y', hy', rfl⟩
  · exact ⟨.n1 nm (.lf (cs y)), ⟨hx, y, hy, rfl⟩, rfl⟩
  · refine ⟨.n2 nm (.lf (cs y)) (.lf (cs y')), ⟨hx, ⟨y, hy, rfl⟩, y', hy', rfl⟩, ?_⟩
    show nm ++ ([40] ++ (cs y ++ ([44, 32] ++ (cs y' ++ [41])))) = _
    simp only [List.append_assoc]
theorem isTx_sound : ∀ {n : Nat} {x : Str}, IsTx n x true → ∃ e, okX e ∧ wx e = cs x := by
  have key : ∀ {n : Nat} {x : Str} {b : Bool}, IsTx n x b → b = true → ∃ e, okX e ∧ wx e = cs x := by
    intro n x b h
    induction h with
    | out x => intro e; cases e
    | last n x h =>
      intro e
      exact ⟨.lf (cs x), ⟨x, of_decide_eq_true e, rfl⟩, rfl⟩
    | step n x y b h hs r ih =>
      intro e
      obtain ⟨e', h1, h2⟩ := ih e
      obtain ⟨u, nm, inr, v, D, ey⟩ := hs
      obtain ⟨z, hz, ez⟩ := node_of D.inn
      rw [ey] at h2
      obtain ⟨e2, o2, w2'⟩ := put_hash h1 hz h2
      refine ⟨e2, o2, ?_⟩
      rw [w2', ez, D.txt]
      simp only [List.append_assoc]
    | none n x h hs => intro e; cases e
  exact fun {n x} h => key h rfl
theorem fst_dec {e : Xs} {u nm inr v : List Nat} {e' : Xs} (F : Fst e u nm inr v e') : Dec (wx e) u nm inr v := ⟨F.txt, F.no, F.bd, F.inn⟩
theorem isTx_full : ∀ {n : Nat} {x : Str} {b : Bool}, IsTx n x b → ∀ e, okX e → wx e = cs x → e.nodes < n → b = true := by
  intro n x b h
  induction h with
  | out x => intro e _ _ hn; omega
  | last n x h =>
    intro e he hw _
    cases e with
    | lf w =>
      obtain ⟨y, hy, ew⟩ := he
      have hw : w = cs x := hw
      rw [ew] at hw
      exact decide_eq_true (by rw [← cs_inj hw]; exact hy)
    | n1 nm s =>
      exfalso
      refine h.1 ?_
      rw [← hw]
      show 40 ∈ nm ++ ([40] ++ (wx s ++ [41]))
      simp
    | n2 nm s t =>
      exfalso
      refine h.1 ?_
      rw [← hw]
      show 40 ∈ nm ++ ([40] ++ (wx s ++ ([44, 32] ++ (wx t ++ [41]))))
      simp
  | step n x y b h hs r ih =>
    intro e he hw hn
    have e0 : 0 < e.nodes := by
      cases e with
      | lf w =>
        exfalso
        obtain ⟨y', hy', ew⟩ := he
        have hw : w = cs x := hw
        have := lon_no y' hy'
        rw [← ew, hw] at this
        exact h ⟨this.1, this.2.1⟩
      | n1 nm s => exact Nat.succ_pos _
      | n2 nm s t => exact Nat.succ_pos _
    obtain ⟨u, nm, inr, v, e', F⟩ := fst_ex e he e0
    obtain ⟨u', nm', inr', v', D', ey⟩ := hs
    have D := fst_dec F
    rw [hw] at D
    obtain ⟨q1, q2, q3, q4⟩ := D.uniq D'
    subst q1 q4
    exact ih e' F.ok (by rw [F.new, ey]) (by have := F.nod; omega)
  | none n x h hs =>
    intro e he hw hn
    exfalso
    have e0 : 0 < e.nodes := by
      cases e with
      | lf w =>
        exfalso
        obtain ⟨y', hy', ew⟩ := he
        have hw : w = cs x := hw
        have := lon_no y' hy'
        rw [← ew, hw] at this
        exact h ⟨this.1, this.2.1⟩
      | n1 nm s => exact Nat.succ_pos _
      | n2 nm s t => exact Nat.succ_pos _
    obtain ⟨u, nm, inr, v, e', F⟩ := fst_ex e he e0
    have D := fst_dec F
    rw [hw] at D
    exact hs ⟨toS (u ++ 35 :: v), u, nm, inr, v, D, rfl⟩
inductive spInner (vs : List V) (H : Hp) (Q : VK) (E9 : XK) : Prop
  | mk (x : Str) (_ : vs = [.str x]) (_ : x.length ≤ 5000) (_ : ∀ y H', Same H H' → Stp x y → Q (.str y) H') (_ : (¬ ∃ y, Stp x y) → ∀ H', Same H H' → Q .non H') : spInner vs H Q E9
end Sen
namespace Sen
open PySem L2 PySem.StrLaws
def nmsT : List Str := nm2T ++ (Str.ofString "not" :: letts.flatMap fun x => [(Str.ofString "some ") ++ x, (Str.ofString "each ") ++ x])
def mnyT (j : Nat) : Nat := if j < 4 then 2 else 1
theorem nms_kind : ∀ j, j < 21 → ∃ z, nmsT[j]? = some z ∧ (j < 4 → z ∈ nm2T) ∧ (¬ j < 4 → z ∈ nm1T) := by decide +kernel
theorem nms_len : nmsT.length = 21 := by decide +kernel
theorem nms_two : ∀ z ∈ nm2T, ∃ j, j < 4 ∧ nmsT[j]? = some z := by
  intro z hz
  have h : ∀ z ∈ nm2T, (List.range 4).any (fun j => decide (nmsT[j]? = some z)) = true := by decide +kernel
  obtain ⟨j, hj, e⟩ := List.any_eq_true.mp (h z hz)
  exact ⟨j, List.mem_range.mp hj, of_decide_eq_true e⟩
theorem nms_one : ∀ z ∈ nm1T, ∃ j, j < 21 ∧ ¬ j < 4 ∧ nmsT[j]? = some z := by
  intro z hz
  have h : ∀ z ∈ nm1T, (List.range 21).any (fun j => decide (¬ j < 4 ∧ nmsT[j]? = some z)) = true := by decide +kernel
  obtain ⟨j, hj, e⟩ := List.any_eq_true.mp (h z hz)
  obtain ⟨e1, e2⟩ := of_decide_eq_true e
  exact ⟨j, List.mem_range.mp hj, e1, e2⟩
theorem nms_idx : ∀ j, j < 21 → ∃ z, nmsT[j]? = some z ∧ z.length ≤ 6 ∧ (nmsT.map V.str).findIdx? (fun y => eqV y (.str z)) = some j := by decide +kernel
structure Cut (x : Str) (h r v : List Nat) : Prop where
  txt : cs x = (h ++ 40 :: r) ++ 41 :: v
  n41 : 41 ∉ h ++ 40 :: r
  n40 : 40 ∉ r
theorem cut_cases (x : Str) : 41 ∉ cs x ∨ (∃ a v, cs x = a ++ 41 :: v ∧ 41 ∉ a ∧ 40 ∉ a) ∨ ∃ h r v, Cut x h r v := by
  by_cases m : 41 ∈ cs x
  · obtain ⟨a, v, e, n⟩ := List.eq_append_cons_of_mem m
    by_cases m2 : 40 ∈ a
    · obtain ⟨r, h, e2, n2⟩ := List.eq_append_cons_of_mem (List.mem_reverse.mpr m2)
      have e3 : a = h.reverse ++ 40 :: r.reverse := by
        have := congrArg List.reverse e2
        rw [List.reverse_reverse, List.reverse_append, List.reverse_cons, List.append_assoc] at this
        exact this
      refine .inr (.inr ⟨h.reverse, r.reverse, v, ?_, ?_, ?_⟩)
      · rw [← e3]; exact e
      · rw [← e3]; exact n
      · rw [List.mem_reverse]; exact n2
    · exact .inr (.inl ⟨a, v, e, n, m2⟩)
  · exact .inl m
theorem Stp.has {x y : Str} (h : Stp x y) : ∃ h' r v, Cut x h' r v := by
  obtain ⟨u, nm, inr, v, D, _⟩ := h
  obtain ⟨a, b, c⟩ := D.cut
  exact ⟨_, _, _, a, b, c⟩
theorem Cut.uniq {x : Str} {h r v h' r' v' : List Nat} (C : Cut x h r v) (C' : Cut x h' r' v') : h = h' ∧ r = r' ∧ v = v' := by
  have b1 := C'.txt
  rw [C.txt] at b1
  obtain ⟨c1, c2⟩ := first_uniq b1 C.n41 C'.n41
  obtain ⟨d1, d2⟩ := last_uniq c1 C.n40 C'.n40
  exact ⟨d1, d2, c2⟩
theorem cut_no1 {x : Str} (h : 41 ∉ cs x) : ¬ ∃ y, Stp x y := by
  rintro ⟨y, hy⟩
  obtain ⟨h', r, v, C⟩ := hy.has
  exact h (by rw [C.txt]; simp)
theorem cut_no2 {x : Str} {a v : List Nat} (e : cs x = a ++ 41 :: v) (n : 41 ∉ a) (m : 40 ∉ a) : ¬ ∃ y, Stp x y := by
  rintro ⟨y, hy⟩
  obtain ⟨h', r, v', C⟩ := hy.has
  have b1 := C.txt
  rw [e] at b1
  obtain ⟨c1, _⟩ := first_uniq b1 n C.n41
  exact m (by rw [c1]; simp)
theorem front_eq {x z : Str} {f : List Nat} (h : cs x = f ++ cs z) : cs (frontT x z) = f := by
  have hl := congrArg List.length h
  rw [List.length_append, cs_len, cs_len] at hl
  unfold frontT
  rw [show ((x.length : Nat) - (z.length : Nat) : Int) = ((f.length : Nat) : Int) by omega, slice_fore (by omega)]
  show (cs x).take f.length = f
  rw [h, take_app]
def Fit (h r : List Nat) (j : Nat) (z : Str) : Prop := fitB (toS h) z = true ∧ (Txt.split (toS r) ", ").length = mnyT j ∧ ∀ p ∈ Txt.split (toS r) ", ", p ∈ lonT
theorem inn_yes {x z : Str} {h r v : List Nat} {j : Nat} (C : Cut x h r v) (hz : nmsT[j]? = some z) (F : Fit h r j z) : Stp x (frontT (toS h) z ++ "#" ++ toS v) := by
  obtain ⟨hf, hl, ha⟩ := F
  obtain ⟨f, hb, ef⟩ := fit_iff.mp hf
  have ef : h = f ++ cs z := ef
  have hj : j < 21 := by
    have := (List.getElem?_eq_some_iff.mp hz).1
    rw [nms_len] at this
    exact this
  obtain ⟨z', hz', k2, k1⟩ := nms_kind j hj
  rw [hz] at hz'
  cases hz'
  have n41 : 41 ∉ f := fun y => C.n41 (by rw [ef]; simp [y])
  have hin : Inn (cs z) r := by
    unfold mnyT at hl
    split at hl
    · rename_i lt
      match hp : Txt.split (toS r) ", ", hl with
      | [p, q], _ =>
        rw [hp] at ha
        have := split_two hp
        exact .inr ⟨⟨z, k2 lt, rfl⟩, p, ha p (by simp), q, ha q (by simp), this⟩
    · rename_i lt
      match hp : Txt.split (toS r) ", ", hl with
      | [p], _ =>
        rw [hp] at ha
        have := split_one hp
        exact .inl ⟨⟨z, k1 lt, rfl⟩, p, ha p (by simp), by rw [← this]; rfl⟩
  refine ⟨f, cs z, r, v, ⟨?_, n41, hb, hin⟩, ?_⟩
  · rw [C.txt, ef]; simp only [List.append_assoc, List.cons_append, List.nil_append]
  · rw [cs_app, cs_app, front_eq (show cs (toS h) = f ++ cs z from ef), List.append_assoc]
    rfl
theorem inn_no {x : Str} {h r v : List Nat} (C : Cut x h r v) (no : ∀ j z, nmsT[j]? = some z → ¬ Fit h r j z) : ¬ ∃ y, Stp x y := by
  rintro ⟨y, u, nm, inr, v', D, _⟩
  obtain ⟨a, b, c⟩ := D.cut
  obtain ⟨e1, e2, e3⟩ := C.uniq ⟨a, b, c⟩
  subst e1 e2 e3
  rcases D.inn with ⟨⟨z, hz, rfl⟩, p, hp, rfl⟩ | ⟨⟨z, hz, rfl⟩, p, hp, p', hp', rfl⟩
  · obtain ⟨j, j1, j2, j3⟩ := nms_one z hz
    refine no j z j3 ⟨fit_iff.mpr ⟨u, D.bd, rfl⟩, ?_, ?_⟩
    · rw [toS_cs, split_lone p hp]; unfold mnyT; rw [if_neg j2]; rfl
    · rw [toS_cs, split_lone p hp]; intro q hq; rw [List.mem_singleton.mp hq]; exact hp
  · obtain ⟨j, j1, j3⟩ := nms_two z hz
    have e : toS (cs p ++ ([44, 32] ++ cs p')) = p ++ ", " ++ p' := cs_inj (by rw [cs_app, cs_app, List.append_assoc]; rfl)
    refine no j z j3 ⟨fit_iff.mpr ⟨u, D.bd, rfl⟩, ?_, ?_⟩
    · rw [e, split_lones p hp p' hp']; unfold mnyT; rw [if_pos j1]; rfl
    · rw [e, split_lones p hp p' hp']
      intro q hq
      simp only [List.mem_cons, List.not_mem_nil, or_false] at hq
      rcases hq with rfl | rfl
      · exact hp
      · exact hp'
theorem nms_step : ∀ i, i < 8 → ∃ c, (Str.ofString "abcdefgh").cps[i]? = some c ∧ (nmsT.take (5 + 2 * i)) ++ [Str.ofString "some " ++ ⟨#[c]⟩, Str.ofString "each " ++ ⟨#[c]⟩] = nmsT.take (5 + 2 * (i + 1)) := by decide +kernel
theorem le_sum : ∀ {l : List Nat} {n : Nat}, n ∈ l → n ≤ l.sum
  | [], _, h => absurd h List.not_mem_nil
  | m :: l, n, h => by
    rw [List.sum_cons]
    rcases List.mem_cons.mp h with e | h
    · omega
    · have := le_sum h; omega
theorem split_part {r : List Nat} {p : Str} (h : p ∈ Txt.split (toS r) ", ") : p.length ≤ r.length := by
  have e := congrArg Str.length (glue_split (toS r) ", ")
  rw [size_glued] at e
  have l2 : (toS r).length = r.length := by rw [← cs_len]; rfl
  have := le_sum (List.mem_map_of_mem (f := fun x : Str => x.length) h)
  have this : p.length ≤ (List.map (fun x : Str => x.length) (Txt.split (toS r) ", ")).sum := this
  omega
end Sen
namespace Sen
open PySem L2
theorem cnt_count (c : Nat) : ∀ l : List Nat, PyProof.Rows.cnt c l = ((l.count c : Nat) : Int)
  | [] => rfl
  | n :: r => by
    rw [PyProof.Rows.cnt_cons, cnt_count c r, List.count_cons]
    by_cases h : n = c
    · rw [if_pos h, if_pos (by simpa using h)]; omega
    · rw [if_neg h, if_neg (by simpa using h)]; omega
theorem count_eq (x : Str) (c : Nat) : Txt.count x (toS [c]) = (((cs x).count c : Nat) : Int) := by
  have := PyProof.Rows.count_is x c
  rw [show toS [c] = ⟨#[c]⟩ from rfl, this]
  exact cnt_count c _
theorem count_none {x : Str} {c : Nat} : Txt.count x (toS [c]) = 0 ↔ c ∉ cs x := by
  rw [count_eq]
  constructor
  · intro h m
    have := List.count_pos_iff.mpr m
    omega
  · intro h
    rw [List.count_eq_zero_of_not_mem h]; rfl
theorem nodes_opn : ∀ e : Xs, e.nodes ≤ opn (wx e)
  | .lf u => Nat.zero_le _
  | .n1 nm s => by
    have := nodes_opn s
    show s.nodes + 1 ≤ opn (nm ++ ([40] ++ (wx s ++ [41])))
    rw [opn_app, opn_app, opn_app]
    have h1 : opn [40] = 1 := by decide
    omega
  | .n2 nm s t => by
    have := nodes_opn s
    have := nodes_opn t
    show s.nodes + t.nodes + 1 ≤ opn (nm ++ ([40] ++ (wx s ++ ([44, 32] ++ (wx t ++ [41])))))
    rw [opn_app, opn_app, opn_app, opn_app, opn_app]
    have h1 : opn [40] = 1 := by decide
    omega
theorem lw_no : ∀ x ∈ letts, 35 ∉ cs x ∧ 40 ∉ cs x ∧ 41 ∉ cs x := by decide +kernel
theorem wd_no : ∀ x ∈ wds, 35 ∉ cs x ∧ 40 ∉ cs x ∧ 41 ∉ cs x := by decide +kernel
theorem qw_no (o : Bool) : 35 ∉ cs (if o then ("some" : Str) else "each") ∧ 40 ∉ cs (if o then ("some" : Str) else "each") ∧ 41 ∉ cs (if o then ("some" : Str) else "each") := by cases o <;> decide +kernel
theorem wl_hash : ∀ s : Sn, s.inO letts → 35 ∉ wl s
  | .c0 y, _ => (wd_no (Sn.word (.c0 y)) (by cases y <;> decide +kernel)).1
  | .mk x, h => (lw_no x h).1
  | .nt s, h => by
    have ih := wl_hash s h
    show 35 ∉ cs "not" ++ ([40] ++ (wl s ++ [41]))
    have h0 : 35 ∉ cs "not" := by decide +kernel
    simp only [List.mem_append, not_or]
    exact ⟨h0, by decide, ih, by decide⟩
  | .b2 o s t, h => by
    have ih := wl_hash s h.1
    have ih2 := wl_hash t h.2
    show 35 ∉ cs (w2 o) ++ ([40] ++ (wl s ++ ([44, 32] ++ (wl t ++ [41]))))
    simp only [List.mem_append, not_or]
    exact ⟨(wd_no _ (w2_wds o).1).1, by decide, ih, by decide, ih2, by decide⟩
  | .q1 o x s, h => by
    have ih := wl_hash s h.2
    show 35 ∉ cs (if o then ("some" : Str) else "each") ++ ([32] ++ (cs x ++ ([40] ++ (wl s ++ [41]))))
    simp only [List.mem_append, not_or]
    exact ⟨(qw_no o).1, by decide, (lw_no x h.1).1, by decide, ih, by decide⟩
def Jdg (x : Str) (b : Bool) : Prop := (35 ∈ cs x ∧ b = false) ∨ (35 ∉ cs x ∧ IsTx 200 x b)
theorem judged {x : Str} {b : Bool} (ho : opn (cs x) < 200) (hb : Jdg x b) : b = true ↔ ∃ s : Sn, s.inO letts ∧ wl s = cs x := by
  constructor
  · intro e
    rcases hb with ⟨_, hb⟩ | ⟨n, hb⟩
    · rw [hb] at e; cases e
    · rw [e] at hb
      obtain ⟨e', h1, h2⟩ := isTx_sound hb
      obtain ⟨s, h3, h4⟩ := sn_of h1 (by rw [h2]; exact n)
      exact ⟨s, h3, by rw [h4, h2]⟩
  · rintro ⟨s, h1, h2⟩
    rcases hb with ⟨m, hb⟩ | ⟨n, hb⟩
    · exact absurd (by rw [h2]; exact m) (wl_hash s h1)
    · refine isTx_full hb (xS s) (xS_ok s h1) (by rw [xS_wx, h2]) ?_
      have := nodes_opn (xS s)
      rw [xS_wx, h2] at this
      omega
def dpc (p : Int × Int) (c : Nat) : Int × Int :=
  let o := p.1 + (if c = 40 then 1 else 0) - (if c = 41 then 1 else 0)
  (o, max p.2 (o + 1))
def dpl (l : List Nat) : Int × Int := l.foldl dpc (0, 1)
theorem dp_plain : ∀ (l : List Nat) (o d : Int), 40 ∉ l → 41 ∉ l → o + 1 ≤ d → l.foldl dpc (o, d) = (o, d)
  | [], _, _, _, _, _ => rfl
  | c :: l, o, d, h1, h2, h => by
    have e : dpc (o, d) c = (o, d) := by
      unfold dpc
      dsimp only
      rw [if_neg (fun e => h1 (by rw [e]; simp)), if_neg (fun e => h2 (by rw [e]; simp))]
      have : o + 0 - 0 = o := by omega
      rw [this]
      congr 1
      omega
    rw [List.foldl_cons, e]
    exact dp_plain l o d (fun z => h1 (List.mem_cons_of_mem _ z)) (fun z => h2 (List.mem_cons_of_mem _ z)) h
theorem dp_open (o d : Int) : dpc (o, d) 40 = (o + 1, max d (o + 2)) := by
  unfold dpc
  dsimp only
  rw [if_pos rfl, if_neg (by decide)]
  have : o + 1 - 0 = o + 1 := by omega
  rw [this]
  congr 1
  omega
theorem dp_close (o d : Int) (h : o ≤ d) : dpc (o, d) 41 = (o - 1, d) := by
  unfold dpc
  dsimp only
  rw [if_neg (by decide), if_pos rfl]
  have : o + 0 - 1 = o - 1 := by omega
  rw [this]
  congr 1
  omega
theorem dep_pos (s : Sn) : 1 ≤ s.depth := by
  cases s <;> unfold Sn.depth <;> omega
theorem dp_wl : ∀ (s : Sn), s.inO letts → ∀ (o d : Int), o + 1 ≤ d → (wl s).foldl dpc (o, d) = (o, max d (o + (s.depth : Nat)))
  | .c0 y, _, o, d, h => by
    have hw := wd_no (Sn.word (.c0 y)) (by cases y <;> decide +kernel)
    rw [show wl (.c0 y) = cs (Sn.word (.c0 y)) from rfl, dp_plain _ _ _ hw.2.1 hw.2.2 h]
    have : (Sn.c0 y).depth = 1 := rfl
    rw [this]; congr 1; omega
  | .mk x, hx, o, d, h => by
    have hw := lw_no x hx
    rw [show wl (.mk x) = cs x from rfl, dp_plain _ _ _ hw.2.1 hw.2.2 h]
    have : (Sn.mk x).depth = 1 := rfl
    rw [this]; congr 1; omega
  | .nt s, hs, o, d, h => by
    have ih := dp_wl s hs
    have h0 : 40 ∉ cs "not" ∧ 41 ∉ cs "not" := by decide +kernel
    have dp := dep_pos s
    rw [show wl (.nt s) = cs "not" ++ ([40] ++ (wl s ++ [41])) from rfl, List.foldl_append, dp_plain _ _ _ h0.1 h0.2 h, List.foldl_append, List.foldl_cons, dp_open, List.foldl_nil, List.foldl_append, ih _ _ (by omega), List.foldl_cons, dp_close _ _ (by omega), List.foldl_nil]
    have : (Sn.nt s).depth = 1 + s.depth := rfl
    rw [this]
    congr 1 <;> omega
  | .b2 k s t, hs, o, d, h => by
    have ih := dp_wl s hs.1
    have ih2 := dp_wl t hs.2
    have h0 := (wd_no _ (w2_wds k).1).2
    have dp := dep_pos s
    have dp2 := dep_pos t
    rw [show wl (.b2 k s t) = cs (w2 k) ++ ([40] ++ (wl s ++ ([44, 32] ++ (wl t ++ [41])))) from rfl, List.foldl_append, dp_plain _ _ _ h0.1 h0.2 h, List.foldl_append, List.foldl_cons, dp_open, List.foldl_nil, List.foldl_append, ih _ _ (by omega), List.foldl_append, dp_plain [44, 32] _ _ (by decide) (by decide) (by omega), List.foldl_append, ih2 _ _ (by omega), List.foldl_cons, dp_close _ _ (by omega), List.foldl_nil]
    have : (Sn.b2 k s t).depth = 1 + max s.depth t.depth := rfl
    rw [this]
    congr 1 <;> omega
  | .q1 k x s, hs, o, d, h => by
    have ih := dp_wl s hs.2
    have h0 := (qw_no k).2
    have h1 := (lw_no x hs.1).2
    have dp := dep_pos s
    rw [show wl (.q1 k x s) = cs (if k then ("some" : Str) else "each") ++ ([32] ++ (cs x ++ ([40] ++ (wl s ++ [41])))) from rfl, List.foldl_append, dp_plain _ _ _ h0.1 h0.2 h, List.foldl_append, dp_plain [32] _ _ (by decide) (by decide) h, List.foldl_append, dp_plain _ _ _ h1.1 h1.2 h, List.foldl_append, List.foldl_cons, dp_open, List.foldl_nil, List.foldl_append, ih _ _ (by omega), List.foldl_cons, dp_close _ _ (by omega), List.foldl_nil]
    have : (Sn.q1 k x s).depth = 1 + s.depth := rfl
    rw [this]
    congr 1 <;> omega
theorem dpl_wl {s : Sn} (h : s.inO letts) : (dpl (wl s)).2 = (s.depth : Nat) := by
  unfold dpl
  rw [dp_wl s h 0 1 (by omega)]
  have := dep_pos s
  show max 1 (0 + ((s.depth : Nat) : Int)) = _
  omega
theorem good_read {x : Str} {b : Bool} (ho : opn (cs x) < 100) (hb : Jdg x b) :
    ((b = true ∧ (dpl (cs x)).2 ≤ 24) → ∃ s, rdT x = some s ∧ cs x = wl s) ∧ (¬ (b = true ∧ (dpl (cs x)).2 ≤ 24) → rdT x = none) := by
  have j := judged (by omega) hb
  constructor
  · rintro ⟨h1, h2⟩
    obtain ⟨s, h3, h4⟩ := j.mp h1
    rw [← h4, dpl_wl h3] at h2
    have := count_opn s h3
    rw [h4] at this
    exact ⟨s, rdT_iff.mpr ⟨h4.symm, h3, by omega, by omega⟩, h4.symm⟩
  · intro h
    rw [rdT_none]
    rintro ⟨s, h1, h2, h3, h4⟩
    refine h ⟨j.mpr ⟨s, h2, h1.symm⟩, ?_⟩
    rw [h1, dpl_wl h2]
    omega
theorem stp_len {x y : Str} (h : Stp x y) : y.length ≤ x.length := by
  obtain ⟨u, nm, inr, v, D, e⟩ := h
  have a := congrArg List.length D.txt
  have b := congrArg List.length e
  rw [cs_len] at a b
  simp only [List.length_append, List.length_cons, List.length_nil] at a b
  omega
inductive spIsText (vs : List V) (H : Hp) (Q : VK) (E9 : XK) : Prop
  | mk (x : Str) (_ : vs = [.str x]) (_ : x.length ≤ 5000) (_ : ∀ b H', Same H H' → Jdg x b → Q (.bl b) H') : spIsText vs H Q E9
inductive spDeepest (vs : List V) (H : Hp) (Q : VK) (E9 : XK) : Prop
  | mk (x : Str) (_ : vs = [.str x]) (_ : (x.cps.all fun c => decide (c < 128)) = true) (_ : Q (.int (dpl (cs x)).2) H) : spDeepest vs H Q E9
end Sen
namespace L2
open PySem PySem.Spec PyProof.Rows PySem.Builtin PySem.Builtin.Str Sen
section
variable {X : Cx}
theorem op_mulT : OpR X (binaryOp .Mult) (fun x y H Q => ∃ (z : Str) (n : Int), x = .str z ∧ y = .int n ∧ MulOk z n ∧ Q (.str (Txt.mul z n)) H) := by
  intro pins s σ H x y v u Q I rx ry h
  obtain ⟨z, n, rfl, rfl, hn, q⟩ := h
  obtain ⟨t, rfl⟩ := rx
  obtain ⟨t', rfl⟩ := ry
  exact SB.mul hn fun t2 k => ⟨.str _, H, I.tok _, ⟨_, rfl⟩, q⟩
def repP : Expr → Option (Str × Int × Str × Str × Int)
  | .BinOp (.BinOp (.BinOp (.Constant (.str x) _ _) .Mult (.Constant (.int n) _ _) _) .Add (.Constant (.str c) _ _) _) .Add (.BinOp (.Constant (.str y) _ _) .Mult (.Constant (.int m) _ _) _) _ => some (x, n, c, y, m)
  | _ => none
theorem repP_shape {e : Expr} {x c y : Str} {n m : Int} (h : repP e = some (x, n, c, y, m)) : ∃ j1 p1 j2 p2 p3 j3 p4 p5 j4 p6 j5 p7 p8 p9, e = .BinOp (.BinOp (.BinOp (.Constant (.str x) j1 p1) .Mult (.Constant (.int n) j2 p2) p3) .Add (.Constant (.str c) j3 p4) p5) .Add (.BinOp (.Constant (.str y) j4 p6) .Mult (.Constant (.int m) j5 p7) p8) p9 := by
  unfold repP at h
  split at h
  · cases h
    exact ⟨_, _, _, _, _, _, _, _, _, _, _, _, _, _, rfl⟩
  · cases h
def RepOk (x : Str) (n : Int) (c y : Str) (m : Int) : Prop := MulOk x n ∧ MulOk y m ∧ (Txt.mul x n ++ c).length ≤ sizeLine ∧ (Txt.mul x n ++ c ++ Txt.mul y m).length ≤ sizeLine
theorem pe_rep {e : Expr} {x c y : Str} {n m : Int} (h : repP e = some (x, n, c, y, m)) (ok : RepOk x n c y m) : PE X e (tC (.str (Txt.mul x n ++ c ++ Txt.mul y m))) := by
  obtain ⟨j1, p1, j2, p2, p3, j3, p4, p5, j4, p6, j5, p7, p8, p9, rfl⟩ := repP_shape h
  obtain ⟨o1, o2, o3, o4⟩ := ok
  intro pins s σ H Q I q
  refine pe_op op_addS (pe_op op_addS (pe_op op_mulT pe_str pe_int) pe_str) (pe_op op_mulT pe_str pe_int) pins s σ H Q I ?_
  exact ⟨_, _, rfl, rfl, o1, _, _, rfl, rfl, o3, _, _, rfl, rfl, o2, _, _, rfl, rfl, o4, q⟩
theorem pe_rep3 {e1 e2 e3 : Expr} {pos : Pos} (x1 c1 y1 : Str) (n1 m1 : Int) (x2 c2 y2 : Str) (n2 m2 : Int) (x3 c3 y3 : Str) (n3 m3 : Int) (h1 : repP e1 = some (x1, n1, c1, y1, m1)) (h2 : repP e2 = some (x2, n2, c2, y2, m2)) (h3 : repP e3 = some (x3, n3, c3, y3, m3))
    (k1 : RepOk x1 n1 c1 y1 m1) (k2 : RepOk x2 n2 c2 y2 m2) (k3 : RepOk x3 n3 c3 y3 m3) : PE X (.List [e1, e2, e3] pos) (tStrL [Txt.mul x1 n1 ++ c1 ++ Txt.mul y1 m1, Txt.mul x2 n2 ++ c2 ++ Txt.mul y2 m2, Txt.mul x3 n3 ++ c3 ++ Txt.mul y3 m3]) := by
  obtain ⟨j1, p1, j2, p2, p3, j3, p4, p5, j4, p6, j5, p7, p8, p9, e⟩ := repP_shape h1
  obtain ⟨i1, q1, i2, q2, q3, i3, q4, q5, i4, q6, i5, q7, q8, q9, e'⟩ := repP_shape h2
  obtain ⟨l1, r1, l2, r2, r3, l3, r4, r5, l4, r6, l5, r7, r8, r9, e''⟩ := repP_shape h3
  have a1 := pe_rep (X := X) h1 k1
  have a2 := pe_rep (X := X) h2 k2
  have a3 := pe_rep (X := X) h3 k3
  intro pins s σ H Q I q
  refine pe_lst (pa_cons a1 (pa_cons a2 (pa_cons a3 pa_nil (by rw [e'']; rfl)) (by rw [e']; rfl)) (by rw [e]; rfl)) pins s σ H Q I ⟨q.1, q.2⟩
end
end L2
namespace Sen
open PySem L2
theorem slice_any {x : Str} (i : Nat) : Txt.slice x (some (i : Int)) none = toS ((cs x).drop i) := by
  by_cases h : i ≤ x.length
  · exact slice_rear h
  have := slice_at (x := x) (lo := some (i : Int)) (hi := none) (a := x.length) (b := x.length) (Nat.le_refl _) (Nat.le_refl _) (by
    unfold Builtin.Str.strSliceIndices
    dsimp only
    simp only [show (1 : Int) > 0 by decide, if_true]
    rw [if_neg (by omega : ¬ (i : Int) < 0)]
    congr 1
    omega)
  rw [this, Nat.sub_self, List.take_zero, List.drop_eq_nil_of_le (by rw [cs_len]; omega)]
  rfl
def Tg (n m : Nat) (x : Str) : Prop := x.length ≤ n ∧ opn (cs x) ≤ m ∧ ∀ c ∈ cs x, c < 128
theorem Tg.asc {n m : Nat} {x : Str} (h : Tg n m x) : (x.cps.all fun c => decide (c < 128)) = true := by
  rw [← Array.all_toList, List.all_eq_true]
  exact fun c hc => decide_eq_true (h.2.2 c hc)
instance (n m : Nat) (x : Str) : Decidable (Tg n m x) := by unfold Tg; infer_instance
theorem opn_sub {a b : List Nat} (h : a.Sublist b) : opn a ≤ opn b := (h.filter _).length_le
theorem cut_sub (l : List Nat) {i j : Nat} (h : i ≤ j) : (l.take i ++ l.drop j).Sublist l := by
  have e : l.drop j = (l.drop i).drop (j - i) := by rw [List.drop_drop]; congr 1; omega
  have := (List.Sublist.refl (l.take i)).append (e ▸ List.drop_sublist (j - i) (l.drop i))
  rw [List.take_append_drop] at this
  exact this
theorem tg_cut {n m : Nat} {x : Str} (hx : Tg n m x) {i j : Nat} (h : i ≤ j) (y : List Nat) (hy : y.length ≤ 1) (ha : ∀ c ∈ y, c < 128) : Tg (n + 1) (m + 1) (toS ((cs x).take i) ++ toS y ++ toS ((cs x).drop j)) := by
  have s := cut_sub (cs x) h
  have e : cs (toS ((cs x).take i) ++ toS y ++ toS ((cs x).drop j)) = (cs x).take i ++ y ++ (cs x).drop j := by rw [cs_app, cs_app]; rfl
  have l := s.length_le
  have o := opn_sub s
  have oy : opn y ≤ y.length := List.length_filter_le _ _
  rw [List.length_append] at l
  rw [opn_app] at o
  have lx := cs_len x
  refine ⟨?_, ?_, fun c hc => ?_⟩
  · rw [← cs_len, e, List.length_append, List.length_append]
    have := hx.1
    omega
  · rw [e, opn_app, opn_app]
    have := hx.2.1
    omega
  · rw [e] at hc
    rcases List.mem_append.mp hc with hc | hc
    · rcases List.mem_append.mp hc with hc | hc
      · exact hx.2.2 c (List.mem_of_mem_take hc)
      · exact ha c hc
    · exact hx.2.2 c (List.mem_of_mem_drop hc)
theorem asc_wds : ∀ x ∈ wds, ∀ c ∈ cs x, c < 128 := by decide +kernel
theorem asc_letts : ∀ x ∈ letts, ∀ c ∈ cs x, c < 128 := by decide +kernel
theorem asc_qw (o : Bool) : ∀ c ∈ cs (if o then ("some" : Str) else "each"), c < 128 := by cases o <;> decide +kernel
theorem asc_wl : ∀ s : Sn, s.inO letts → ∀ c ∈ wl s, c < 128
  | .c0 y, _ => asc_wds (Sn.word (.c0 y)) (by cases y <;> decide +kernel)
  | .mk x, h => asc_letts x h
  | .nt s, h => fun c hc => by
    have ih := asc_wl s h
    have hc : c ∈ cs "not" ++ ([40] ++ (wl s ++ [41])) := hc
    have h0 : ∀ c ∈ cs "not", c < 128 := by decide +kernel
    simp only [List.mem_append, List.mem_singleton] at hc
    rcases hc with h | h | h | h
    · exact h0 c h
    · omega
    · exact ih c h
    · omega
  | .b2 o s t, h => fun c hc => by
    have ih := asc_wl s h.1
    have ih2 := asc_wl t h.2
    have hc : c ∈ cs (w2 o) ++ ([40] ++ (wl s ++ ([44, 32] ++ (wl t ++ [41])))) := hc
    simp only [List.mem_append, List.mem_cons, List.not_mem_nil, or_false] at hc
    rcases hc with h | h | h | (h | h) | h | h
    · exact asc_wds _ (w2_wds o).1 c h
    · omega
    · exact ih c h
    · omega
    · omega
    · exact ih2 c h
    · omega
  | .q1 o x s, h => fun c hc => by
    have ih := asc_wl s h.2
    have hc : c ∈ cs (if o then ("some" : Str) else "each") ++ ([32] ++ (cs x ++ ([40] ++ (wl s ++ [41])))) := hc
    simp only [List.mem_append, List.mem_cons, List.not_mem_nil, or_false] at hc
    rcases hc with h1 | h1 | h1 | h1 | h1 | h1
    · exact asc_qw o c h1
    · omega
    · exact asc_letts x h.1 c h1
    · omega
    · exact ih c h1
    · omega
theorem tg_wrt {s : Sn} (h : s.inO letts) (hc : s.count ≤ 60) : Tg 720 60 (wrt s) := by
  have l := wrt_len h
  have o := count_opn s h
  rw [← wl_wrt] at o
  exact ⟨by omega, by omega, by rw [wl_wrt]; exact asc_wl s h⟩
theorem Tg.mono {n m n' m' : Nat} {x : Str} (h : Tg n m x) (h1 : n ≤ n') (h2 : m ≤ m') : Tg n' m' x := ⟨Nat.le_trans h.1 h1, Nat.le_trans h.2.1 h2, h.2.2⟩
def sgT : Str := "abchi(), no\n\tsemyt-#"
theorem sg_asc : ∀ c ∈ cs sgT, c < 128 := by decide +kernel
def oT1 : List Str := ["", " ", "yes ", " no", "a,b", "not(a", "not a", "not()", "and(a,b)", "and(a, b, c)", "and(a)"]
def oT2 : List Str := ["(a)", "h", "i", "yes()", "some a(b)", "some(b)", "some i(b)", "some a b(c)", "each  a(b)"]
def oT3 : List Str := ["each h(no)", "some a(b, c)"]
def oT4 : List Str := ["if(a, not(b))", "A", "nots(a)", "mark(a)", "some a", "yes b(a)", "not a(b)", "and a(b, c)"]
def rpT (x : Str) (n : Int) : Str := Txt.mul x n ++ "a" ++ Txt.mul ")" n
def oT5 : List Str := [rpT "not(" 23, rpT "not(" 24, rpT "some a(" 30]
theorem oT_tg : ∀ x ∈ oT1 ++ oT2 ++ oT3 ++ oT4 ++ oT5, Tg 721 61 x := by decide +kernel
theorem oT_len : (oT1 ++ oT2 ++ oT3 ++ oT4 ++ oT5).length = 33 := by decide
theorem rep_a : RepOk "not(" 23 "a" ")" 23 := by
  refine ⟨⟨?_, ?_, ?_⟩, ⟨?_, ?_, ?_⟩, ?_, ?_⟩ <;> decide +kernel
theorem rep_b : RepOk "not(" 24 "a" ")" 24 := by
  refine ⟨⟨?_, ?_, ?_⟩, ⟨?_, ?_, ?_⟩, ?_, ?_⟩ <;> decide +kernel
theorem rep_c : RepOk "some a(" 30 "a" ")" 30 := by
  refine ⟨⟨?_, ?_, ?_⟩, ⟨?_, ?_, ?_⟩, ?_, ?_⟩ <;> decide +kernel
inductive spChanged (vs : List V) (H : Hp) (Q : VK) (E9 : XK) : Prop
  | mk (x : Str) (c : Int) (_ : vs = [.str x, .int c]) (_ : Tg 720 60 x) (_ : ∀ y H', Same H H' → Tg 721 61 y → Q (.str y) H') : spChanged vs H Q E9
end Sen
namespace K03
open PySem L2
def top (i : Nat) : Stmt := PySem.Challenge.pw_decidebook_k03_sentences_as_texts.main.body.getD i (.Pass ⟨0, 0, 0, 0⟩)
abbrev S_is_mark : Stmt := top 9
abbrev p_is_mark : List Str := ["letter"]
theorem sc_is_mark : FnScope ["letter"] p_is_mark (defScope S_is_mark) := fsc (by decide +kernel)
abbrev S_letters_of : Stmt := top 10
abbrev p_letters_of : List Str := ["sentence"]
theorem sc_letters_of : FnScope ["sentence"] p_letters_of (defScope S_letters_of) := fsc (by decide +kernel)
abbrev S_parts_of : Stmt := top 11
abbrev p_parts_of : List Str := ["sentence"]
theorem sc_parts_of : FnScope ["sentence"] p_parts_of (defScope S_parts_of) := fsc (by decide +kernel)
abbrev S_parts_of_all : Stmt := top 12
abbrev p_parts_of_all : List Str := ["level"]
theorem sc_parts_of_all : FnScope ["level", "found", "sentence"] p_parts_of_all (defScope S_parts_of_all) := fsc (by decide +kernel)
abbrev S_is_shaped : Stmt := top 13
abbrev p_is_shaped : List Str := ["some"]
theorem sc_is_shaped : FnScope ["some", "shape"] p_is_shaped (defScope S_is_shaped) := fsc (by decide +kernel)
abbrev S_is_sentence : Stmt := top 14
abbrev p_is_sentence : List Str := ["some"]
theorem sc_is_sentence : FnScope ["some", "level", "deep", "tuples"] p_is_sentence (defScope S_is_sentence) := fsc (by decide +kernel)
abbrev S_must_be_sentence : Stmt := top 15
abbrev p_must_be_sentence : List Str := ["some"]
theorem sc_must_be_sentence : FnScope ["some"] p_must_be_sentence (defScope S_must_be_sentence) := fsc (by decide +kernel)
abbrev S_shown : Stmt := top 17
abbrev p_shown : List Str := ["sentence"]
theorem sc_shown : FnScope ["sentence"] p_shown (defScope S_shown) := fsc (by decide +kernel)
abbrev S_written : Stmt := top 18
abbrev p_written : List Str := ["sentence"]
theorem sc_written : FnScope ["sentence", "head", "parts", "inner"] p_written (defScope S_written) := fsc (by decide +kernel)
abbrev S_read : Stmt := top 19
abbrev p_read : List Str := ["text"]
theorem sc_read : FnScope ["text", "told"] p_read (defScope S_read) := fsc (by decide +kernel)
abbrev S_read_sentence : Stmt := top 20
abbrev p_read_sentence : List Str := ["text", "at", "deep"]
theorem sc_read_sentence : FnScope ["text", "at", "deep", "behind", "word", "letters", "parts"] p_read_sentence (defScope S_read_sentence) := fsc (by decide +kernel)
abbrev S_read_letters : Stmt := top 21
abbrev p_read_letters : List Str := ["text", "at", "many"]
theorem sc_read_letters : FnScope ["text", "at", "many", "letters", "turn", "letter"] p_read_letters (defScope S_read_letters) := fsc (by decide +kernel)
abbrev S_read_parts : Stmt := top 22
abbrev p_read_parts : List Str := ["text", "at", "many", "deep"]
theorem sc_read_parts : FnScope ["text", "at", "many", "deep", "parts", "turn", "told"] p_read_parts (defScope S_read_parts) := fsc (by decide +kernel)
abbrev S_behind_word : Stmt := top 23
abbrev p_behind_word : List Str := ["text", "at"]
theorem sc_behind_word : FnScope ["text", "at"] p_behind_word (defScope S_behind_word) := fsc (by decide +kernel)
abbrev S_behind_piece : Stmt := top 24
abbrev p_behind_piece : List Str := ["text", "at", "piece"]
theorem sc_behind_piece : FnScope ["text", "at", "piece"] p_behind_piece (defScope S_behind_piece) := fsc (by decide +kernel)
abbrev S_x_law_cell_at : Stmt := top 26
abbrev p_x_law_cell_at : List Str := ["script", "k"]
theorem sc_x_law_cell_at : FnScope ["script", "k"] p_x_law_cell_at (defScope S_x_law_cell_at) := fsc (by decide +kernel)
abbrev S_x_law_draw : Stmt := top 27
abbrev p_x_law_draw : List Str := ["cell", "k", "bound"]
theorem sc_x_law_draw : FnScope ["cell", "k", "bound", "stir", "left", "j"] p_x_law_draw (defScope S_x_law_draw) := fsc (by decide +kernel)
abbrev S_x_law_sentence : Stmt := top 28
abbrev p_x_law_sentence : List Str := ["script", "at", "many", "order"]
theorem sc_x_law_sentence : FnScope ["script", "at", "many", "order", "kinds", "made", "k", "cell", "kind", "one", "other", "letter"] p_x_law_sentence (defScope S_x_law_sentence) := fsc (by decide +kernel)
abbrev S_x_law_count : Stmt := top 29
abbrev p_x_law_count : List Str := ["sentence"]
theorem sc_x_law_count : FnScope ["sentence"] p_x_law_count (defScope S_x_law_count) := fsc (by decide +kernel)
abbrev S_x_law_short : Stmt := top 30
abbrev p_x_law_short : List Str := ["script", "at", "many", "order"]
theorem sc_x_law_short : FnScope ["script", "at", "many", "order", "some"] p_x_law_short (defScope S_x_law_short) := fsc (by decide +kernel)
abbrev S_x_law_text : Stmt := top 31
abbrev p_x_law_text : List Str := ["some"]
theorem sc_x_law_text : FnScope ["some"] p_x_law_text (defScope S_x_law_text) := fsc (by decide +kernel)
abbrev S_x_law_changed : Stmt := top 32
abbrev p_x_law_changed : List Str := ["text", "cell"]
theorem sc_x_law_changed : FnScope ["text", "cell", "at", "sign", "odd"] p_x_law_changed (defScope S_x_law_changed) := fsc (by decide +kernel)
abbrev S_x_law_lone : Stmt := top 33
abbrev p_x_law_lone : List Str := ["text"]
theorem sc_x_law_lone : FnScope ["text"] p_x_law_lone (defScope S_x_law_lone) := fsc (by decide +kernel)
abbrev S_x_law_fits : Stmt := top 34
abbrev p_x_law_fits : List Str := ["ahead", "name"]
theorem sc_x_law_fits : FnScope ["ahead", "name", "front"] p_x_law_fits (defScope S_x_law_fits) := fsc (by decide +kernel)
abbrev S_x_law_inner : Stmt := top 35
abbrev p_x_law_inner : List Str := ["text"]
theorem sc_x_law_inner : FnScope ["text", "end", "start", "ahead", "parts", "names", "mark", "name", "many"] p_x_law_inner (defScope S_x_law_inner) := fsc (by decide +kernel)
abbrev S_x_law_is_text : Stmt := top 36
abbrev p_x_law_is_text : List Str := ["text"]
theorem sc_x_law_is_text : FnScope ["text", "turn"] p_x_law_is_text (defScope S_x_law_is_text) := fsc (by decide +kernel)
abbrev S_x_law_deepest : Stmt := top 37
abbrev p_x_law_deepest : List Str := ["text"]
theorem sc_x_law_deepest : FnScope ["text", "deepest", "opened", "sign"] p_x_law_deepest (defScope S_x_law_deepest) := fsc (by decide +kernel)
abbrev S_law : Stmt := top 38
abbrev p_law : List Str := ["script"]
theorem sc_law : FnScope ["script", "some", "text", "good", "found", "e"] p_law (defScope S_law) := fsc (by decide +kernel)
def tb_SHAPES : List (Str × Int × Int) := [("yes", 0, 0), ("no", 0, 0), ("mark", 1, 0), ("not", 0, 1), ("and", 0, 2), ("or", 0, 2), ("either", 0, 2), ("if", 0, 2), ("some", 1, 1), ("each", 1, 1)]
set_option genInjectivity false in
set_option genSizeOf false in
structure Ad where
  a_is_mark : Addr
  d_is_mark : FuncData
  a_letters_of : Addr
  d_letters_of : FuncData
  a_parts_of : Addr
  d_parts_of : FuncData
  a_parts_of_all : Addr
  d_parts_of_all : FuncData
  a_is_shaped : Addr
  d_is_shaped : FuncData
  a_is_sentence : Addr
  d_is_sentence : FuncData
  a_must_be_sentence : Addr
  d_must_be_sentence : FuncData
  a_shown : Addr
  d_shown : FuncData
  a_written : Addr
  d_written : FuncData
  a_read : Addr
  d_read : FuncData
  a_read_sentence : Addr
  d_read_sentence : FuncData
  a_read_letters : Addr
  d_read_letters : FuncData
  a_read_parts : Addr
  d_read_parts : FuncData
  a_behind_word : Addr
  d_behind_word : FuncData
  a_behind_piece : Addr
  d_behind_piece : FuncData
  a_x_law_cell_at : Addr
  d_x_law_cell_at : FuncData
  a_x_law_draw : Addr
  d_x_law_draw : FuncData
  a_x_law_sentence : Addr
  d_x_law_sentence : FuncData
  a_x_law_count : Addr
  d_x_law_count : FuncData
  a_x_law_short : Addr
  d_x_law_short : FuncData
  a_x_law_text : Addr
  d_x_law_text : FuncData
  a_x_law_changed : Addr
  d_x_law_changed : FuncData
  a_x_law_lone : Addr
  d_x_law_lone : FuncData
  a_x_law_fits : Addr
  d_x_law_fits : FuncData
  a_x_law_inner : Addr
  d_x_law_inner : FuncData
  a_x_law_is_text : Addr
  d_x_law_is_text : FuncData
  a_x_law_deepest : Addr
  d_x_law_deepest : FuncData
  a_law : Addr
  d_law : FuncData
  a_BookError : Addr
  a_NoSentence : Addr
  a_NoNote : Addr
  a_MARKS : Addr
  t_MOST_TUPLES : Tok
  t_MOST_DEEP : Tok
  a_SHAPES : Addr
  kv_SHAPES : List (Str × Value)
structure Txt (P : Program) (w : World) (K : PySem.W.Frag) (mg : Str → Option Value) (a : Ad) : Prop where
  m_BookError : mg "BookError" = some (.ref a.a_BookError)
  m_NoSentence : mg "NoSentence" = some (.ref a.a_NoSentence)
  m_NoNote : mg "NoNote" = some (.ref a.a_NoNote)
  f_is_mark : Df K mg "is_mark" S_is_mark a.a_is_mark a.d_is_mark p_is_mark
  f_letters_of : Df K mg "letters_of" S_letters_of a.a_letters_of a.d_letters_of p_letters_of
  f_parts_of : Df K mg "parts_of" S_parts_of a.a_parts_of a.d_parts_of p_parts_of
  f_parts_of_all : Df K mg "parts_of_all" S_parts_of_all a.a_parts_of_all a.d_parts_of_all p_parts_of_all
  f_is_shaped : Df K mg "is_shaped" S_is_shaped a.a_is_shaped a.d_is_shaped p_is_shaped
  f_is_sentence : Df K mg "is_sentence" S_is_sentence a.a_is_sentence a.d_is_sentence p_is_sentence
  f_must_be_sentence : Df K mg "must_be_sentence" S_must_be_sentence a.a_must_be_sentence a.d_must_be_sentence p_must_be_sentence
  f_shown : Df K mg "shown" S_shown a.a_shown a.d_shown p_shown
  f_written : Df K mg "written" S_written a.a_written a.d_written p_written
  f_read : Df K mg "read" S_read a.a_read a.d_read p_read
  f_read_sentence : Df K mg "read_sentence" S_read_sentence a.a_read_sentence a.d_read_sentence p_read_sentence
  f_read_letters : Df K mg "read_letters" S_read_letters a.a_read_letters a.d_read_letters p_read_letters
  f_read_parts : Df K mg "read_parts" S_read_parts a.a_read_parts a.d_read_parts p_read_parts
  f_behind_word : Df K mg "behind_word" S_behind_word a.a_behind_word a.d_behind_word p_behind_word
  f_behind_piece : Df K mg "behind_piece" S_behind_piece a.a_behind_piece a.d_behind_piece p_behind_piece
  f_x_law_cell_at : Df K mg "_law_cell_at" S_x_law_cell_at a.a_x_law_cell_at a.d_x_law_cell_at p_x_law_cell_at
  f_x_law_draw : Df K mg "_law_draw" S_x_law_draw a.a_x_law_draw a.d_x_law_draw p_x_law_draw
  f_x_law_sentence : Df K mg "_law_sentence" S_x_law_sentence a.a_x_law_sentence a.d_x_law_sentence p_x_law_sentence
  f_x_law_count : Df K mg "_law_count" S_x_law_count a.a_x_law_count a.d_x_law_count p_x_law_count
  f_x_law_short : Df K mg "_law_short" S_x_law_short a.a_x_law_short a.d_x_law_short p_x_law_short
  f_x_law_text : Df K mg "_law_text" S_x_law_text a.a_x_law_text a.d_x_law_text p_x_law_text
  f_x_law_changed : Df K mg "_law_changed" S_x_law_changed a.a_x_law_changed a.d_x_law_changed p_x_law_changed
  f_x_law_lone : Df K mg "_law_lone" S_x_law_lone a.a_x_law_lone a.d_x_law_lone p_x_law_lone
  f_x_law_fits : Df K mg "_law_fits" S_x_law_fits a.a_x_law_fits a.d_x_law_fits p_x_law_fits
  f_x_law_inner : Df K mg "_law_inner" S_x_law_inner a.a_x_law_inner a.d_x_law_inner p_x_law_inner
  f_x_law_is_text : Df K mg "_law_is_text" S_x_law_is_text a.a_x_law_is_text a.d_x_law_is_text p_x_law_is_text
  f_x_law_deepest : Df K mg "_law_deepest" S_x_law_deepest a.a_x_law_deepest a.d_x_law_deepest p_x_law_deepest
  f_law : Df K mg "law" S_law a.a_law a.d_law p_law
  ac_NoSentence : AskC K a.a_NoSentence
  ac_NoNote : AskC K a.a_NoNote
  xc_NoSentence : ExcC K a.a_BookError a.a_NoSentence
  xc_NoNote : ExcC K a.a_BookError a.a_NoNote
  xb : ExcB K a.a_BookError
  xd : [a.a_BookError, a.a_NoSentence, a.a_NoNote].Nodup
  n_ValueError : mg "ValueError" = none
  m_MARKS : mg "MARKS" = some (.ref a.a_MARKS)
  q_MARKS : ∀ H, SqT K H a.a_MARKS ((["a", "b", "c", "d", "e", "f", "g", "h"] : List Str).map V.str)
  m_MOST_TUPLES : mg "MOST_TUPLES" = some (.int 200 a.t_MOST_TUPLES)
  m_MOST_DEEP : mg "MOST_DEEP" = some (.int 24 a.t_MOST_DEEP)
  m_SHAPES : mg "SHAPES" = some (.ref a.a_SHAPES)
  h_SHAPES : Shp K P w a.a_SHAPES a.kv_SHAPES tb_SHAPES
  n_all : mg "all" = none
  n_int : mg "int" = none
  n_isinstance : mg "isinstance" = none
  n_len : mg "len" = none
  n_max : mg "max" = none
  n_range : mg "range" = none
  n_str : mg "str" = none
  n_sum : mg "sum" = none
  n_tuple : mg "tuple" = none
theorem x_law {K : PySem.W.Frag} {mg : Str → Option Value} {f : Addr} {d : FuncData} (F : Df K mg "law" S_law f d p_law) : ∀ (s : Shared) (u : Value), BindsTo s d ⟨[u], []⟩ [("script", u)] := by
  obtain ⟨_, _, _, _, _, _, _, _, _, rfl, _, _⟩ := F.F.ex
  exact fun s u => .of_eq rfl
theorem ex_mk {P : Program} {w : World} {K : PySem.W.Frag} {mg : Str → Option Value} {x0 x2 x4 x6 x8 x10 x12 x14 x16 x18 x20 x22 x24 x26 x28 x30 x32 x34 x36 x38 x40 x42 x44 x46 x48 x50 x52 x54 x56 x57 x58 x59 x62 : Addr} {x1 x3 x5 x7 x9 x11 x13 x15 x17 x19 x21 x23 x25 x27 x29 x31 x33 x35 x37 x39 x41 x43 x45 x47 x49 x51 x53 x55 : FuncData} {x60 x61 : Tok} {x63 : List (Str × Value)} (t : Txt P w K mg ⟨x0, x1, x2, x3, x4, x5, x6, x7, x8, x9, x10, x11, x12, x13, x14, x15, x16, x17, x18, x19, x20, x21, x22, x23, x24, x25, x26, x27, x28, x29, x30, x31, x32, x33, x34, x35, x36, x37, x38, x39, x40, x41, x42, x43, x44, x45, x46, x47, x48, x49, x50, x51, x52, x53, x54, x55, x56, x57, x58, x59, x60, x61, x62, x63⟩) : ∃ a, Txt P w K mg a := ⟨_, t⟩
end K03
namespace K03
open PySem L2 Sen
section
variable {P : Program} {w : World} {K : PySem.W.Frag} {mg : Str → Option Value} {base : Heap} {a : Ad} {k : Nat}
theorem ok_is_markX (T : Txt P w K mg a) : FnOk P w K mg base CX0 (k + 1) a.a_is_mark a.d_is_mark p_is_mark spMarkX := by
  refine T.f_is_mark.F.ok sc_is_mark (fun vs H Q E h => ?_) (fun cdv A outer s H vs Q E hr h => ?_)
  · obtain ⟨t, v, rfl, _⟩ := h
    rfl
  obtain ⟨t, v, rfl, ht, q⟩ := h
  refine ⟨_, (pss_one (ps_ret (pe_cmpR (op_inD (K := K) rfl (hu9 hr)) (pv 0) (pe_glob (v := .ref a.a_MARKS) rfl T.m_MARKS rfl) (by with_unfolding_all rfl)))), ?_⟩
  cases e : t.tup with
  | false =>
    obtain ⟨x, rfl, rfl⟩ := ht.str e
    refine ⟨_, rfl, a.a_MARKS, letts.map V.str, fun z => eqV z (.str x), rfl, .inr (T.q_MARKS H), fun z hz => .flat (List.all_eq_true.mp (flat_strs _) z hz) rfl, ?_⟩
    show Q (.bl (inV (.str x) (letts.map V.str))) H
    rw [inV_strs]
    exact q
  | true =>
    obtain ⟨p, rfl⟩ := ht.tup e
    obtain ⟨vs, hp, _⟩ := ht.cut
    refine ⟨_, rfl, a.a_MARKS, letts.map V.str, fun _ => false, rfl, .inr (T.q_MARKS H), fun z hz => .ft (SqT.of hp) (List.all_eq_true.mp (flat_strs _) z hz), ?_⟩
    show Q (.bl ((letts.map V.str).any fun _ => false)) H
    rw [not_mark]
    rw [ht.mk] at q
    exact q
theorem ok_letters_of (T : Txt P w K mg a) : FnOk P w K mg base CX0 (k + 1) a.a_letters_of a.d_letters_of p_letters_of spLettersOf := by
  refine T.f_letters_of.F.ok sc_letters_of (fun vs H Q E h => ?_) (fun cdv A outer s H vs Q E hr h => ?_)
  · obtain ⟨p, x, m, n, rest, rfl, _⟩ := h
    rfl
  obtain ⟨p, x, m, n, rest, rfl, hp, hm, hl, q⟩ := h
  refine ⟨_, (pss_one (ps_ret (pe_slice sl_tup (pv 0) (po_some pe_int) (po_some (pe_op op_add pe_int (pe_ix ix_tup (pe_ix (ix_dicK T.h_SHAPES.d) (pe_glob (v := .ref a.a_SHAPES) rfl T.m_SHAPES rfl) (pe_ix ix_tup (pv 0) pe_int (fun _ _ => rfl)) (fun _ _ => rfl)) pe_int (fun _ _ => rfl))))))), ?_⟩
  obtain ⟨pt, hv, hpt⟩ := T.h_SHAPES.y x m n hm
  refine ⟨_, rfl, 1, rfl, _, rfl, p, _, 0, _, rfl, rfl, SqT.of hp, at0, x, .ref pt, .ref pt, rfl, rfl, hv, rfl, pt, _, 0, _, rfl, rfl, hpt H, at0, 1, (m : Int), rfl, rfl, _, rfl, p, _, rfl, SqT.of hp, not_whole1 (by decide), fun z hz => ?_⟩
  rw [cut_fore hl]
  exact q z hz
theorem ok_parts_of (T : Txt P w K mg a) : FnOk P w K mg base CX0 (k + 1) a.a_parts_of a.d_parts_of p_parts_of spPartsOf := by
  refine T.f_parts_of.F.ok sc_parts_of (fun vs H Q E h => ?_) (fun cdv A outer s H vs Q E hr h => ?_)
  · obtain ⟨p, x, m, n, rest, rfl, _⟩ := h
    rfl
  obtain ⟨p, x, m, n, rest, rfl, hp, hm, hl, q⟩ := h
  refine ⟨_, (pss_one (ps_ret (pe_slice sl_tup (pv 0) (po_some (pe_op op_add pe_int (pe_ix ix_tup (pe_ix (ix_dicK T.h_SHAPES.d) (pe_glob (v := .ref a.a_SHAPES) rfl T.m_SHAPES rfl) (pe_ix ix_tup (pv 0) pe_int (fun _ _ => rfl)) (fun _ _ => rfl)) pe_int (fun _ _ => rfl)))) po_none))), ?_⟩
  obtain ⟨pt, hv, hpt⟩ := T.h_SHAPES.y x m n hm
  refine ⟨_, rfl, _, rfl, p, _, 0, _, rfl, rfl, SqT.of hp, at0, x, .ref pt, .ref pt, rfl, rfl, hv, rfl, pt, _, 0, _, rfl, rfl, hpt H, at0, 1, (m : Int), rfl, rfl, _, rfl, p, _, rfl, SqT.of hp, not_whole1 (by omega), fun z hz => ?_⟩
  rw [cut_rear hl]
  exact q z hz
theorem ok_is_shapedX (T : Txt P w K mg a) (G_is_mark : FnOk P w K mg base CX0 k a.a_is_mark a.d_is_mark p_is_mark spMarkX) (G_letters_of : FnOk P w K mg base CX0 k a.a_letters_of a.d_letters_of p_letters_of spLettersOf) (G_parts_of : FnOk P w K mg base CX0 k a.a_parts_of a.d_parts_of p_parts_of spPartsOf) :
    FnOk P w K mg base CX0 (k + 1) a.a_is_shaped a.d_is_shaped p_is_shaped spShapedX := by
  refine T.f_is_shaped.F.ok sc_is_shaped (fun vs H Q E h => ?_) (fun cdv A outer s H vs Q E hr h => ?_)
  · obtain ⟨p, t, rfl, _⟩ := h
    rfl
  obtain ⟨p, t, rfl, ht, q⟩ := h
  refine ⟨_, (pss_cons (ps_if (PW.pt (pw_or (pt_cmpR op_eq (pe_callB call_len_seq rfl T.n_len bt_len (pa_cons (pv 0) pa_nil)) pe_int (nomark _)) (pw_or (pt_not (pt_truth (pe_callB call_isinst rfl T.n_isinstance bt_isinstance (pa_cons (pe_ix ix_tup (pv 0) pe_int (fun _ _ => rfl)) (pa_cons (pe_bltn (v := .ty "str") rfl T.n_str bt_str rfl) pa_nil))) (fun _ => rfl))) (pw_or1 (pt_cmpR (op_notIn_dicK T.h_SHAPES.d) (pe_ix ix_tup (pv 0) pe_int (fun _ _ => rfl)) (pe_glob (v := .ref a.a_SHAPES) rfl T.m_SHAPES rfl) (by with_unfolding_all rfl)))))) (pss_one (ps_ret pe_bl)) pss_nil)
      (pss_cons (ps_setA 1 sc_is_shaped.nd (pe_ix (ix_dicK T.h_SHAPES.d) (pe_glob (v := .ref a.a_SHAPES) rfl T.m_SHAPES rfl) (pe_ix ix_tup (pv 0) pe_int (fun _ _ => rfl)) (fun _ _ => rfl)))
      (pss_cons (ps_if (pt_cmpR op_ne (pe_callB call_len_seq rfl T.n_len bt_len (pa_cons (pv 0) pa_nil)) (pe_op op_add (pe_op op_add pe_int (pe_ix ix_tup (pv 1) pe_int (fun _ _ => rfl))) (pe_ix ix_tup (pv 1) pe_int (fun _ _ => rfl))) (nomark _)) (pss_one (ps_ret pe_bl)) pss_nil)
      (pss_cons (ps_if (pt_not (pt_truth (pe_callB (call_all rfl) rfl T.n_all bt_all (pa_cons (pe_lc0 (osc := defScope S_is_shaped) (js := []) rfl (by show LcOk _ _ "letter" []; exact lco (by decide +kernel)) rfl (pi_tup (pe_callD G_letters_of hr T.f_letters_of (pa_cons (pv 0) pa_nil))) (by show ∀ j ∈ ([] : List Nat), j < 2; decide) (fun cl C s₂ H₂ fp => (pe_callD G_is_mark hr T.f_is_mark (pa_cons (pv 0) pa_nil)))) pa_nil)) (fun _ => rfl))) (pss_one (ps_ret pe_bl)) pss_nil)
      (pss_one (ps_ret (pe_callB (call_all rfl) rfl T.n_all bt_all (pa_cons (pe_lc0 (osc := defScope S_is_shaped) (js := []) rfl (by show LcOk _ _ "part" []; exact lco (by decide +kernel)) rfl (pi_tup (pe_callD G_parts_of hr T.f_parts_of (pa_cons (pv 0) pa_nil))) (by show ∀ j ∈ ([] : List Nat), j < 2; decide) (fun cl C s₂ H₂ fp => (pe_callB (call_isinstK (K := K) rfl) rfl T.n_isinstance bt_isinstance (pa_cons (pv 0) (pa_cons (pe_bltn (v := .ty "tuple") rfl T.n_tuple bt_tuple rfl) pa_nil))))) pa_nil)))))))), ?_⟩
  obtain ⟨vs, c1, c2⟩ := ht.cut
  refine ⟨_, rfl, p, _, rfl, .inr (SqT.of c1), rfl, _, rfl, ?_⟩
  cases ei : t.items with
  | nil =>
    rw [ei] at c2
    cases c2
    refine iteT ?_
    have es : shp t = false := by unfold shp; rw [ei]
    rw [es] at q
    exact q H (Same.refl _)
  | cons t0 r =>
  rw [ei] at c2
  cases c2 with
  | @cons _ v0 _ us h0 c2 =>
  refine iteF ?_
  cases e0 : t0.tup with
  | true =>
    obtain ⟨p0, rfl⟩ := h0.tup e0
    obtain ⟨ws, d1, _⟩ := h0.cut
    refine ⟨_, rfl, p, _, 0, _, rfl, rfl, SqT.of c1, at0, _, _, _, false, rfl, .tup d1, rfl, _, rfl, iteT ?_⟩
    have es : shp t = false := by
      unfold shp; rw [ei]
      cases t0 with
      | s x => cases e0
      | e => rfl
      | c a b => rfl
    rw [es] at q
    exact q H (Same.refl _)
  | false =>
  obtain ⟨x, rfl, rfl⟩ := h0.str e0
  refine ⟨_, rfl, p, _, 0, _, rfl, rfl, SqT.of c1, at0, _, _, _, true, rfl, .str x, rfl, _, rfl, iteF ?_⟩
  refine ⟨_, rfl, p, _, 0, _, rfl, rfl, SqT.of c1, at0, x, rfl, rfl, _, rfl, ?_⟩
  cases el : lk x with
  | none =>
    rw [T.h_SHAPES.z x (lk_none el)]
    refine iteT ?_
    have es : shp t = false := by unfold shp; rw [ei]; show (match lk x with | some (m, n) => _ | none => false) = false; rw [el]
    rw [es] at q
    exact q H (Same.refl _)
  | some mn =>
  obtain ⟨m, n⟩ := mn
  obtain ⟨hs, m1, n2⟩ := lk_some el
  obtain ⟨pt, hv, hpt⟩ := T.h_SHAPES.y _ _ _ hs
  have es : shp t = (decide (r.length = m + n) && (r.take m).all isMk && (r.drop m).all Tr.tup) := by
    unfold shp; rw [ei]; show (match lk x with | some (m, n) => _ | none => false) = _; rw [el]
  rw [hv]
  refine iteF ?_
  have lr := pd_len c2
  refine ⟨_, rfl, p, _, 0, _, rfl, rfl, SqT.of c1, at0, x, .ref pt, .ref pt, rfl, rfl, hv, rfl, ?_⟩
  refine ⟨_, rfl, p, _, rfl, .inr (SqT.of c1), _, rfl, pt, _, 0, _, rfl, rfl, hpt H, at0, 1, _, rfl, rfl, _, rfl, pt, _, 1, _, rfl, rfl, hpt H, at1, _, _, rfl, rfl, rfl, _, rfl, ite2 (fun c => ?_) (fun c => ?_)⟩
  · have nl : r.length ≠ m + n := by
      intro z
      have z2 : V.int ((V.str x :: us).length : Nat) = V.int (1 + (m : Int) + (n : Int)) := by
        congr 1
        rw [List.length_cons, ← lr, z]
        omega
      have c' : (!decide (V.int ((V.str x :: us).length : Nat) = V.int (1 + (m : Int) + (n : Int)))) = true := c
      rw [decide_eq_true z2] at c'
      cases c'
    rw [es, decide_eq_false nl] at q
    exact q H (Same.refl _)
  have zl : r.length = m + n := by
    have c' : ¬ (!decide (V.int ((V.str x :: us).length : Nat) = V.int (1 + (m : Int) + (n : Int)))) = true := c
    cases hd : decide (V.int ((V.str x :: us).length : Nat) = V.int (1 + (m : Int) + (n : Int))) with
    | false => rw [hd] at c'; exact absurd rfl c'
    | true =>
      have := of_decide_eq_true hd
      injection this with this
      rw [List.length_cons, ← lr] at this
      omega
  rw [decide_eq_true zl, Bool.true_and] at es
  have lu : us.length = m + n := lr.symm.trans zl
  refine ⟨_, rfl, p, x, m, n, us, rfl, c1, hs, lu, fun b hb => ?_⟩
  have g1 := Same.new hb (.tup (us.take m))
  have pT := pdTake m c2
  have pD := pdDrop m c2
  refine ⟨b, rfl, ⟨_, SqT.of upd_same⟩, lc_relT (xs := us.take m) (fun z v => v = .bl (mkV z)) (SqT.of upd_same) (by rw [List.length_take]; exact Nat.le_of_lt (small1000 (by omega))) ?_ (mono1 mono_markX) ?_⟩
  · intro i z H' hx g
    obtain ⟨tz, _, iz⟩ := pd_ta pT hx
    exact ⟨_, rfl, tz, z, rfl, iz.mono (Tups.of (g1.trans g)), by rw [iz.mk], g⟩
  intro ys H' p2 hr' g hp2
  have e := pd_map (f := fun z => .bl (mkV z)) hr'
  have e2 : ys = ((us.take m).map mkV).map V.bl := by rw [e, List.map_map]; rfl
  subst e2
  have g2 := Same.new hp2 (.lst (((us.take m).map mkV).map V.bl))
  have gg := (g1.trans g).trans g2
  have ea : ((us.take m).map mkV).all id = (r.take m).all isMk := (all_bl _ _).trans (pd_all (fun _ _ z => z.mk) pT).symm
  refine ⟨p2, _, rfl, SqL.of upd_same, _, rfl, ?_⟩
  rw [ea]
  cases hm : (r.take m).all isMk with
  | false =>
    refine iteT ?_
    rw [es, hm] at q
    exact q _ gg
  | true =>
  refine iteF ?_
  rw [hm, Bool.true_and] at es
  have c1' := gg _ _ c1
  refine ⟨_, rfl, p, x, m, n, us, rfl, c1', hs, lu, fun b3 hb3 => ?_⟩
  have g3 := Same.new hb3 (.tup (us.drop m))
  refine ⟨b3, rfl, ⟨_, SqT.of upd_same⟩, lc_relT (xs := us.drop m) (fun z v => v = .bl (tuV z)) (SqT.of upd_same) (by rw [List.length_drop]; exact Nat.le_of_lt (small1000 (by omega))) ?_ ?_ ?_⟩
  · intro i z H4 hx g4
    obtain ⟨tz, _, iz⟩ := pd_ta pD hx
    cases e5 : tz.tup with
    | true =>
      obtain ⟨pz, rfl⟩ := iz.tup e5
      obtain ⟨ws, d1, _⟩ := iz.cut
      have d1' := ((gg.trans g3).trans g4) _ _ d1
      exact ⟨_, rfl, _, _, _, true, rfl, .tup d1', rfl, rfl, g4⟩
    | false =>
      obtain ⟨y, rfl, rfl⟩ := iz.str e5
      exact ⟨_, rfl, _, _, _, false, rfl, .str y, rfl, rfl, g4⟩
  · rintro σ' H' Q1 Q2 hQ ⟨v, e, x, T', t, b', h1, h2, h3, h4⟩
    exact ⟨v, e, x, T', t, b', h1, h2, h3, hQ _ _ h4⟩
  · intro ys H4 p4 hr4 g4 hp4
    have e := pd_map (f := fun z => .bl (tuV z)) hr4
    have e2 : ys = ((us.drop m).map tuV).map V.bl := by rw [e, List.map_map]; rfl
    subst e2
    have ea : ((us.drop m).map tuV).all id = (r.drop m).all Tr.tup := (all_bl _ _).trans (pd_all (fun _ _ z => z.tu) pD).symm
    refine ⟨p4, _, rfl, SqL.of upd_same, ?_⟩
    rw [ea, ← es]
    exact q _ (((gg.trans g3).trans g4).trans (Same.new hp4 _))
theorem ok_parts_of_allX (T : Txt P w K mg a) (G_parts_of : FnOk P w K mg base CX0 k a.a_parts_of a.d_parts_of p_parts_of spPartsOf) : FnOk P w K mg base CX0 (k + 1) a.a_parts_of_all a.d_parts_of_all p_parts_of_all (spPartsAllX K) := by
  refine T.f_parts_of_all.F.ok sc_parts_of_all (fun vs H Q E h => ?_) (fun cdv A outer s H vs Q E hr h => ?_)
  · obtain ⟨l, ss, ps, rfl, _⟩ := h
    rfl
  obtain ⟨l, ss, ps, rfl, hl, hp, hsh, hz, q⟩ := h
  refine ⟨_, (pss_cons (ps_setA 1 sc_parts_of_all.nd (pe_lst pa_nil))
      (pss_cons (ps_for PassesOwn.never rfl (pi_list (pv 0)) (pg_name (i := 2) sc_parts_of_all.nd rfl (Or.inl rfl)) (pss_one (ps_expr (pe_bm PySem.F.plainAttrs_list PySem.F.slot_list_extend PySem.F.type_list_extend mt_extendT (pv 1) (pa_cons (pe_callD G_parts_of hr T.f_parts_of (pa_cons (pv 2) pa_nil)) pa_nil)))))
      (pss_one (ps_ret (pv 1))))), ?_⟩
  have pl := pd_len hp
  refine ⟨by show 0 ≤ sizeLine; decide, fun f hf => ?_⟩
  have g0 := Same.new hf (.lst [])
  refine ⟨_, rfl, l, rfl, ⟨_, g0.seq hl⟩, ?_⟩
  refine for_list (xs := ps.map V.ref) (fun i σ H' => ∃ (qs : List Addr) (f1 : Option V), Same H H' ∧ H' f = some (.lst (qs.map V.ref)) ∧ Paired (fun t p => IsT H' t (.ref p)) ((ss.take i).flatMap pts) qs ∧ qs.length ≤ 2 * i ∧ i ≤ ss.length ∧ σ = [some (.ref l), some (.ref f), f1])
    ⟨[], _, g0, upd_same, .nil, by simp, Nat.zero_le _, rfl⟩ ?_ ?_ ?_
  · rintro i σ H' _ ⟨qs, f1, g, _⟩
    exact g.seq hl
  · rintro i x σ H' hx ⟨qs, f1, g, hf', hqs, lq, li, rfl⟩
    rw [List.getElem?_map] at hx
    cases ho : ps[i]? with
    | none => rw [ho] at hx; cases hx
    | some p =>
      rw [ho] at hx
      cases hx
      obtain ⟨sn, hsn, isp0⟩ := pd_ta hp ho
      have isp := isp0.mono (Tups.of g)
      have hlt := (List.getElem?_eq_some_iff.mp hsn).1
      obtain ⟨x, m, n, r, ei, el, lr, _, tu, ep⟩ := shp_cut (List.all_eq_true.mp hsh sn (List.mem_of_getElem? hsn))
      obtain ⟨hs, m1, n2⟩ := lk_some el
      obtain ⟨vs, c1, c2⟩ := isp.cut
      rw [ei] at c2
      cases c2 with
      | @cons _ v0 _ us h0 c2 =>
      cases h0
      have lu := pd_len c2
      obtain ⟨zs, ez, pz⟩ := pd_refs (pdDrop m c2) tu
      have lz := pd_len pz
      rw [List.length_drop] at lz
      refine ⟨_, rfl, .inl ⟨rfl, _, SqL.of hf'⟩, _, rfl, p, x, m, n, us, rfl, c1, hs, by omega, fun b hb => ?_⟩
      rw [ez]
      have nfb : f ≠ b := ne_of_none hf' hb
      have hf2 : (upd H' b (.tup (zs.map V.ref))) f = some (.lst (qs.map V.ref)) := by rw [upd_ne nfb]; exact hf'
      refine ⟨f, b, qs.map V.ref, zs.map V.ref, rfl, rfl, hf2, ?_, ?_, ?_⟩
      · exact SqT.of upd_same
      · rw [List.length_map, List.length_map]
        exact Nat.le_of_lt (small1000 (by omega))
      · refine ⟨qs ++ zs, _, (g.trans (Same.new hb _)).over hf _, by rw [upd_same, List.map_append], ?_, ?_, hlt, rfl⟩
        · rw [take_next hsn, List.flatMap_append, List.flatMap_singleton, ep]
          have t1 : Tups H' (upd (upd H' b (.tup (zs.map V.ref))) f (.lst (qs.map V.ref ++ zs.map V.ref))) := (Tups.new hb _).trans (Tups.lst hf2 _)
          exact pd_app (pd_imp (fun _ _ z => z.mono t1) hqs) (pd_imp (fun _ _ z => z.mono t1) pz)
        · rw [List.length_append]; omega
  · rintro σ H' ⟨qs, f1, g, hf', hqs, lq, li, rfl⟩
    rw [List.length_map, ← pl, List.take_length] at hqs
    exact ⟨_, rfl, q f H' qs g hf hf' hqs⟩
theorem ok_is_sentenceX (T : Txt P w K mg a) (G_is_shaped : FnOk P w K mg base CX0 k a.a_is_shaped a.d_is_shaped p_is_shaped spShapedX) (G_parts_of_all : FnOk P w K mg base CX0 k a.a_parts_of_all a.d_parts_of_all p_parts_of_all (spPartsAllX K)) :
    FnOk P w K mg base CX0 (k + 1) a.a_is_sentence a.d_is_sentence p_is_sentence spIsSenX := by
  refine T.f_is_sentence.F.ok sc_is_sentence (fun vs H Q E h => ?_) (fun cdv A outer s H vs Q E hr h => ?_)
  · obtain ⟨p, t, rfl, _⟩ := h
    rfl
  obtain ⟨p, t0, rfl, ht, q⟩ := h
  refine ⟨_, (pss_cons (ps_setA 1 sc_is_sentence.nd (pe_lst (pa_cons (pv 0) pa_nil)))
      (pss_cons (ps_setA 2 sc_is_sentence.nd pe_int)
      (pss_cons (ps_setA 3 sc_is_sentence.nd pe_int)
      (pss_cons (ps_while PassesOwn.never (pt_cmpR op_gt (pe_callB call_len_seq rfl T.n_len bt_len (pa_cons (pv 1) pa_nil)) pe_int (nomark _)) (pss_cons (ps_aug (i := 2) sc_is_sentence.nd rfl (Or.inl rfl) pe_int iop_add)
      (pss_cons (ps_aug (i := 3) sc_is_sentence.nd rfl (Or.inl rfl) (pe_callB call_len_seq rfl T.n_len bt_len (pa_cons (pv 1) pa_nil)) iop_add)
      (pss_cons (ps_if (PW.pt (pw_or (pt_cmpR op_gt (pv 2) (pe_glob (v := .int 24) rfl T.m_MOST_DEEP ⟨_, rfl⟩) (nomark _)) (pw_or1 (pt_cmpR op_gt (pv 3) (pe_glob (v := .int 200) rfl T.m_MOST_TUPLES ⟨_, rfl⟩) (nomark _))))) (pss_one (ps_ret pe_bl)) pss_nil)
      (pss_cons (ps_if (pt_not (pt_truth (pe_callB (call_all rfl) rfl T.n_all bt_all (pa_cons (pe_lc0 (osc := defScope S_is_sentence) (js := []) rfl (by show LcOk _ _ "part" []; exact lco (by decide +kernel)) rfl (pi_list (pv 1)) (by show ∀ j ∈ ([] : List Nat), j < 4; decide) (fun cl C s₂ H₂ fp => (pe_callD G_is_shaped hr T.f_is_shaped (pa_cons (pv 0) pa_nil)))) pa_nil)) (fun _ => rfl))) (pss_one (ps_ret pe_bl)) pss_nil)
      (pss_one (ps_setA 1 sc_is_sentence.nd (pe_callD G_parts_of_all hr T.f_parts_of_all (pa_cons (pv 1) pa_nil)))))))))
      (pss_one (ps_ret pe_bl)))))), ?_⟩
  refine ⟨_, rfl, by show 1 ≤ sizeLine; decide, fun l0 hl0 => ?_⟩
  have g0 := Same.new hl0 (.lst [.ref p])
  refine ⟨fun m σ H' => ∃ (ss : List Tr) (ps : List Addr) (l : Addr) (d t : Nat), d + m = 24 ∧ Same H H' ∧ H' l = some (.lst (ps.map V.ref)) ∧ Paired (fun t p => IsT H' t (.ref p)) ss ps ∧ lev m t ss = lev 24 0 [t0] ∧ σ = [some (.ref p), some (.ref l), some (.int d), some (.int t)],
    ⟨24, [t0], [p], l0, 0, 0, rfl, g0, upd_same, .cons (ht.mono (Tups.of g0)) .nil, rfl, rfl⟩, ?_⟩
  rintro m σ H' ⟨ss, ps, l, d, t, hdm, g, hl, hp, hlv, rfl⟩
  have lp := pd_len hp
  have le : (ps.map V.ref).length = ss.length := by rw [List.length_map]; exact lp.symm
  rw [← hlv] at q
  refine ⟨_, rfl, l, _, rfl, .inl (SqL.of hl), _, _, rfl, rfl, _, rfl, ite2 (fun c => ?_) (fun c => ?_)⟩
  · have c' : 0 < ss.length := by have := of_decide_eq_true c; rw [le] at this; omega
    have ne : ss.isEmpty = false := by cases ss with | nil => exact absurd c' (Nat.lt_irrefl _) | cons _ _ => rfl
    refine ⟨_, fun σ' H2 h => h, ?_⟩
    refine ⟨_, rfl, (d : Int), 1, rfl, rfl, ?_⟩
    refine ⟨_, rfl, _, rfl, l, _, rfl, .inl (SqL.of hl), (t : Int), _, rfl, rfl, ?_⟩
    refine ⟨_, rfl, _, _, rfl, rfl, _, rfl, ite2 (fun c2 => ?_) (fun c2 => ?_)⟩
    · have := of_decide_eq_true c2
      have m0 : m = 0 := by omega
      subst m0
      have z : lev 0 t ss = false := ne
      rw [z] at q
      exact q _ g
    have d24 : ¬ (24 : Int) < (d : Int) + 1 := fun z => c2 (decide_eq_true z)
    obtain ⟨m, rfl⟩ : ∃ m', m = m' + 1 := ⟨m - 1, by omega⟩
    have ev : lev (m + 1) t ss = (decide (t + ss.length ≤ 200) && ss.all shp && lev m (t + ss.length) (ss.flatMap pts)) := by
      show (ss.isEmpty || _) = _
      rw [ne, Bool.false_or]
    refine ⟨_, rfl, _, _, rfl, rfl, _, rfl, ite2 (fun c3 => ?_) (fun c3 => ?_)⟩
    · have := of_decide_eq_true c3
      rw [le] at this
      rw [ev, decide_eq_false (by omega)] at q
      exact q _ g
    have t200 : t + ss.length ≤ 200 := by
      have z : ¬ (200 : Int) < (t : Int) + ((ps.map V.ref).length : Nat) := fun z => c3 (decide_eq_true z)
      rw [le] at z
      omega
    rw [decide_eq_true t200, Bool.true_and] at ev
    refine ⟨_, rfl, l, rfl, ⟨_, SqL.of hl⟩, lc_list (xs := ps.map V.ref) (fun i ys H2 => Same H' H2 ∧ ys = ((ss.take i).map shp).map V.bl) ⟨Same.refl _, rfl⟩ (by rw [le]; exact Nat.le_of_lt (small1000 (by omega))) ?_ ?_ (fun _ _ _ _ h q => h _ _ q) (mono1 mono_shapedX) ?_⟩
    · rintro i ys H2 hi ⟨g2, rfl⟩
      rw [List.length_map, List.length_map, List.length_take]
      exact ⟨g2.seq (SqL.of hl), by omega⟩
    · rintro i x ys H2 hx ⟨g2, rfl⟩
      rw [List.getElem?_map] at hx
      cases ho : ps[i]? with
      | none => rw [ho] at hx; cases hx
      | some y =>
        rw [ho] at hx
        cases hx
        obtain ⟨sy, hsy, iy⟩ := pd_ta hp ho
        refine ⟨_, rfl, y, sy, rfl, iy.mono (Tups.of g2), fun H3 g3 => ⟨g2.trans g3, ?_⟩⟩
        rw [take_next hsy, List.map_append, List.map_append]
        rfl
    rintro ys H2 p2 ⟨g2, rfl⟩ hp2
    have g3 := Same.new hp2 (.lst (((ss.take (ps.map V.ref).length).map shp).map V.bl))
    have ea : ((ss.take (ps.map V.ref).length).map shp).all id = ss.all shp := by rw [le, List.take_length, List.all_map]; rfl
    have gg := g2.trans g3
    refine ⟨p2, _, rfl, SqL.of upd_same, _, rfl, ?_⟩
    rw [ea]
    cases hs : ss.all shp with
    | false =>
      refine iteT ?_
      rw [ev, hs] at q
      exact q _ (g.trans gg)
    | true =>
    refine iteF ?_
    rw [hs, Bool.true_and] at ev
    refine ⟨_, rfl, l, ss, ps, rfl, gg.seq (SqL.of hl), pd_imp (fun _ _ z => z.mono (Tups.of gg)) hp, hs, by omega, fun l' H4 ps' g4 hn hl' hp' => ?_⟩
    refine ⟨m, Nat.lt_succ_self _, ss.flatMap pts, ps', l', d + 1, t + (ps.map V.ref).length, by omega, (g.trans gg).trans g4, hl', hp', ?_, rfl⟩
    rw [le, ← ev]
    exact hlv
  · have e0 : ss = [] := by
      have z : ¬ (0 : Int) < ((ps.map V.ref).length : Nat) := fun z => c (decide_eq_true z)
      rw [le] at z
      exact List.length_eq_zero_iff.mp (by omega)
    subst e0
    have z : lev m t [] = true := by cases m <;> rfl
    rw [z] at q
    exact q _ g
end
end K03
namespace K03
open PySem L2 Sen
section
variable {P : Program} {w : World} {K : PySem.W.Frag} {mg : Str → Option Value} {base : Heap} {a : Ad} {k : Nat}
theorem ok_written_step {d : Nat} (T : Txt P w K mg a) (G_letters_of : FnOk P w K mg base CX0 k a.a_letters_of a.d_letters_of p_letters_of spLettersOf) (G_parts_of : FnOk P w K mg base CX0 k a.a_parts_of a.d_parts_of p_parts_of spPartsOf)
    (G_written : FnOk P w K mg base CX0 k a.a_written a.d_written p_written (spWritten d)) : FnOk P w K mg base CX0 (k + 1) a.a_written a.d_written p_written (spWritten (d + 1)) := by
  refine T.f_written.F.ok sc_written (fun vs H Q E h => ?_) (fun cdv A outer s H vs Q E hr h => ?_)
  · obtain ⟨p, sn, rfl, _⟩ := h
    rfl
  obtain ⟨p, sn, rfl, isp, hin, hc, hd, q⟩ := h
  refine ⟨_, (pss_cons (ps_if (pt_cmpR op_eq (pe_ix ix_tup (pv 0) pe_int (fun _ _ => rfl)) pe_str (nomark _)) (pss_one (ps_ret (pe_ix ix_tup (pv 0) pe_int (fun _ _ => rfl)))) pss_nil)
      (pss_cons (ps_setA 1 sc_written.nd (pe_bm PySem.F.plainAttrs_str PySem.F.slot_str_join PySem.F.type_str_join (mt_joinS (K := K) rfl) pe_str (pa_cons (pe_op (op_addT (K := K) rfl) (pe_tup (pa_cons (pe_ix ix_tup (pv 0) pe_int (fun _ _ => rfl)) pa_nil)) (pe_callD G_letters_of hr T.f_letters_of (pa_cons (pv 0) pa_nil))) pa_nil)))
      (pss_cons (ps_setLC (tt := tYes) (i := 2) sc_written.nd rfl (Or.inl rfl) (.inl rfl) (osc := defScope S_written) (js := []) rfl (by show LcOk _ _ "part" []; exact lco (by decide +kernel)) rfl (pi_tup (pe_callD G_parts_of hr T.f_parts_of (pa_cons (pv 0) pa_nil))) (by show ∀ j ∈ ([] : List Nat), j < 4; decide) (fun cl C s₂ H₂ fp pins s' σ' H' Q I h => wpAny_pure ⟨H', I, h⟩) (fun cl C s₂ H₂ fp => (pe_callD G_written hr T.f_written (pa_cons (pv 0) pa_nil))) rfl)
      (pss_cons (ps_if (pt_cmpR op_eq (pe_callB call_len_seq rfl T.n_len bt_len (pa_cons (pv 2) pa_nil)) pe_int (nomark _)) (pss_one (ps_ret (pv 1))) pss_nil)
      (pss_cons (ps_setA 3 sc_written.nd (pe_bm PySem.F.plainAttrs_str PySem.F.slot_str_join PySem.F.type_str_join (mt_joinS (K := K) rfl) pe_str (pa_cons (pv 2) pa_nil)))
      (pss_one (ps_ret (pe_fstG (pxs_cons3 (px_text3 (pv 1)) (pxs_cons3 px_str3 (pxs_cons3 (px_text3 (pv 3)) (pxs_cons3 px_str3 pxs_nil3)))))))))))), ?_⟩
  obtain ⟨zs, c1, c2, c3, c4, c5⟩ := sen_cut isp
  have lz := pd_len c2
  have lp2 := Sn.parts_le sn
  have hcp : sn.count = 1 + cnt sn.parts := Sn.count_parts sn
  by_cases hm : ∃ x, sn = .mk x
  · obtain ⟨x, rfl⟩ := hm
    have isp' : H p = some (.tup [.str "mark", .str x]) := isp
    refine ⟨_, rfl, p, _, 0, _, rfl, rfl, SqT.of isp', at0, rfl, _, rfl, ite2 (fun _ => ?_) (fun c => absurd (decide_eq_true rfl) c)⟩
    exact ⟨_, rfl, p, _, 1, _, rfl, rfl, SqT.of isp', at1, q _ (Same.refl _)⟩
  have nm := word_mark fun x hx => hm ⟨x, hx⟩
  refine ⟨_, rfl, p, _, 0, _, rfl, rfl, SqT.of c1, at0, rfl, _, rfl, ite2 (fun c => absurd (of_decide_eq_true c) (fun z => nm (by injection z))) (fun _ => ?_)⟩
  have hle := Sn.inO_letters sn hin
  have hh := hd_len sn hle
  refine ⟨rfl, _, rfl, p, _, 0, _, rfl, rfl, SqT.of c1, at0, by show 1 ≤ sizeLine; decide, fun p1 hp1 => ?_⟩
  have g1 := Same.new hp1 (.tup [.str sn.word])
  refine ⟨_, rfl, p, sn.word, sn.letters.length, sn.parts.length, _, rfl, g1 _ _ c1, shape_in sn, c3, fun b hb => ?_⟩
  rw [c4]
  have g1b := Same.new hb (.tup (sn.letters.map V.str))
  have e1 : upd (upd H p1 (.tup [.str sn.word])) b (.tup (sn.letters.map V.str)) p1 = some (.tup [.str sn.word]) := g1b _ _ upd_same
  have e2 : upd (upd H p1 (.tup [.str sn.word])) b (.tup (sn.letters.map V.str)) b = some (.tup (sn.letters.map V.str)) := upd_same
  have g2 := g1.trans g1b
  generalize upd (upd H p1 (.tup [.str sn.word])) b (.tup (sn.letters.map V.str)) = H2 at g2 e1 e2 ⊢
  clear g1b g1 hb
  have ls := Sn.letters_le sn
  refine ⟨p1, b, [.str sn.word], sn.letters.map V.str, rfl, rfl, SqT.of e1, SqT.of e2, List.cons_ne_nil _ _, by rw [List.length_map]; exact Nat.le_of_lt (small1000 (show 1 + sn.letters.length ≤ 1000 by omega)), fun e => ⟨" ", p1, sn.word :: sn.letters, rfl, rfl, .inr (by rw [List.map_eq_nil_iff.mp e]; exact SqT.of e1), by omega, ?_⟩, fun _ l hl => ⟨" ", l, sn.word :: sn.letters, rfl, rfl, .inr (SqT.of upd_same), by omega, ?_⟩⟩
  rotate_left
  replace g2 := g2.trans (Same.new hl (.tup ([.str sn.word] ++ sn.letters.map V.str)))
  clear e1 e2
  generalize upd H2 l (.tup ([.str sn.word] ++ sn.letters.map V.str)) = H2 at g2 ⊢
  all_goals
    refine ⟨_, rfl, p, sn.word, sn.letters.length, sn.parts.length, _, rfl, g2 _ _ c1, shape_in sn, c3, fun b0 hb0 => ?_⟩
    rw [c5]
    have g3 := g2.trans (Same.new hb0 (.tup (zs.map V.ref)))
    refine ⟨b0, rfl, ⟨_, SqT.of upd_same⟩, lc_tup (xs := zs.map V.ref) (fun i ys H' => Same (upd H2 b0 (.tup (zs.map V.ref))) H' ∧ ys = ((sn.parts.take i).map wrt).map V.str) ⟨Same.refl _, rfl⟩ (by rw [List.length_map]; exact Nat.le_of_lt (small1000 (by omega))) ?_ ?_ (fun _ _ _ _ h q => h _ _ q) (mono1 (mono_written d)) ?_⟩
    · rintro i ys H' hi ⟨g, rfl⟩
      rw [List.length_map, List.length_map, List.length_take]
      exact ⟨g.seqT (SqT.of upd_same), by omega⟩
    · rintro i x ys H' hx ⟨g, rfl⟩
      rw [List.getElem?_map] at hx
      cases ho : zs[i]? with
      | none => rw [ho] at hx; cases hx
      | some y =>
        rw [ho] at hx
        cases hx
        obtain ⟨t, ht, it⟩ := pd_ta c2 ho
        have htm := List.mem_of_getElem? ht
        have dp := Sn.depth_parts sn t htm
        have ct := part_count htm
        refine ⟨_, rfl, y, t, rfl, it.mono (Tups.of (g3.trans g)), Sn.inO_parts sn hin t htm, by omega, by omega, fun H4 g4 => ⟨g.trans g4, ?_⟩⟩
        rw [take_next ht, List.map_append, List.map_append]
        rfl
    rintro ys H' p2 ⟨g, rfl⟩ hp2
    have el : (zs.map V.ref).length = sn.parts.length := by rw [List.length_map]; exact lz.symm
    rw [el, List.take_length]
    have g5 := (g3.trans g).trans (Same.new hp2 (.lst ((sn.parts.map wrt).map V.str)))
    refine ⟨_, rfl, p2, _, rfl, .inl (SqL.of upd_same), rfl, _, rfl, ite2 (fun c => ?_) (fun c => ?_)⟩
    · have c' := of_decide_eq_true c
      injection c' with c'
      rw [List.length_map, List.length_map] at c'
      have e0 : wrt sn = Str.join " " (sn.word :: sn.letters) := by
        cases sn with
        | c0 y => rfl
        | mk x => exact absurd ⟨x, rfl⟩ hm
        | nt s => exact absurd c' (by show ¬ ((1 : Nat) : Int) = 0; decide)
        | b2 o s t => exact absurd c' (by show ¬ ((2 : Nat) : Int) = 0; decide)
        | q1 o x s => exact absurd c' (by show ¬ ((1 : Nat) : Int) = 0; decide)
      rw [e0] at q
      exact ⟨_, rfl, q _ g5⟩
    · have ne : sn.parts ≠ [] := fun z => c (decide_eq_true (by rw [z]; rfl))
      have jp := jl_parts (ss := sn.parts) (fun t ht => Sn.inO_parts sn hin t ht)
      have jn := jl_len ", " (sn.parts.map wrt)
      refine ⟨rfl, _, rfl, ", ", p2, sn.parts.map wrt, rfl, rfl, .inl (SqL.of upd_same), by omega, ?_⟩
      rw [wrt_gen ne] at q
      exact ⟨_, rfl, _, rfl, by omega, _, rfl, _, rfl, by omega, q _ g5⟩
end
end K03
namespace K03
open PySem L2 Sen
section
variable {P : Program} {w : World} {K : PySem.W.Frag} {mg : Str → Option Value} {base : Heap} {a : Ad} {k : Nat}
theorem ok_written (T : Txt P w K mg a) (G_letters_of : FnOk P w K mg base CX0 k a.a_letters_of a.d_letters_of p_letters_of spLettersOf) (G_parts_of : FnOk P w K mg base CX0 k a.a_parts_of a.d_parts_of p_parts_of spPartsOf) : ∀ d : Nat, FnOk P w K mg base CX0 (k + d) a.a_written a.d_written p_written (spWritten d)
  | 0 => by
    refine ⟨fun vs H Q E h => ?_, fun A outer s H args us vs Q E _ _ _ _ h => ?_⟩
    · obtain ⟨p, sn, rfl, _⟩ := h
      rfl
    · obtain ⟨p, sn, _, _, _, _, hd, _⟩ := h
      have := Sn.depth_pos sn
      omega
  | d + 1 => ok_written_step T (G_letters_of.mono (Nat.le_add_right _ _)) (G_parts_of.mono (Nat.le_add_right _ _)) (ok_written T G_letters_of G_parts_of d)
theorem ok_shown (T : Txt P w K mg a) (G_must_be_sentence : FnOk P w K mg base CX0 k a.a_must_be_sentence a.d_must_be_sentence p_must_be_sentence spMustSen) (G_written : FnOk P w K mg base CX0 k a.a_written a.d_written p_written (spWritten 24)) : FnOk P w K mg base CX0 (k + 1) a.a_shown a.d_shown p_shown (spWritten 24) := by
  refine T.f_shown.F.ok sc_shown (fun vs H Q E h => ?_) (fun cdv A outer s H vs Q E hr h => ?_)
  · obtain ⟨p, sn, rfl, _⟩ := h
    rfl
  obtain ⟨p, sn, rfl, isp, hin, hc, hd, q⟩ := h
  refine ⟨_, (pss_cons (ps_expr (pe_callD G_must_be_sentence hr T.f_must_be_sentence (pa_cons (pv 0) pa_nil)))
      (pss_one (ps_ret (pe_callD G_written hr T.f_written (pa_cons (pv 0) pa_nil))))), ?_⟩
  exact ⟨_, rfl, p, sn, rfl, isp, hin, hc, hd, fun H1 g1 => ⟨_, rfl, p, sn, rfl, isp.mono (Tups.of g1), hin, hc, hd, fun H' g => q _ (g1.trans g)⟩⟩
end
end K03
namespace K03
open PySem L2 Sen
section
variable {P : Program} {w : World} {K : PySem.W.Frag} {mg : Str → Option Value} {base : Heap} {a : Ad} {k : Nat}
theorem ok_cell_at (T : Txt P w K mg a) : FnOk P w K mg base CX0 (k + 1) a.a_x_law_cell_at a.d_x_law_cell_at p_x_law_cell_at (spCellAt K) := by
  refine T.f_x_law_cell_at.F.ok sc_x_law_cell_at (fun vs H Q E h => ?_) (fun cdv A outer s H vs Q E hr h => ?_)
  · obtain ⟨l, ns, i, rfl, _⟩ := h
    rfl
  obtain ⟨l, ns, i, rfl, hS, h0, q⟩ := h
  refine ⟨_, (pss_cons (ps_if (pt_cmpR op_lt (pv 1) (pe_callB call_len_seq rfl T.n_len bt_len (pa_cons (pv 0) pa_nil)) (nomark _)) (pss_one (ps_ret (pe_ix ix_list (pv 0) (pv 1) (fun _ _ => rfl)))) pss_nil)
      (pss_one (ps_ret pe_int))), ?_⟩
  refine ⟨_, rfl, _, rfl, l, _, rfl, .inl hS, _, _, rfl, rfl, _, rfl, ?_⟩
  refine ite2 (fun c => ?_) (fun c => ?_)
  · have c' : i < (((ns.map V.int).length : Nat) : Int) := of_decide_eq_true c
    rw [List.length_map] at c'
    have hi : i.toNat < ns.length := by omega
    have e : atI (ns.map V.int) i = some (.int ns[i.toNat]) := by
      have q := atI_nat (xs := ns.map V.int) (j := i.toNat) (v := .int ns[i.toNat]) (by rw [List.getElem?_map, List.getElem?_eq_getElem hi]; rfl)
      have ei : ((i.toNat : Nat) : Int) = i := by omega
      rw [ei] at q
      exact q
    exact ⟨_, rfl, _, rfl, l, _, i, _, rfl, rfl, hS, e, q _⟩
  · exact q 0
theorem ok_draw (T : Txt P w K mg a) : FnOk P w K mg base CX0 (k + 1) a.a_x_law_draw a.d_x_law_draw p_x_law_draw spDraw := by
  refine T.f_x_law_draw.F.ok sc_x_law_draw (fun vs H Q E h => ?_) (fun cdv A outer s H vs Q E hr h => ?_)
  · obtain ⟨c, m, b, rfl, _⟩ := h
    rfl
  obtain ⟨c, m, b, rfl, hm, b0, b1, q⟩ := h
  refine ⟨_, (pss_cons (ps_if (pt_cmpR op_ge (pv 0) (pe_op op_pow pe_int pe_int) (nomark _)) (pss_cons (ps_setA 4 sc_x_law_draw.nd (pv 0))
      (pss_cons (ps_for PassesOwn.never rfl (pi_range1 rfl T.n_range (pa_cons (pv 1) pa_nil)) (pg_name (i := 5) sc_x_law_draw.nd rfl (Or.inl rfl)) (pss_one (ps_setA 4 sc_x_law_draw.nd (pe_op op_fdiv (pv 4) (pv 2)))))
      (pss_one (ps_ret (pe_op op_mod (pv 4) (pv 2)))))) pss_nil)
      (pss_cons (ps_setA 3 sc_x_law_draw.nd (pe_op op_mod (pe_op op_mul (pe_op op_add (pe_op op_add (pe_op op_mod (pv 0) pe_int) (pe_op op_mul pe_int (pv 1))) pe_int) pe_int) pe_int))
      (pss_cons (ps_setA 3 sc_x_law_draw.nd (pe_op op_mod (pe_op op_add (pe_op op_add (pe_op op_mul (pv 3) (pv 3)) (pe_op op_mul pe_int (pv 1))) pe_int) pe_int))
      (pss_one (ps_ret (pe_op op_mod (pe_op op_fdiv (pe_op op_mod (pe_op op_mul (pv 3) pe_int) pe_int) pe_int) (pv 2))))))), ?_⟩
  refine ⟨_, rfl, 10, 18, rfl, rfl, ⟨by decide, by decide, by decide⟩, _, _, rfl, rfl, _, rfl, ?_⟩
  refine ite2 (fun _ => ?_) (fun _ => ?_)
  · refine ⟨_, rfl, ?_⟩
    refine ⟨_, rfl, (m : Int), rfl, by omega, by omega, ?_⟩
    refine for_range (fun i σ H' => H' = H ∧ ∃ (x : Int) (f1 f2 : Option V), σ = [some (.int c), some (.int m), some (.int b), f1, some (.int x), f2]) ⟨rfl, c, _, _, rfl⟩ ?_ ?_
    · rintro i σ H' hi ⟨rfl, x, f1, f2, rfl⟩
      refine ⟨_, rfl, _, rfl, x, b, rfl, rfl, ⟨b0, b1⟩, ?_⟩
      exact ⟨rfl, x / b, _, _, rfl⟩
    · rintro σ H' ⟨rfl, x, f1, f2, rfl⟩
      refine ⟨_, rfl, _, rfl, x, b, rfl, rfl, b0, ?_⟩
      exact q _ (Int.emod_nonneg _ (by omega)) (Int.emod_lt_of_pos _ b0)
  · have p1 : (0 : Int) < 1000000007 := by decide
    have p2 : (0 : Int) < 2147483647 := by decide
    have p3 : (0 : Int) < 2147483629 := by decide
    refine ⟨_, rfl, c, 1000000007, rfl, rfl, p1, _, rfl, 1009, (m : Int), rfl, rfl, .inl ⟨by decide, by decide⟩, _, _, rfl, rfl, _, 17, rfl, rfl, _, 69621, rfl, rfl, .inr ⟨by decide, by decide⟩, _, 2147483647, rfl, rfl, p2, ?_⟩
    have z0 : 0 ≤ (c % 1000000007 + 1009 * (m : Int) + 17) * 69621 % 2147483647 := Int.emod_nonneg _ (by decide)
    have z1 : (c % 1000000007 + 1009 * (m : Int) + 17) * 69621 % 2147483647 < 2147483647 := Int.emod_lt_of_pos _ p2
    refine ⟨_, rfl, _, rfl, _, _, rfl, rfl, .inl ⟨Int.lt_of_lt_of_le (by decide) z0, Int.lt_trans z1 (by decide)⟩, _, rfl, 40503, (m : Int), rfl, rfl, .inl ⟨by decide, by decide⟩, _, _, rfl, rfl, _, 5, rfl, rfl, _, 2147483629, rfl, rfl, p3, ?_⟩
    refine ⟨_, rfl, _, 48271, rfl, rfl, .inr ⟨by decide, by decide⟩, _, 2147483647, rfl, rfl, p2, _, 32, rfl, rfl, ⟨by decide, by decide⟩, _, rfl, _, b, rfl, rfl, b0, ?_⟩
    exact q _ (Int.emod_nonneg _ (by omega)) (Int.emod_lt_of_pos _ b0)
theorem ok_sentence (T : Txt P w K mg a) (G_x_law_cell_at : FnOk P w K mg base CX0 k a.a_x_law_cell_at a.d_x_law_cell_at p_x_law_cell_at (spCellAt K)) (G_x_law_draw : FnOk P w K mg base CX0 k a.a_x_law_draw a.d_x_law_draw p_x_law_draw spDraw) :
    FnOk P w K mg base CX0 (k + 1) a.a_x_law_sentence a.d_x_law_sentence p_x_law_sentence (spSentence K) := by
  refine T.f_x_law_sentence.F.ok sc_x_law_sentence (fun vs H Q E h => ?_) (fun cdv A outer s H vs Q E hr h => ?_)
  · obtain ⟨sc, ol, ns, t, m, os, rfl, _⟩ := h
    rfl
  obtain ⟨sc, ol, ns, t, m, os, rfl, hS, hO, o0, o8, m0, m40, t60, q⟩ := h
  obtain ⟨st0, h0⟩ : ∃ st0, st0 = (defBody S_x_law_sentence).headD (.Pass ⟨0, 0, 0, 0⟩) := ⟨_, rfl⟩
  have hb : defBody S_x_law_sentence = st0 :: (defBody S_x_law_sentence).tail := by rw [h0]; rfl
  rw [hb]
  have hk : litAsg st0 = some (Str.ofString "kinds", kindsS) := by rw [h0]; rfl
  refine ⟨_, pss_cons (ps_litL (i := 4) hk sc_x_law_sentence.nd rfl (Or.inl rfl) (.inl rfl)) (pss_cons (ps_setA 5 sc_x_law_sentence.nd (pe_lst (pa_cons (pe_tup (pa_cons pe_str (pa_cons (pe_ix ix_list (pv 3) (pe_op op_mod (pe_callD G_x_law_draw hr T.f_x_law_draw (pa_cons (pe_callD G_x_law_cell_at hr T.f_x_law_cell_at (pa_cons (pv 0) (pa_cons (pv 1) pa_nil))) (pa_cons pe_int (pa_cons pe_int pa_nil)))) (pe_callB call_len_seq rfl T.n_len bt_len (pa_cons (pv 3) pa_nil))) (fun _ _ => rfl)) pa_nil))) pa_nil)))
      (pss_cons (ps_for PassesOwn.never rfl (pi_range2 rfl T.n_range (pa_cons pe_int (pa_cons (pv 2) pa_nil))) (pg_name (i := 6) sc_x_law_sentence.nd rfl (Or.inl rfl)) (pss_cons (ps_setA 7 sc_x_law_sentence.nd (pe_callD G_x_law_cell_at hr T.f_x_law_cell_at (pa_cons (pv 0) (pa_cons (pe_op op_add (pv 1) (pv 6)) pa_nil))))
      (pss_cons (ps_setA 8 sc_x_law_sentence.nd (pe_ix ix_list (pv 4) (pe_callD G_x_law_draw hr T.f_x_law_draw (pa_cons (pv 7) (pa_cons pe_int (pa_cons pe_int pa_nil)))) (fun _ _ => rfl)))
      (pss_cons (ps_setA 9 sc_x_law_sentence.nd (pe_ix ix_list (pv 5) (pe_op op_sub (pe_un un_neg pe_int) (pe_op op_mod (pe_callD G_x_law_draw hr T.f_x_law_draw (pa_cons (pv 7) (pa_cons pe_int (pa_cons pe_int pa_nil)))) (pe_callB call_len_seq rfl T.n_len bt_len (pa_cons (pv 5) pa_nil)))) (fun _ _ => rfl)))
      (pss_cons (ps_setA 10 sc_x_law_sentence.nd (pe_ix ix_list (pv 5) (pe_op op_mod (pe_callD G_x_law_draw hr T.f_x_law_draw (pa_cons (pv 7) (pa_cons pe_int (pa_cons pe_int pa_nil)))) (pe_callB call_len_seq rfl T.n_len bt_len (pa_cons (pv 5) pa_nil))) (fun _ _ => rfl)))
      (pss_cons (ps_setA 11 sc_x_law_sentence.nd (pe_ix ix_list (pv 3) (pe_op op_mod (pe_callD G_x_law_draw hr T.f_x_law_draw (pa_cons (pv 7) (pa_cons pe_int (pa_cons pe_int pa_nil)))) (pe_callB call_len_seq rfl T.n_len bt_len (pa_cons (pv 3) pa_nil))) (fun _ _ => rfl)))
      (pss_one (ps_if (PW.pt (pw_or (pt_cmpR op_eq (pv 8) pe_str (nomark _)) (pw_or1 (pt_cmpR op_eq (pv 8) pe_str (nomark _))))) (pss_one (ps_expr (pe_bm PySem.F.plainAttrs_list PySem.F.slot_list_append PySem.F.type_list_append mt_append (pv 5) (pa_cons (pe_tup (pa_cons (pv 8) pa_nil)) pa_nil)))) (pss_one (ps_if (pt_cmpR op_eq (pv 8) pe_str (nomark _)) (pss_one (ps_expr (pe_bm PySem.F.plainAttrs_list PySem.F.slot_list_append PySem.F.type_list_append mt_append (pv 5) (pa_cons (pe_tup (pa_cons pe_str (pa_cons (pv 11) pa_nil))) pa_nil)))) (pss_one (ps_if (pt_cmpR op_eq (pv 8) pe_str (nomark _)) (pss_one (ps_expr (pe_bm PySem.F.plainAttrs_list PySem.F.slot_list_append PySem.F.type_list_append mt_append (pv 5) (pa_cons (pe_tup (pa_cons pe_str (pa_cons (pv 9) pa_nil))) pa_nil)))) (pss_one (ps_if (PW.pt (pw_or (pt_cmpR op_eq (pv 8) pe_str (nomark _)) (pw_or1 (pt_cmpR op_eq (pv 8) pe_str (nomark _))))) (pss_one (ps_expr (pe_bm PySem.F.plainAttrs_list PySem.F.slot_list_append PySem.F.type_list_append mt_append (pv 5) (pa_cons (pe_tup (pa_cons (pv 8) (pa_cons (pv 11) (pa_cons (pv 9) pa_nil)))) pa_nil)))) (pss_one (ps_expr (pe_bm PySem.F.plainAttrs_list PySem.F.slot_list_append PySem.F.type_list_append mt_append (pv 5) (pa_cons (pe_tup (pa_cons (pv 8) (pa_cons (pv 10) (pa_cons (pv 9) pa_nil)))) pa_nil))))))))))))))))))
      (pss_one (ps_ret (pe_ix ix_list (pv 5) (pe_un un_neg pe_int) (fun _ _ => rfl)))))), ?_⟩
  refine ⟨by show 14 ≤ sizeLine; decide, fun kd hkd => ?_⟩
  have g1 := same_new hkd (.lst (kindsS.map V.str))
  have hS1 := g1.seq hS
  have hO1 := g1.seq hO
  refine ⟨_, rfl, _, rfl, _, rfl, sc, ns, (t : Int), rfl, hS1, by omega, fun c0 => ?_⟩
  refine ⟨c0, 3, 40320, rfl, by decide, by decide, by decide, fun r0 _ _ => ?_⟩
  obtain ⟨x0, hx0, hx0'⟩ := pick_letter o0 r0
  have pl : (0 : Int) < ((os.map V.str).length : Nat) := by rw [List.length_map]; omega
  refine ⟨_, rfl, ol, _, rfl, .inl hO1, _, _, rfl, rfl, pl, ol, _, _, .str x0, rfl, rfl, hO1, hx0', by show 2 ≤ sizeLine; decide, fun p0 hp0 => ?_⟩
  refine ⟨by show 1 ≤ sizeLine; decide, fun md hmd => ?_⟩
  have g2 := same_new hp0 (.tup [.str "mark", .str x0])
  have g3 := same_new hmd (.lst [.ref p0])
  have f0 : H md = none := (g1.trans g2).free hmd
  have nk : md ≠ kd := Ne.symm (ne_of_none (g2 _ _ upd_same) hmd)
  have M0 : Made H (upd (upd (upd H kd (.lst (kindsS.map V.str))) p0 (.tup [.str "mark", .str x0])) md (.lst [.ref p0])) os md kd [p0] 1 := by
    refine ⟨g1.trans (g2.trans g3), upd_same, g3 _ _ (g2 _ _ upd_same), by simp, fun p hp => ?_⟩
    have e : p = p0 := by simpa using hp
    subst e
    exact ⟨.mk x0, g3 _ _ upd_same, hx0, Nat.le_refl _⟩
  refine ⟨_, rfl, 1, (m : Int), rfl, ⟨by omega, by omega, by omega, by omega⟩, ?_⟩
  refine for_range (fun i σ H' => ∃ (ps : List Addr) (f1 f2 f3 f4 f5 f6 : Option V), Made H H' os md kd ps (i + 1) ∧ ps.length = i + 1 ∧ σ = [some (.ref sc), some (.int t), some (.int m), some (.ref ol), some (.ref kd), some (.ref md), f1, f2, f3, f4, f5, f6])
    ⟨[p0], _, _, _, _, _, _, M0, rfl, rfl⟩ ?_ ?_
  · rintro i σ H' hi ⟨ps, f1, f2, f3, f4, f5, f6, M, lp, rfl⟩
    have hS2 := M.old.seq hS
    have hO2 := M.old.seq hO
    have e1 : (t : Int) + (1 + (i : Nat)) = ((t + (1 + i) : Nat) : Int) := by omega
    refine ⟨_, rfl, _, rfl, _, rfl, _, _, rfl, rfl, sc, ns, _, rfl, hS2, by omega, fun c => ?_⟩
    refine ⟨_, rfl, _, rfl, c, 0, 14, rfl, by decide, by decide, by decide, fun d d0 d1 => ?_⟩
    obtain ⟨jk, vk, qk1, qk2⟩ := atI_has (xs := kindsS.map V.str) (i := d) (by show -((14 : Nat) : Int) ≤ d; omega) (by show d < ((14 : Nat) : Int); omega)
    obtain ⟨kind, hkm, hkv⟩ : ∃ kind, kind ∈ kindsS ∧ vk = .str kind := by
      rw [List.getElem?_map] at qk2
      cases hx : kindsS[jk]? with
      | none => rw [hx] at qk2; cases qk2
      | some x => rw [hx] at qk2; cases qk2; exact ⟨x, List.mem_of_getElem? hx, rfl⟩
    subst hkv
    refine ⟨kd, _, _, _, rfl, rfl, SqL.of M.kin, qk1, ?_⟩
    have lm : ((ps.map V.ref).length : Nat) = i + 1 := by rw [List.length_map]; exact lp
    have pm : (0 : Int) < ((ps.map V.ref).length : Nat) := by rw [lm]; omega
    refine ⟨_, rfl, 1, rfl, _, rfl, c, 1, 2, rfl, by decide, by decide, by decide, fun d2 _ _ => ?_⟩
    refine ⟨_, rfl, md, _, rfl, .inl (SqL.of M.mad), _, _, rfl, rfl, pm, _, _, rfl, rfl, ?_⟩
    have a0 := Int.emod_nonneg d2 (show ((ps.map V.ref).length : Int) ≠ 0 by omega)
    have a1 := Int.emod_lt_of_pos d2 pm
    obtain ⟨q1, hq1, hq1'⟩ := pick_made (ps := ps) (i := -1 - d2 % ((ps.map V.ref).length : Nat)) (by rw [lm] at a0 a1 ⊢; omega) (by rw [lm] at a0 a1 ⊢; omega)
    refine ⟨md, _, _, _, rfl, rfl, SqL.of M.mad, hq1', ?_⟩
    refine ⟨_, rfl, _, rfl, c, 2, 60, rfl, by decide, by decide, by decide, fun d3 _ _ => ?_⟩
    refine ⟨_, rfl, md, _, rfl, .inl (SqL.of M.mad), _, _, rfl, rfl, pm, ?_⟩
    have b0 := Int.emod_nonneg d3 (show ((ps.map V.ref).length : Int) ≠ 0 by omega)
    have b1 := Int.emod_lt_of_pos d3 pm
    obtain ⟨q2, hq2, hq2'⟩ := pick_made (ps := ps) (i := d3 % ((ps.map V.ref).length : Nat)) (by rw [lm] at b0 b1 ⊢; omega) (by rw [lm] at b0 b1 ⊢; omega)
    refine ⟨md, _, _, _, rfl, rfl, SqL.of M.mad, hq2', ?_⟩
    refine ⟨_, rfl, _, rfl, c, 3, 40320, rfl, by decide, by decide, by decide, fun d4 _ _ => ?_⟩
    obtain ⟨x, hx, hx'⟩ := pick_letter o0 d4
    refine ⟨_, rfl, ol, _, rfl, .inl hO2, _, _, rfl, rfl, pl, ol, _, _, .str x, rfl, rfl, hO2, hx', ?_⟩
    obtain ⟨s1, s1i, s1o, s1d⟩ := M.all q1 hq1
    obtain ⟨s2, s2i, s2o, s2d⟩ := M.all q2 hq2
    have big : ps.length < sizeLine := Nat.lt_of_le_of_lt (show ps.length ≤ 100 by omega) (by decide)
    have bigV : (ps.map V.ref).length < sizeLine := by rw [List.length_map]; exact big
    have mdu : ∀ (p : Addr) (o : HO), H' p = none → (upd H' p o) md = some (.lst (ps.map V.ref)) := fun p o hp => by rw [upd_ne (ne_of_none M.mad hp)]; exact M.mad
    have fin : ∀ (p : Addr) (xs : List V) (s' : Sn), H' p = none → IsS (upd H' p (.tup xs)) s' p → s'.inO os → s'.depth ≤ i + 1 + 1 →
        ∃ (ps' : List Addr) (f1 f2 f3 f4 f5 f6 : Option V), Made H (upd (upd H' p (.tup xs)) md (.lst (ps.map V.ref ++ [.ref p]))) os md kd ps' (i + 1 + 1) ∧ ps'.length = i + 1 + 1 ∧
          [some (.ref sc), some (.int t), some (.int m), some (.ref ol), some (.ref kd), some (.ref md), some (.int (1 + (i : Nat))), some (.int c), some (.str kind), some (.ref q1), some (.ref q2), some (.str x)] = [some (.ref sc), some (.int t), some (.int m), some (.ref ol), some (.ref kd), some (.ref md), f1, f2, f3, f4, f5, f6] := fun p xs s' hp hs ho hd => by
      have := M.push f0 hp hs ho hd nk
      rw [List.map_append] at this
      exact ⟨ps ++ [p], _, _, _, _, _, _, this, by simp [lp], rfl⟩
    refine ⟨_, rfl, rfl, _, rfl, ite2 (fun c1 => ?_) (fun c1 => ?_)⟩
    · have ek : kind = "yes" := by have := of_decide_eq_true c1; cases this; rfl
      subst ek
      refine iteT ⟨_, rfl, .inl ⟨rfl, _, SqL.of M.mad⟩, _, rfl, by show 1 ≤ sizeLine; decide, fun p hp => ⟨md, _, _, rfl, rfl, mdu p _ hp, bigV, ?_⟩⟩
      exact fin p _ (.c0 true) hp upd_same trivial (by show 1 ≤ _; omega)
    have n1 : kind ≠ "yes" := fun e => c1 (decide_eq_true (by rw [e]))
    refine ⟨_, rfl, rfl, _, rfl, ite2 (fun c2 => ?_) (fun c2 => ?_)⟩
    · have ek : kind = "no" := by have := of_decide_eq_true c2; cases this; rfl
      subst ek
      refine ⟨_, rfl, .inl ⟨rfl, _, SqL.of M.mad⟩, _, rfl, by show 1 ≤ sizeLine; decide, fun p hp => ⟨md, _, _, rfl, rfl, mdu p _ hp, bigV, ?_⟩⟩
      exact fin p _ (.c0 false) hp upd_same trivial (by show 1 ≤ _; omega)
    have n2 : kind ≠ "no" := fun e => c2 (decide_eq_true (by rw [e]))
    refine ⟨_, rfl, rfl, _, rfl, ite2 (fun c3 => ?_) (fun c3 => ?_)⟩
    · have ek : kind = "mark" := by have := of_decide_eq_true c3; cases this; rfl
      subst ek
      refine ⟨_, rfl, .inl ⟨rfl, _, SqL.of M.mad⟩, _, rfl, by show 2 ≤ sizeLine; decide, fun p hp => ⟨md, _, _, rfl, rfl, mdu p _ hp, bigV, ?_⟩⟩
      exact fin p _ (.mk x) hp upd_same hx (by show 1 ≤ _; omega)
    have n3 : kind ≠ "mark" := fun e => c3 (decide_eq_true (by rw [e]))
    refine ⟨_, rfl, rfl, _, rfl, ite2 (fun c4 => ?_) (fun c4 => ?_)⟩
    · have ek : kind = "not" := by have := of_decide_eq_true c4; cases this; rfl
      subst ek
      refine ⟨_, rfl, .inl ⟨rfl, _, SqL.of M.mad⟩, _, rfl, by show 2 ≤ sizeLine; decide, fun p hp => ⟨md, _, _, rfl, rfl, mdu p _ hp, bigV, ?_⟩⟩
      exact fin p _ (.nt s1) hp ⟨q1, upd_same, s1i.mono (Tups.new hp _)⟩ s1o (by show 1 + s1.depth ≤ _; omega)
    have n4 : kind ≠ "not" := fun e => c4 (decide_eq_true (by rw [e]))
    refine ⟨_, rfl, rfl, _, rfl, ite2 (fun c5 => ?_) (fun c5 => ?_)⟩
    · have ek : kind = "some" := by have := of_decide_eq_true c5; cases this; rfl
      subst ek
      refine iteT ⟨_, rfl, .inl ⟨rfl, _, SqL.of M.mad⟩, _, rfl, _, rfl, _, rfl, by show 3 ≤ sizeLine; decide, fun p hp => ⟨md, _, _, rfl, rfl, mdu p _ hp, bigV, ?_⟩⟩
      exact fin p _ (.q1 true x s1) hp ⟨q1, upd_same, s1i.mono (Tups.new hp _)⟩ ⟨hx, s1o⟩ (by show 1 + s1.depth ≤ _; omega)
    have n5 : kind ≠ "some" := fun e => c5 (decide_eq_true (by rw [e]))
    refine ⟨_, rfl, rfl, _, rfl, ite2 (fun c6 => ?_) (fun c6 => ?_)⟩
    · have ek : kind = "each" := by have := of_decide_eq_true c6; cases this; rfl
      subst ek
      refine ⟨_, rfl, .inl ⟨rfl, _, SqL.of M.mad⟩, _, rfl, _, rfl, _, rfl, by show 3 ≤ sizeLine; decide, fun p hp => ⟨md, _, _, rfl, rfl, mdu p _ hp, bigV, ?_⟩⟩
      exact fin p _ (.q1 false x s1) hp ⟨q1, upd_same, s1i.mono (Tups.new hp _)⟩ ⟨hx, s1o⟩ (by show 1 + s1.depth ≤ _; omega)
    have n6 : kind ≠ "each" := fun e => c6 (decide_eq_true (by rw [e]))
    obtain ⟨o, ho⟩ : ∃ o : Fin 4, kind = w2 o := by
      have : kind ∈ ([Str.ofString "mark", Str.ofString "mark", Str.ofString "not", Str.ofString "and", Str.ofString "or", Str.ofString "either", Str.ofString "if", Str.ofString "and", Str.ofString "or", Str.ofString "some", Str.ofString "each", Str.ofString "yes", Str.ofString "no", Str.ofString "mark"] : List Str) := hkm
      simp only [List.mem_cons, List.not_mem_nil, or_false] at this
      rcases this with h | h | h | h | h | h | h | h | h | h | h | h | h | h <;> first | exact absurd h n1 | exact absurd h n2 | exact absurd h n3 | exact absurd h n4 | exact absurd h n5 | exact absurd h n6 | exact ⟨0, h⟩ | exact ⟨1, h⟩ | exact ⟨2, h⟩ | exact ⟨3, h⟩
    subst ho
    refine ⟨_, rfl, .inl ⟨rfl, _, SqL.of M.mad⟩, _, rfl, _, rfl, _, rfl, by show 3 ≤ sizeLine; decide, fun p hp => ⟨md, _, _, rfl, rfl, mdu p _ hp, bigV, ?_⟩⟩
    exact fin p _ (.b2 o s2 s1) hp ⟨q2, q1, upd_same, s2i.mono (Tups.new hp _), s1i.mono (Tups.new hp _)⟩ ⟨s2o, s1o⟩ (by show 1 + max s2.depth s1.depth ≤ _; omega)
  · rintro σ H' ⟨ps, f1, f2, f3, f4, f5, f6, M, lp, rfl⟩
    obtain ⟨p, hp, hp'⟩ := pick_made (ps := ps) (i := -1) (by omega) (by omega)
    obtain ⟨s', z1, z2, z3⟩ := M.all p hp
    have e : ((m : Int) - 1).toNat + 1 = m := by omega
    rw [e] at z3
    exact ⟨_, rfl, 1, rfl, md, _, -1, _, rfl, rfl, SqL.of M.mad, hp', q p H' s' M.old z1 z2 z3⟩
theorem ok_count_step {d : Nat} (T : Txt P w K mg a) (G_x_law_count : FnOk P w K mg base CX0 k a.a_x_law_count a.d_x_law_count p_x_law_count (spCount d)) : FnOk P w K mg base CX0 (k + 1) a.a_x_law_count a.d_x_law_count p_x_law_count (spCount (d + 1)) := by
  refine T.f_x_law_count.F.ok sc_x_law_count (fun vs H Q E h => ?_) (fun cdv A outer s H vs Q E hr h => ?_)
  · obtain ⟨p, s, rfl, _⟩ := h
    rfl
  obtain ⟨p, sn, rfl, isp, hd, q⟩ := h
  refine ⟨_, (pss_one (ps_ret (pe_op op_add pe_int (pe_callB (call_sum rfl) rfl T.n_sum bt_sum (pa_cons (pe_lc1 (osc := defScope S_x_law_count) (js := []) rfl (by show LcOk _ _ "piece" []; exact lco (by decide +kernel)) rfl (pi_tup (pe_slice sl_tup (pv 0) (po_some pe_int) po_none)) (by show ∀ j ∈ ([] : List Nat), j < 1; decide) (fun cl C s₂ H₂ fp => (pt_truthK (K := K) rfl (pe_callB (call_isinstK (K := K) rfl) rfl T.n_isinstance bt_isinstance (pa_cons (pv 0) (pa_cons (pe_bltn (v := .ty "tuple") rfl T.n_tuple bt_tuple rfl) pa_nil))) (fun _ => rfl))) (fun cl C s₂ H₂ fp => (pe_callD G_x_law_count hr T.f_x_law_count (pa_cons (pv 0) pa_nil)))) pa_nil))))), ?_⟩
  obtain ⟨zs, c1, c2, c3, c4, c5⟩ := sen_cut isp
  have lz := pd_len c2
  have lp2 := Sn.parts_le sn
  have ll1 := Sn.letters_le sn
  refine ⟨_, rfl, 1, rfl, p, _, rfl, SqT.of c1, not_whole1 (by decide), fun b hb => ?_⟩
  rw [cut_tail]
  have g0 := Same.new hb (.tup (sn.letters.map V.str ++ zs.map V.ref))
  refine ⟨b, rfl, ⟨_, SqT.of upd_same⟩, lc_tup (tt := isTupT K) (xs := sn.letters.map V.str ++ zs.map V.ref) (fun i ys H' => Same (upd H b (.tup (sn.letters.map V.str ++ zs.map V.ref))) H' ∧ ys = ((sn.parts.take (i - sn.letters.length)).map fun t => V.int ((t.count : Nat) : Int))) ⟨Same.refl _, by simp⟩ (by rw [c3]; exact Nat.le_of_lt (small1000 (by omega))) ?_ ?_ ?_ (mono1 (mono_count d)) ?_⟩
  · rintro i ys H' hi ⟨g, rfl⟩
    refine ⟨g.seqT (SqT.of upd_same), ?_⟩
    rw [List.length_map, List.length_take]
    omega
  · rintro i x ys H' hx ⟨g, rfl⟩
    by_cases hlt : i < sn.letters.length
    · rw [List.getElem?_append_left (by rw [List.length_map]; exact hlt), List.getElem?_map, List.getElem?_eq_getElem hlt] at hx
      cases hx
      refine ⟨_, rfl, _, _, _, false, rfl, .str _, rfl, _, rfl, iteF ⟨g, ?_⟩⟩
      rw [show i + 1 - sn.letters.length = i - sn.letters.length by omega]
    · rw [List.getElem?_append_right (by rw [List.length_map]; omega), List.length_map, List.getElem?_map] at hx
      cases ho : zs[i - sn.letters.length]? with
      | none => rw [ho] at hx; cases hx
      | some y =>
        rw [ho] at hx
        cases hx
        obtain ⟨t, ht, it⟩ := pd_ta c2 ho
        obtain ⟨ws, d1, _⟩ := sen_cut it
        have gg := g0.trans g
        have dp := Sn.depth_parts sn t (List.mem_of_getElem? ht)
        refine ⟨_, rfl, _, _, _, true, rfl, .tup (gg _ _ d1), rfl, _, rfl, iteT ⟨_, rfl, y, t, rfl, it.mono (Tups.of gg), by omega, fun H3 g3 => ⟨g.trans g3, ?_⟩⟩⟩
        rw [show i + 1 - sn.letters.length = (i - sn.letters.length) + 1 by omega, take_next ht, List.map_append]
        rfl
  · rintro σ' H' Q1 Q2 hQ ⟨v, e, x, T', t, b', h1, h2, h3, k', h4, h5⟩
    exact ⟨v, e, x, T', t, b', h1, h2, h3, k', h4, hQ _ _ h5⟩
  · rintro ys H' p2 ⟨g, rfl⟩ hp2
    rw [c3, show sn.letters.length + sn.parts.length - sn.letters.length = sn.parts.length by omega, List.take_length]
    have e : (sn.parts.map fun t => V.int ((t.count : Nat) : Int)) = (sn.parts.map fun t => ((t.count : Nat) : Int)).map V.int := by rw [List.map_map]; rfl
    rw [e]
    refine ⟨p2, _, rfl, SqL.of upd_same, 1, _, rfl, rfl, ?_⟩
    have e2 : (1 : Int) + (sn.parts.map fun t => ((t.count : Nat) : Int)).sum = ((sn.count : Nat) : Int) := by
      rw [sum_cast, Sn.count_parts sn]
      omega
    show Q (.int ((1 : Int) + (sn.parts.map fun t => ((t.count : Nat) : Int)).sum)) _
    rw [e2]
    exact q _ ((g0.trans g).trans (Same.new hp2 _))
theorem ok_count (T : Txt P w K mg a) : ∀ d : Nat, FnOk P w K mg base CX0 (k + d) a.a_x_law_count a.d_x_law_count p_x_law_count (spCount d)
  | 0 => by
    refine ⟨fun vs H Q E h => ?_, fun A outer s H args us vs Q E _ _ _ _ h => ?_⟩
    · obtain ⟨p, sn, rfl, _⟩ := h
      rfl
    · obtain ⟨p, sn, _, _, hd, _⟩ := h
      have := Sn.depth_pos sn
      omega
  | d + 1 => ok_count_step T (ok_count T d)
theorem ok_short (T : Txt P w K mg a) (G_x_law_sentence : FnOk P w K mg base CX0 k a.a_x_law_sentence a.d_x_law_sentence p_x_law_sentence (spSentence K)) (G_x_law_count : FnOk P w K mg base CX0 k a.a_x_law_count a.d_x_law_count p_x_law_count (spCount 20)) :
    FnOk P w K mg base CX0 (k + 1) a.a_x_law_short a.d_x_law_short p_x_law_short (spShort K) := by
  refine T.f_x_law_short.F.ok sc_x_law_short (fun vs H Q E h => ?_) (fun cdv A outer s H vs Q E hr h => ?_)
  · obtain ⟨sc, ol, ns, t, m, os, rfl, _⟩ := h
    rfl
  obtain ⟨sc, ol, ns, t, m, os, rfl, hS, hO, o0, o8, m0, m20, t60, q⟩ := h
  refine ⟨_, (pss_cons (ps_setA 4 sc_x_law_short.nd (pe_callD G_x_law_sentence hr T.f_x_law_sentence (pa_cons (pv 0) (pa_cons (pv 1) (pa_cons (pv 2) (pa_cons (pv 3) pa_nil))))))
      (pss_cons (ps_if (pt_cmpR op_gt (pe_callD G_x_law_count hr T.f_x_law_count (pa_cons (pv 4) pa_nil)) pe_int (nomark _)) (pss_one (ps_ret (pe_tup (pa_cons pe_str (pa_cons (pe_tup (pa_cons pe_str (pa_cons (pe_ix ix_list (pv 3) pe_int (fun _ _ => rfl)) pa_nil))) (pa_cons (pe_tup (pa_cons pe_str (pa_cons (pe_tup (pa_cons pe_str (pa_cons (pe_ix ix_list (pv 3) (pe_un un_neg pe_int) (fun _ _ => rfl)) pa_nil))) pa_nil))) pa_nil)))))) pss_nil)
      (pss_one (ps_ret (pv 4))))), ?_⟩
  refine ⟨_, rfl, _, rfl, _, rfl, _, rfl, sc, ol, ns, t, m, os, rfl, hS, hO, o0, o8, m0, by omega, t60, fun p H1 sn g1 isp hin hd => ?_⟩
  refine ⟨_, rfl, p, sn, rfl, isp, by omega, fun H2 g2 => ⟨_, _, rfl, rfl, _, rfl, ite2 (fun _ => ?_) (fun c => ?_)⟩⟩
  · have g12 := g1.trans g2
    obtain ⟨x, hx, hx'⟩ := pick_at (os := os) (i := 0) (by omega) (by omega)
    obtain ⟨y, hy, hy'⟩ := pick_at (os := os) (i := -1) (by omega) (by omega)
    refine ⟨_, rfl, ol, _, 0, _, rfl, rfl, g12.seq hO, hx', by show 2 ≤ sizeLine; decide, fun p1 hp1 => ?_⟩
    have g3 := Same.new hp1 (.tup [.str "mark", .str x])
    refine ⟨_, rfl, 1, rfl, ol, _, -1, _, rfl, rfl, (g12.trans g3).seq hO, hy', by show 2 ≤ sizeLine; decide, fun p2 hp2 => ?_⟩
    have g4 := Same.new hp2 (.tup [.str "mark", .str y])
    refine ⟨by show 2 ≤ sizeLine; decide, fun p3 hp3 => ?_⟩
    have g5 := Same.new hp3 (.tup [.str "not", .ref p2])
    refine ⟨by show 3 ≤ sizeLine; decide, fun p4 hp4 => ?_⟩
    have g6 := Same.new hp4 (.tup [.str "either", .ref p1, .ref p3])
    refine q p4 _ (.b2 2 (.mk x) (.nt (.mk y))) ((((g12.trans g3).trans g4).trans g5).trans g6) ⟨p1, p3, upd_same, ?_, p2, ?_, ?_⟩ ⟨hx, hy⟩ (by show 1 + max 1 (1 + 1) ≤ 20; decide) (by show 1 + (1 + (1 + 1)) ≤ 60; decide)
    · exact g6 _ _ (g5 _ _ (g4 _ _ upd_same))
    · exact g6 _ _ upd_same
    · exact g6 _ _ (g5 _ _ upd_same)
  · have c' : sn.count ≤ 60 := Nat.le_of_not_lt fun z => c (decide_eq_true (by omega))
    exact ⟨_, rfl, q p H2 sn (g1.trans g2) (isp.mono (Tups.of g2)) hin (by omega) c'⟩
end
end K03
namespace K03
open PySem L2 Sen
section
variable {P : Program} {w : World} {K : PySem.W.Frag} {mg : Str → Option Value} {base : Heap} {a : Ad} {k : Nat}
theorem ok_parts_of_all (T : Txt P w K mg a) (G_parts_of : FnOk P w K mg base CX0 k a.a_parts_of a.d_parts_of p_parts_of spPartsOf) : FnOk P w K mg base CX0 (k + 1) a.a_parts_of_all a.d_parts_of_all p_parts_of_all (spPartsOfAll K) := by
  refine T.f_parts_of_all.F.ok sc_parts_of_all (fun vs H Q E h => ?_) (fun cdv A outer s H vs Q E hr h => ?_)
  · obtain ⟨l, ss, ps, rfl, _⟩ := h
    rfl
  obtain ⟨l, ss, ps, rfl, hl, hp, hz, q⟩ := h
  refine ⟨_, (pss_cons (ps_setA 1 sc_parts_of_all.nd (pe_lst pa_nil))
      (pss_cons (ps_for PassesOwn.never rfl (pi_list (pv 0)) (pg_name (i := 2) sc_parts_of_all.nd rfl (Or.inl rfl)) (pss_one (ps_expr (pe_bm PySem.F.plainAttrs_list PySem.F.slot_list_extend PySem.F.type_list_extend mt_extendT (pv 1) (pa_cons (pe_callD G_parts_of hr T.f_parts_of (pa_cons (pv 2) pa_nil)) pa_nil)))))
      (pss_one (ps_ret (pv 1))))), ?_⟩
  have pl := pd_len hp
  refine ⟨by show 0 ≤ sizeLine; decide, fun f hf => ?_⟩
  have g0 := Same.new hf (.lst [])
  refine ⟨_, rfl, l, rfl, ⟨_, g0.seq hl⟩, ?_⟩
  refine for_list (xs := ps.map V.ref) (fun i σ H' => ∃ (qs : List Addr) (f1 : Option V), Same H H' ∧ H' f = some (.lst (qs.map V.ref)) ∧ Paired (IsS H') ((ss.take i).flatMap Sn.parts) qs ∧ qs.length ≤ 2 * i ∧ i ≤ ss.length ∧ σ = [some (.ref l), some (.ref f), f1])
    ⟨[], _, g0, upd_same, .nil, by simp, Nat.zero_le _, rfl⟩ ?_ ?_ ?_
  · rintro i σ H' _ ⟨qs, f1, g, _⟩
    exact g.seq hl
  · rintro i x σ H' hx ⟨qs, f1, g, hf', hqs, lq, li, rfl⟩
    rw [List.getElem?_map] at hx
    cases ho : ps[i]? with
    | none => rw [ho] at hx; cases hx
    | some p =>
      rw [ho] at hx
      cases hx
      obtain ⟨sn, hsn, isp⟩ := pd_ta hp ho
      have hlt := (List.getElem?_eq_some_iff.mp hsn).1
      obtain ⟨zs, c1, c2, c3, c4, c5⟩ := sen_cut (isp.mono (Tups.of g))
      have lz := pd_len c2
      have lp2 := Sn.parts_le sn
      refine ⟨_, rfl, .inl ⟨rfl, _, SqL.of hf'⟩, _, rfl, p, sn.word, sn.letters.length, sn.parts.length, _, rfl, c1, shape_in sn, c3, fun b hb => ?_⟩
      rw [c5]
      have nfb : f ≠ b := ne_of_none hf' hb
      have hf2 : (upd H' b (.tup (zs.map V.ref))) f = some (.lst (qs.map V.ref)) := by rw [upd_ne nfb]; exact hf'
      refine ⟨f, b, qs.map V.ref, zs.map V.ref, rfl, rfl, hf2, ?_, ?_, ?_⟩
      · exact SqT.of upd_same
      · rw [List.length_map, List.length_map]
        exact Nat.le_of_lt (small1000 (by omega))
      · refine ⟨qs ++ zs, _, (g.trans (Same.new hb _)).over hf _, by rw [upd_same, List.map_append], ?_, ?_, hlt, rfl⟩
        · rw [take_next hsn, List.flatMap_append, List.flatMap_singleton]
          have t1 : Tups H' (upd (upd H' b (.tup (zs.map V.ref))) f (.lst (qs.map V.ref ++ zs.map V.ref))) := (Tups.new hb _).trans (Tups.lst hf2 _)
          exact pd_app (pd_imp (fun _ _ z => z.mono t1) hqs) (pd_imp (fun _ _ z => z.mono t1) c2)
        · rw [List.length_append]; omega
  · rintro σ H' ⟨qs, f1, g, hf', hqs, lq, li, rfl⟩
    rw [List.length_map, ← pl, List.take_length] at hqs
    exact ⟨_, rfl, q f H' qs g hf hf' hqs⟩
theorem ok_is_shaped (T : Txt P w K mg a) (G_is_mark : FnOk P w K mg base CX0 k a.a_is_mark a.d_is_mark p_is_mark spIsMark) (G_letters_of : FnOk P w K mg base CX0 k a.a_letters_of a.d_letters_of p_letters_of spLettersOf) (G_parts_of : FnOk P w K mg base CX0 k a.a_parts_of a.d_parts_of p_parts_of spPartsOf) :
    FnOk P w K mg base CX0 (k + 1) a.a_is_shaped a.d_is_shaped p_is_shaped spShaped := by
  refine T.f_is_shaped.F.ok sc_is_shaped (fun vs H Q E h => ?_) (fun cdv A outer s H vs Q E hr h => ?_)
  · obtain ⟨p, s, rfl, _⟩ := h
    rfl
  obtain ⟨p, sn, rfl, isp, hle, q⟩ := h
  refine ⟨_, (pss_cons (ps_if (PW.pt (pw_or (pt_cmpR op_eq (pe_callB call_len_seq rfl T.n_len bt_len (pa_cons (pv 0) pa_nil)) pe_int (nomark _)) (pw_or (pt_not (pt_truth (pe_callB call_isinst rfl T.n_isinstance bt_isinstance (pa_cons (pe_ix ix_tup (pv 0) pe_int (fun _ _ => rfl)) (pa_cons (pe_bltn (v := .ty "str") rfl T.n_str bt_str rfl) pa_nil))) (fun _ => rfl))) (pw_or1 (pt_cmpR (op_notIn_dicK T.h_SHAPES.d) (pe_ix ix_tup (pv 0) pe_int (fun _ _ => rfl)) (pe_glob (v := .ref a.a_SHAPES) rfl T.m_SHAPES rfl) (by with_unfolding_all rfl)))))) (pss_one (ps_ret pe_bl)) pss_nil)
      (pss_cons (ps_setA 1 sc_is_shaped.nd (pe_ix (ix_dicK T.h_SHAPES.d) (pe_glob (v := .ref a.a_SHAPES) rfl T.m_SHAPES rfl) (pe_ix ix_tup (pv 0) pe_int (fun _ _ => rfl)) (fun _ _ => rfl)))
      (pss_cons (ps_if (pt_cmpR op_ne (pe_callB call_len_seq rfl T.n_len bt_len (pa_cons (pv 0) pa_nil)) (pe_op op_add (pe_op op_add pe_int (pe_ix ix_tup (pv 1) pe_int (fun _ _ => rfl))) (pe_ix ix_tup (pv 1) pe_int (fun _ _ => rfl))) (nomark _)) (pss_one (ps_ret pe_bl)) pss_nil)
      (pss_cons (ps_if (pt_not (pt_truth (pe_callB (call_all rfl) rfl T.n_all bt_all (pa_cons (pe_lc0 (osc := defScope S_is_shaped) (js := []) rfl (by show LcOk _ _ "letter" []; exact lco (by decide +kernel)) rfl (pi_tup (pe_callD G_letters_of hr T.f_letters_of (pa_cons (pv 0) pa_nil))) (by show ∀ j ∈ ([] : List Nat), j < 2; decide) (fun cl C s₂ H₂ fp => (pe_callD G_is_mark hr T.f_is_mark (pa_cons (pv 0) pa_nil)))) pa_nil)) (fun _ => rfl))) (pss_one (ps_ret pe_bl)) pss_nil)
      (pss_one (ps_ret (pe_callB (call_all rfl) rfl T.n_all bt_all (pa_cons (pe_lc0 (osc := defScope S_is_shaped) (js := []) rfl (by show LcOk _ _ "part" []; exact lco (by decide +kernel)) rfl (pi_tup (pe_callD G_parts_of hr T.f_parts_of (pa_cons (pv 0) pa_nil))) (by show ∀ j ∈ ([] : List Nat), j < 2; decide) (fun cl C s₂ H₂ fp => (pe_callB (call_isinstK (K := K) rfl) rfl T.n_isinstance bt_isinstance (pa_cons (pv 0) (pa_cons (pe_bltn (v := .ty "tuple") rfl T.n_tuple bt_tuple rfl) pa_nil))))) pa_nil)))))))), ?_⟩
  obtain ⟨zs, c1, c2, c3, c4, c5⟩ := sen_cut isp
  have lz := pd_len c2
  obtain ⟨pt, hv, hpt⟩ := T.h_SHAPES.y _ _ _ (shape_in sn)
  have lp2 := Sn.parts_le sn
  have ll1 := Sn.letters_le sn
  refine ⟨_, rfl, p, _, rfl, .inr (SqT.of c1), rfl, _, rfl, ite2 (fun c => ?_) (fun _ => ?_)⟩
  · exfalso
    have := of_decide_eq_true c
    injection this with this
    rw [List.length_cons] at this
    omega
  refine ⟨_, rfl, p, _, 0, _, rfl, rfl, SqT.of c1, at0, _, _, _, true, rfl, .str sn.word, rfl, _, rfl, iteF ?_⟩
  refine ⟨_, rfl, p, _, 0, _, rfl, rfl, SqT.of c1, at0, sn.word, rfl, rfl, _, rfl, ?_⟩
  rw [hv]
  refine iteF ?_
  refine ⟨_, rfl, p, _, 0, _, rfl, rfl, SqT.of c1, at0, sn.word, .ref pt, .ref pt, rfl, rfl, hv, rfl, ?_⟩
  refine ⟨_, rfl, p, _, rfl, .inr (SqT.of c1), _, rfl, pt, _, 0, _, rfl, rfl, hpt H, at0, 1, _, rfl, rfl, _, rfl, pt, _, 1, _, rfl, rfl, hpt H, at1, _, _, rfl, rfl, rfl, _, rfl, ite2 (fun c => ?_) (fun _ => ?_)⟩
  · exfalso
    have z : V.int ((VC sn zs).length : Nat) = V.int (1 + ((sn.letters.length : Nat) : Int) + ((sn.parts.length : Nat) : Int)) := by
      congr 1
      show (((V.str sn.word :: (sn.letters.map V.str ++ zs.map V.ref)).length : Nat) : Int) = _
      rw [List.length_cons, c3]
      omega
    have c' : (!decide (V.int ((VC sn zs).length : Nat) = V.int (1 + ((sn.letters.length : Nat) : Int) + ((sn.parts.length : Nat) : Int)))) = true := c
    rw [decide_eq_true z] at c'
    cases c'
  refine ⟨_, rfl, p, sn.word, sn.letters.length, sn.parts.length, _, rfl, c1, shape_in sn, c3, fun b hb => ?_⟩
  rw [c4]
  have g1 := Same.new hb (.tup (sn.letters.map V.str))
  refine ⟨b, rfl, ⟨_, SqT.of upd_same⟩, lc_relT (xs := sn.letters.map V.str) (fun _ v => v = .bl true) (SqT.of upd_same) (by rw [List.length_map]; exact Nat.le_of_lt (small1000 (by omega))) ?_ (mono1 mono_isMark) ?_⟩
  · intro i x H' hx g
    rw [List.getElem?_map] at hx
    cases ho : sn.letters[i]? with
    | none => rw [ho] at hx; cases hx
    | some y =>
      rw [ho] at hx
      cases hx
      refine ⟨_, rfl, y, rfl, ?_, g⟩
      rw [decide_eq_true (hle y (List.mem_of_getElem? ho))]
  intro ys H' p2 hr' g hp2
  have e := pd_map (f := fun _ => .bl true) hr'
  have e2 : ys = (sn.letters.map fun _ => true).map V.bl := by rw [e, List.map_map, List.map_map]; rfl
  subst e2
  have g2 := Same.new hp2 (.lst ((sn.letters.map fun _ => true).map V.bl))
  have ea : (sn.letters.map fun _ => true).all id = true := by rw [List.all_map, List.all_eq_true]; exact fun _ _ => rfl
  refine ⟨p2, _, rfl, SqL.of upd_same, _, rfl, ?_⟩
  rw [ea]
  refine iteF ?_
  have gg := (g1.trans g).trans g2
  have c1' := gg _ _ c1
  refine ⟨_, rfl, p, sn.word, sn.letters.length, sn.parts.length, _, rfl, c1', shape_in sn, c3, fun b3 hb3 => ?_⟩
  rw [c5]
  have g3 := Same.new hb3 (.tup (zs.map V.ref))
  refine ⟨b3, rfl, ⟨_, SqT.of upd_same⟩, lc_relT (xs := zs.map V.ref) (fun _ v => v = .bl true) (SqT.of upd_same) (by rw [List.length_map]; exact Nat.le_of_lt (small1000 (by omega))) ?_ ?_ ?_⟩
  · intro i x H4 hx g4
    rw [List.getElem?_map] at hx
    cases ho : zs[i]? with
    | none => rw [ho] at hx; cases hx
    | some y =>
      rw [ho] at hx
      cases hx
      obtain ⟨sy, _, iy⟩ := pd_ta c2 ho
      obtain ⟨ws, d1, _⟩ := sen_cut iy
      have d1' := ((gg.trans g3).trans g4) _ _ d1
      exact ⟨_, rfl, _, _, _, true, rfl, .tup d1', rfl, rfl, g4⟩
  · rintro σ' H' Q1 Q2 hQ ⟨v, e, x, T', t, b', h1, h2, h3, h4⟩
    exact ⟨v, e, x, T', t, b', h1, h2, h3, hQ _ _ h4⟩
  · intro ys H4 p4 hr4 g4 hp4
    have e := pd_map (f := fun _ => .bl true) hr4
    have e2 : ys = (zs.map fun _ => true).map V.bl := by rw [e, List.map_map, List.map_map]; rfl
    subst e2
    have ea : (zs.map fun _ => true).all id = true := by rw [List.all_map, List.all_eq_true]; exact fun _ _ => rfl
    refine ⟨p4, _, rfl, SqL.of upd_same, ?_⟩
    rw [ea]
    exact q _ (((gg.trans g3).trans g4).trans (Same.new hp4 _))
theorem ok_is_sentence (T : Txt P w K mg a) (G_is_shaped : FnOk P w K mg base CX0 k a.a_is_shaped a.d_is_shaped p_is_shaped spShaped) (G_parts_of_all : FnOk P w K mg base CX0 k a.a_parts_of_all a.d_parts_of_all p_parts_of_all (spPartsOfAll K)) :
    FnOk P w K mg base CX0 (k + 1) a.a_is_sentence a.d_is_sentence p_is_sentence spIsSen := by
  refine T.f_is_sentence.F.ok sc_is_sentence (fun vs H Q E h => ?_) (fun cdv A outer s H vs Q E hr h => ?_)
  · obtain ⟨p, s, rfl, _⟩ := h
    rfl
  obtain ⟨p, sn, rfl, isp, hin, hc, hd, q⟩ := h
  refine ⟨_, (pss_cons (ps_setA 1 sc_is_sentence.nd (pe_lst (pa_cons (pv 0) pa_nil)))
      (pss_cons (ps_setA 2 sc_is_sentence.nd pe_int)
      (pss_cons (ps_setA 3 sc_is_sentence.nd pe_int)
      (pss_cons (ps_while PassesOwn.never (pt_cmpR op_gt (pe_callB call_len_seq rfl T.n_len bt_len (pa_cons (pv 1) pa_nil)) pe_int (nomark _)) (pss_cons (ps_aug (i := 2) sc_is_sentence.nd rfl (Or.inl rfl) pe_int iop_add)
      (pss_cons (ps_aug (i := 3) sc_is_sentence.nd rfl (Or.inl rfl) (pe_callB call_len_seq rfl T.n_len bt_len (pa_cons (pv 1) pa_nil)) iop_add)
      (pss_cons (ps_if (PW.pt (pw_or (pt_cmpR op_gt (pv 2) (pe_glob (v := .int 24) rfl T.m_MOST_DEEP ⟨_, rfl⟩) (nomark _)) (pw_or1 (pt_cmpR op_gt (pv 3) (pe_glob (v := .int 200) rfl T.m_MOST_TUPLES ⟨_, rfl⟩) (nomark _))))) (pss_one (ps_ret pe_bl)) pss_nil)
      (pss_cons (ps_if (pt_not (pt_truth (pe_callB (call_all rfl) rfl T.n_all bt_all (pa_cons (pe_lc0 (osc := defScope S_is_sentence) (js := []) rfl (by show LcOk _ _ "part" []; exact lco (by decide +kernel)) rfl (pi_list (pv 1)) (by show ∀ j ∈ ([] : List Nat), j < 4; decide) (fun cl C s₂ H₂ fp => (pe_callD G_is_shaped hr T.f_is_shaped (pa_cons (pv 0) pa_nil)))) pa_nil)) (fun _ => rfl))) (pss_one (ps_ret pe_bl)) pss_nil)
      (pss_one (ps_setA 1 sc_is_sentence.nd (pe_callD G_parts_of_all hr T.f_parts_of_all (pa_cons (pv 1) pa_nil)))))))))
      (pss_one (ps_ret pe_bl)))))), ?_⟩
  refine ⟨_, rfl, by show 1 ≤ sizeLine; decide, fun l0 hl0 => ?_⟩
  have g0 := Same.new hl0 (.lst [.ref p])
  refine ⟨fun m σ H' => ∃ (ss : List Sn) (ps : List Addr) (l : Addr) (d t : Nat), m = cnt ss ∧ Same H H' ∧ H' l = some (.lst (ps.map V.ref)) ∧ Paired (IsS H') ss ps ∧ (∀ u ∈ ss, u.inO letts ∧ d + u.depth ≤ 24) ∧ t + cnt ss ≤ 200 ∧ σ = [some (.ref p), some (.ref l), some (.int d), some (.int t)],
    ⟨_, [sn], [p], l0, 0, 0, rfl, g0, upd_same, .cons (isp.mono (Tups.of g0)) .nil, ?_, ?_, rfl⟩, ?_⟩
  · intro u hu
    have e : u = sn := by simpa using hu
    subst e
    exact ⟨hin, by omega⟩
  · show 0 + (sn.count + 0) ≤ 200
    omega
  rintro m σ H' ⟨ss, ps, l, d, t, rfl, g, hl, hp, hi, ht, rfl⟩
  have lp := pd_len hp
  have le : (ps.map V.ref).length = ss.length := by rw [List.length_map]; exact lp.symm
  have cl := cnt_len ss
  refine ⟨_, rfl, l, _, rfl, .inl (SqL.of hl), _, _, rfl, rfl, _, rfl, ite2 (fun c => ?_) (fun c => ?_)⟩
  · have c' : 0 < ss.length := by have := of_decide_eq_true c; rw [le] at this; omega
    have hd1 : d + 1 ≤ 24 := by
      have hm : ss[0] ∈ ss := List.getElem_mem c'
      have := (hi _ hm).2
      have := Sn.depth_pos ss[0]
      omega
    refine ⟨_, fun σ' H2 h => h, ?_⟩
    refine ⟨_, rfl, (d : Int), 1, rfl, rfl, ?_⟩
    refine ⟨_, rfl, _, rfl, l, _, rfl, .inl (SqL.of hl), (t : Int), _, rfl, rfl, ?_⟩
    refine ⟨_, rfl, _, _, rfl, rfl, _, rfl, ite2 (fun c2 => ?_) (fun _ => ?_)⟩
    · exfalso
      have := of_decide_eq_true c2
      omega
    refine ⟨_, rfl, _, _, rfl, rfl, _, rfl, ite2 (fun c2 => ?_) (fun _ => ?_)⟩
    · exfalso
      have := of_decide_eq_true c2
      rw [le] at this
      omega
    refine ⟨_, rfl, l, rfl, ⟨_, SqL.of hl⟩, lc_relL (fun _ v => v = .bl true) (SqL.of hl) (by rw [le]; exact Nat.le_of_lt (small1000 (by omega))) ?_ (mono1 mono_shaped) ?_⟩
    · intro i x H2 hx g2
      rw [List.getElem?_map] at hx
      cases ho : ps[i]? with
      | none => rw [ho] at hx; cases hx
      | some y =>
        rw [ho] at hx
        cases hx
        obtain ⟨sy, hsy, iy⟩ := pd_ta hp ho
        exact ⟨_, rfl, y, sy, rfl, iy.mono (Tups.of g2), Sn.inO_letters sy (hi sy (List.mem_of_getElem? hsy)).1, fun H3 g3 => ⟨rfl, g2.trans g3⟩⟩
    intro ys H2 p2 hr' g2 hp2
    have e := pd_map (f := fun _ => .bl true) hr'
    have e2 : ys = (ps.map fun _ => true).map V.bl := by rw [e, List.map_map, List.map_map]; rfl
    subst e2
    have g3 := Same.new hp2 (.lst ((ps.map fun _ => true).map V.bl))
    have ea : (ps.map fun _ => true).all id = true := by rw [List.all_map, List.all_eq_true]; exact fun _ _ => rfl
    refine ⟨p2, _, rfl, SqL.of upd_same, _, rfl, ?_⟩
    rw [ea]
    refine iteF ?_
    have gg := g2.trans g3
    refine ⟨_, rfl, l, ss, ps, rfl, gg.seq (SqL.of hl), pd_imp (fun _ _ z => z.mono (Tups.of gg)) hp, by omega, fun l' H4 ps' g4 hn hl' hp' => ?_⟩
    have cp := cnt_parts ss
    refine ⟨cnt (ss.flatMap Sn.parts), by omega, ss.flatMap Sn.parts, ps', l', d + 1, t + (ps.map V.ref).length, rfl, (g.trans gg).trans g4, hl', hp', ?_, by omega, rfl⟩
    intro u hu
    obtain ⟨s', hs', hu'⟩ := mem_level.mp hu
    obtain ⟨i1, i2⟩ := hi s' hs'
    have := Sn.depth_parts s' u hu'
    exact ⟨Sn.inO_parts s' i1 u hu', by omega⟩
  · exact q _ g
theorem ok_must_be_sentence (T : Txt P w K mg a) (G_is_sentence : FnOk P w K mg base CX0 k a.a_is_sentence a.d_is_sentence p_is_sentence spIsSen) : FnOk P w K mg base CX0 (k + 1) a.a_must_be_sentence a.d_must_be_sentence p_must_be_sentence spMustSen := by
  refine T.f_must_be_sentence.F.ok sc_must_be_sentence (fun vs H Q E h => ?_) (fun cdv A outer s H vs Q E hr h => ?_)
  · obtain ⟨p, s, rfl, _⟩ := h
    rfl
  obtain ⟨p, sn, rfl, h1, h2, h3, h4, q⟩ := h
  refine ⟨_, (pss_one (ps_if (pt_not (pt_truth (pe_callD G_is_sentence hr T.f_is_sentence (pa_cons (pv 0) pa_nil)) (fun _ => rfl))) (pss_one ps_never) pss_nil)), ?_⟩
  exact ⟨_, rfl, p, sn, rfl, h1, h2, h3, h4, fun H' g => ⟨_, rfl, iteF (q H' g)⟩⟩
end
end K03
namespace K03
open PySem L2 Sen
section
variable {P : Program} {w : World} {K : PySem.W.Frag} {mg : Str → Option Value} {base : Heap} {a : Ad} {k : Nat}
theorem ok_law_lone (T : Txt P w K mg a) : FnOk P w K mg base CX0 (k + 1) a.a_x_law_lone a.d_x_law_lone p_x_law_lone spLone := by
  refine T.f_x_law_lone.F.ok sc_x_law_lone (fun vs H Q E h => ?_) (fun cdv A outer s H vs Q E hr h => ?_)
  · obtain ⟨x, rfl, _⟩ := h
    rfl
  obtain ⟨x, rfl, hx, q⟩ := h
  refine ⟨_, (pss_one (ps_ret (pe_or (pe_cmpR op_in_seq (pv 0) (pe_strsT (xs := ["yes", "no", "#"]) (by rfl)) (by with_unfolding_all rfl)) (pe_one (pe_and (pe_cmpR op_eq (pe_callB call_len_str rfl T.n_len bt_len (pa_cons (pv 0) pa_nil)) pe_int (nomark _)) (pe_one (pe_cmpR op_ge (pe_bm PySem.F.plainAttrs_str PySem.F.slot_str_find PySem.F.type_str_find mt_sFind pe_str (pa_cons (pv 0) pa_nil)) pe_int (nomark _)))))))), ?_⟩
  have sx : x.length ≤ sizeLine := Nat.le_trans hx (by decide)
  refine ⟨_, rfl, by show 3 ≤ sizeLine; decide, fun t ht => ?_⟩
  have g1 := Same.new ht (.tup ((["yes", "no", "#"] : List Str).map V.str))
  have e1 : upd H t (.tup ((["yes", "no", "#"] : List Str).map V.str)) t = some _ := upd_same
  generalize upd H t _ = H1 at g1 e1 ⊢
  have q := q H1 g1
  refine ⟨t, _, rfl, .inr (SqT.of e1), rfl, flat_strs _, _, rfl, ite2 (fun e => ?_) (fun e => ?_)⟩
  · have e : inV (.str x) ((["yes", "no", "#"] : List Str).map V.str) = true := e
    rw [inV_strs] at e
    rw [decide_eq_true (lon_in (of_decide_eq_true e))] at q
    exact q
  have n : x ∉ (["yes", "no", "#"] : List Str) := fun z => e (by
    show inV (.str x) ((["yes", "no", "#"] : List Str).map V.str) = true
    rw [inV_strs]
    exact decide_eq_true z)
  rw [lon_letts n] at q
  refine ⟨_, rfl, x, rfl, sx, rfl, _, rfl, ite2 (fun e => ?_) (fun e => ?_)⟩
  · have e : x.length = 1 := by have := V.int.inj (of_decide_eq_true e); omega
    refine ⟨rfl, _, rfl, "abcdefgh", x, rfl, rfl, _, _, rfl, rfl, ?_⟩
    show Q (.bl (decide (Txt.find "abcdefgh" x ≥ 0))) H1
    rw [lone_find e]
    exact q
  · have : x ∉ letts := fun z => e (decide_eq_true (by rw [lett_one x z]; rfl))
    rw [decide_eq_false this] at q
    exact q
end
end K03
namespace K03
open PySem L2 Sen
section
variable {P : Program} {w : World} {K : PySem.W.Frag} {mg : Str → Option Value} {base : Heap} {a : Ad} {k : Nat}
theorem ok_law_fits (T : Txt P w K mg a) : FnOk P w K mg base CX0 (k + 1) a.a_x_law_fits a.d_x_law_fits p_x_law_fits spFits := by
  refine T.f_x_law_fits.F.ok sc_x_law_fits (fun vs H Q E h => ?_) (fun cdv A outer s H vs Q E hr h => ?_)
  · obtain ⟨x, z, rfl, _⟩ := h
    rfl
  obtain ⟨x, z, rfl, hx, hz, q⟩ := h
  refine ⟨_, (pss_cons (ps_setA 2 sc_x_law_fits.nd (pe_slice sl_str (pv 0) po_none (po_some (pe_op op_sub (pe_callB call_len_str rfl T.n_len bt_len (pa_cons (pv 0) pa_nil)) (pe_callB call_len_str rfl T.n_len bt_len (pa_cons (pv 1) pa_nil))))))
      (pss_one (ps_ret (pe_and (pe_bm PySem.F.plainAttrs_str PySem.F.slot_str_endswith PySem.F.type_str_endswith mt_sEnds (pv 0) (pa_cons (pv 1) pa_nil)) (pe_one (pe_or (pe_cmpR op_eq (pv 2) pe_str (nomark _)) (pe_or (pe_bm PySem.F.plainAttrs_str PySem.F.slot_str_endswith PySem.F.type_str_endswith mt_sEnds (pv 2) (pa_cons pe_str pa_nil)) (pe_one (pe_bm PySem.F.plainAttrs_str PySem.F.slot_str_endswith PySem.F.type_str_endswith mt_sEnds (pv 2) (pa_cons pe_str pa_nil)))))))))), ?_⟩
  have sx : x.length ≤ sizeLine := Nat.le_trans hx (by decide)
  have sz : z.length ≤ sizeLine := Nat.le_trans hz (by decide)
  refine ⟨_, rfl, _, rfl, x, rfl, sx, _, rfl, z, rfl, sz, _, _, rfl, rfl, _, rfl, x, rfl, sx, ?_⟩
  unfold fitB at q
  show gName 2 (V.str (frontT x z)) _ _ _
  generalize frontT x z = f at q ⊢
  unfold gName
  dsimp only
  unfold tRet
  dsimp only
  refine val_and (b1 := Txt.endswith x z) (b2 := decide (f = "") || (Txt.endswith f "(" || Txt.endswith f ", ")) (fun Q hQ => ⟨_, rfl, rfl, _, rfl, x, z, rfl, rfl, hQ⟩) (fun Q hQ => ?_) q
  refine val_or (b1 := decide (f = "")) (b2 := Txt.endswith f "(" || Txt.endswith f ", ") (fun Q hQ => ⟨_, rfl, rfl, ?_⟩) (fun Q hQ => ?_) hQ
  · have : decide (V.str f = V.str (Str.ofString "")) = decide (f = "") := by
      by_cases h : f = ""
      · rw [decide_eq_true h, decide_eq_true (congrArg V.str h)]
      · rw [decide_eq_false h, decide_eq_false (fun z => h (V.str.inj z))]
    rw [this]
    exact hQ
  · exact val_or (fun Q hQ => ⟨_, rfl, rfl, f, "(", rfl, rfl, hQ⟩) (fun Q hQ => ⟨_, rfl, rfl, f, ", ", rfl, rfl, hQ⟩) hQ
end
end K03
namespace K03
open PySem L2 Sen
section
variable {P : Program} {w : World} {K : PySem.W.Frag} {mg : Str → Option Value} {base : Heap} {a : Ad} {k : Nat}
theorem ok_law_inner (T : Txt P w K mg a) (G_x_law_fits : FnOk P w K mg base CX0 k a.a_x_law_fits a.d_x_law_fits p_x_law_fits spFits) (G_x_law_lone : FnOk P w K mg base CX0 k a.a_x_law_lone a.d_x_law_lone p_x_law_lone spLone) :
    FnOk P w K mg base CX0 (k + 1) a.a_x_law_inner a.d_x_law_inner p_x_law_inner spInner := by
  refine T.f_x_law_inner.F.ok sc_x_law_inner (fun vs H Q E h => ?_) (fun cdv A outer s H vs Q E hr h => ?_)
  · obtain ⟨x, rfl, _⟩ := h
    rfl
  obtain ⟨x, rfl, hx, q, qN⟩ := h
  refine ⟨_, (pss_cons (ps_setA 1 sc_x_law_inner.nd (pe_bm PySem.F.plainAttrs_str PySem.F.slot_str_find PySem.F.type_str_find mt_sFind (pv 0) (pa_cons pe_str pa_nil)))
      (pss_cons (ps_setA 2 sc_x_law_inner.nd (pe_bm PySem.F.plainAttrs_str PySem.F.slot_str_rfind PySem.F.type_str_rfind mt_sRfind4 (pv 0) (pa_cons pe_str (pa_cons pe_int (pa_cons (pv 1) pa_nil)))))
      (pss_cons (ps_if (PW.pt (pw_or (pt_cmpR op_lt (pv 1) pe_int (nomark _)) (pw_or1 (pt_cmpR op_lt (pv 2) pe_int (nomark _))))) (pss_one (ps_ret pe_non)) pss_nil)
      (pss_cons (ps_setA 3 sc_x_law_inner.nd (pe_slice sl_str (pv 0) po_none (po_some (pv 2))))
      (pss_cons (ps_setA 4 sc_x_law_inner.nd (pe_bm PySem.F.plainAttrs_str PySem.F.slot_str_split PySem.F.type_str_split mt_sSplit (pe_slice sl_str (pv 0) (po_some (pe_op op_add (pv 2) pe_int)) (po_some (pv 1))) (pa_cons pe_str pa_nil)))
      (pss_cons (ps_setA 5 sc_x_law_inner.nd (pe_strs (xs := ["and", "or", "either", "if", "not"]) (by rfl)))
      (pss_cons (ps_for PassesOwn.never rfl (pi_str pe_str) (pg_name (i := 6) sc_x_law_inner.nd rfl (Or.inl rfl)) (pss_one (ps_setA 5 sc_x_law_inner.nd (pe_op op_addL (pv 5) (pe_lst (pa_cons (pe_op op_addS pe_str (pv 6)) (pa_cons (pe_op op_addS pe_str (pv 6)) pa_nil)))))))
      (pss_cons (ps_for PassesOwn.never rfl (pi_list (pv 5)) (pg_name (i := 7) sc_x_law_inner.nd rfl (Or.inl rfl)) (pss_cons (ps_setA 8 sc_x_law_inner.nd (pe_op op_add pe_int (pe_callTy call_int1 rfl T.n_int bt_int (pa_cons (pe_cmpR op_lt (pe_bm PySem.F.plainAttrs_list PySem.F.slot_list_index PySem.F.type_list_index mt_index (pv 5) (pa_cons (pv 7) pa_nil)) pe_int (nomark _)) pa_nil))))
      (pss_one (ps_if (PW.pt (pw_and (pt_truth (pe_callD G_x_law_fits hr T.f_x_law_fits (pa_cons (pv 3) (pa_cons (pv 7) pa_nil))) (fun _ => rfl)) (pw_and (pt_cmpR op_eq (pe_callB call_len_seq rfl T.n_len bt_len (pa_cons (pv 4) pa_nil)) (pv 8) (nomark _)) (pw_and1 (pt_truth (pe_callB (call_all rfl) rfl T.n_all bt_all (pa_cons (pe_lc0 (osc := defScope S_x_law_inner) (js := []) rfl (by show LcOk _ _ "part" []; exact lco (by decide +kernel)) rfl (pi_list (pv 4)) (by show ∀ j ∈ ([] : List Nat), j < 9; decide) (fun cl C s₂ H₂ fp => (pe_callD G_x_law_lone hr T.f_x_law_lone (pa_cons (pv 0) pa_nil)))) pa_nil)) (fun _ => rfl)))))) (pss_one (ps_ret (pe_op op_addS (pe_op op_addS (pe_slice sl_str (pv 3) po_none (po_some (pe_op op_sub (pe_callB call_len_str rfl T.n_len bt_len (pa_cons (pv 3) pa_nil)) (pe_callB call_len_str rfl T.n_len bt_len (pa_cons (pv 7) pa_nil))))) pe_str) (pe_slice sl_str (pv 0) (po_some (pe_op op_add (pv 1) pe_int)) po_none)))) pss_nil))))
      (pss_one (ps_ret pe_non)))))))))), ?_⟩
  have sx : x.length ≤ sizeLine := Nat.le_trans hx (by decide)
  refine ⟨_, rfl, rfl, x, ")", rfl, rfl, ?_⟩
  refine ⟨_, rfl, rfl, _, rfl, x, "(", _, _, rfl, rfl, ?_⟩
  have f41 : (Str.ofString ")") = toS [41] := rfl
  have f40 : (Str.ofString "(") = toS [40] := rfl
  rcases cut_cases x with n41 | ⟨b, v, e, n, m⟩ | ⟨h, r, v, C⟩
  · have e1 : Txt.find x ")" = -1 := by rw [f41]; exact find_no n41
    refine ⟨_, rfl, _, _, rfl, rfl, _, rfl, ite2 (fun e => ?_) (fun e => ?_)⟩
    · exact qN (cut_no1 n41) H (Same.refl _)
    · exfalso
      have e : ¬ decide (Txt.find x ")" < 0) = true := e
      rw [e1] at e
      exact e rfl
  · have e1 : Txt.find x ")" = (b.length : Nat) := by rw [f41]; exact find_at e n
    have lb : b.length ≤ x.length := by have := congrArg List.length e; rw [cs_len, List.length_append] at this; omega
    have e2 : rfnd x "(" 0 (Txt.find x ")") = -1 := by
      rw [e1, f40]
      exact rfind_no lb (by rw [e, take_app]; exact m)
    refine ⟨_, rfl, _, _, rfl, rfl, _, rfl, ite2 (fun e0 => ?_) (fun e0 => ?_)⟩
    · exact qN (cut_no2 e n m) H (Same.refl _)
    refine ⟨_, rfl, _, _, rfl, rfl, _, rfl, ite2 (fun e0 => ?_) (fun e0 => ?_)⟩
    · exact qN (cut_no2 e n m) H (Same.refl _)
    · exfalso
      have e : ¬ decide (rfnd x "(" 0 (Txt.find x ")") < 0) = true := e0
      rw [e2] at e
      exact e rfl
  have e1 : Txt.find x ")" = ((h.length + 1 + r.length : Nat) : Int) := by
    rw [f41, find_at C.txt C.n41, List.length_append, List.length_cons]
    congr 1; omega
  have e2 : rfnd x "(" 0 (Txt.find x ")") = (h.length : Nat) := by
    rw [e1, f40]
    exact rfind_at (t := 41 :: v) (by rw [C.txt]; simp only [List.append_assoc, List.cons_append]) C.n40
  have lx : x.length = h.length + 1 + r.length + 1 + v.length := by
    have := congrArg List.length C.txt
    rw [cs_len] at this
    simp only [List.length_append, List.length_cons] at this
    omega
  refine ⟨_, rfl, _, _, rfl, rfl, _, rfl, ite2 (fun e => ?_) (fun e => ?_)⟩
  · exfalso
    have e : decide (Txt.find x ")" < 0) = true := e
    rw [e1] at e
    have := of_decide_eq_true e
    omega
  refine ⟨_, rfl, _, _, rfl, rfl, _, rfl, ite2 (fun e => ?_) (fun e => ?_)⟩
  · exfalso
    have e : decide (rfnd x "(" 0 (Txt.find x ")") < 0) = true := e
    rw [e2] at e
    have := of_decide_eq_true e
    omega
  have c1 : Txt.slice x none (some (rfnd x "(" 0 (Txt.find x ")"))) = toS h := by
    rw [e2, slice_fore (by omega)]
    show toS ((cs x).take h.length) = _
    rw [C.txt, List.append_assoc, take_app]
  have c2 : Txt.slice x (some (rfnd x "(" 0 (Txt.find x ")") + 1)) (some (Txt.find x ")")) = toS r := by
    rw [e2, e1, show ((h.length : Nat) : Int) + 1 = ((h.length + 1 : Nat) : Int) by omega, slice_mid (by omega) (by omega), C.txt]
    rw [show (h ++ 40 :: r) ++ 41 :: v = (h ++ [40]) ++ (r ++ 41 :: v) by simp, show h.length + 1 = (h ++ [40]).length by simp, drop_app, Nat.add_sub_cancel_left, take_app]
  have c3 : Txt.slice x (some (Txt.find x ")" + 1)) none = toS v := by
    rw [e1, show ((h.length + 1 + r.length : Nat) : Int) + 1 = ((h.length + 1 + r.length + 1 : Nat) : Int) by omega, slice_rear (by omega)]
    show toS ((cs x).drop _) = _
    rw [C.txt, show (h ++ 40 :: r) ++ 41 :: v = ((h ++ 40 :: r) ++ [41]) ++ v by simp, show h.length + 1 + r.length + 1 = ((h ++ 40 :: r) ++ [41]).length by simp; omega, drop_app]
  refine ⟨_, rfl, _, rfl, _, rfl, x, rfl, sx, ?_⟩
  rw [c1]
  refine ⟨_, rfl, _, rfl, _, _, rfl, rfl, _, rfl, _, rfl, _, rfl, x, rfl, sx, ?_⟩
  rw [c2]
  have sh : (toS h).length = h.length := by rw [← cs_len]; rfl
  have sr : (toS r).length = r.length := by rw [← cs_len]; rfl
  refine ⟨rfl, toS r, ", ", rfl, rfl, rfl, by omega, fun lp hlp => ?_⟩
  have plen : ∀ p ∈ Txt.split (toS r) ", ", p.length ≤ r.length := fun p hp => split_part hp
  have F : ∀ j z, Fit h r j z ↔ fitB (toS h) z = true ∧ (Txt.split (toS r) ", ").length = mnyT j ∧ ((Txt.split (toS r) ", ").all fun p => decide (p ∈ lonT)) = true := fun j z => by
    unfold Fit; rw [List.all_eq_true]
    exact ⟨fun ⟨a, b, c⟩ => ⟨a, b, fun p hp => decide_eq_true (c p hp)⟩, fun ⟨a, b, c⟩ => ⟨a, b, fun p hp => of_decide_eq_true (c p hp)⟩⟩
  generalize Txt.split (toS r) ", " = ps at F hlp plen ⊢
  refine ⟨by show 5 ≤ sizeLine; decide, fun l0 hl0 => ?_⟩
  have g0 := (Same.new hlp (.lst (ps.map V.str))).trans (Same.new hl0 (.lst ((nmsT.take 5).map V.str)))
  have ep := (Same.new hl0 (.lst ((nmsT.take 5).map V.str))) lp (.lst (ps.map V.str)) upd_same
  refine ⟨"abcdefgh", rfl, by decide +kernel, ?_⟩
  refine for_str (fun i σ H' => i ≤ 8 ∧ ∃ (l : Addr) (f6 : Option V), Same H H' ∧ H' lp = some (.lst (ps.map V.str)) ∧ H' l = some (.lst ((nmsT.take (5 + 2 * i)).map V.str)) ∧ σ = [some (.str x), some (.int (Txt.find x ")")), some (.int (rfnd x "(" 0 (Txt.find x ")"))), some (.str (toS h)), some (.ref lp), some (.ref l), f6, none, none])
    ⟨Nat.zero_le _, l0, _, g0, ep, upd_same, rfl⟩ ?_ ?_
  · rintro i c σ H2 hc ⟨_, l, f6, g, hp, hl, rfl⟩
    have i8 : i < 8 := (Array.getElem?_eq_some_iff.mp hc).1
    obtain ⟨c', hc', es⟩ := nms_step i i8
    rw [hc] at hc'
    cases hc'
    refine ⟨_, rfl, _, rfl, _, _, rfl, rfl, by show 6 ≤ sizeLine; decide, ?_⟩
    refine ⟨_, rfl, _, _, rfl, rfl, by show 6 ≤ sizeLine; decide, ?_⟩
    refine ⟨by show 2 ≤ sizeLine; decide, fun l2 hl2 => ?_⟩
    have g2 := Same.new hl2 (.lst ([Str.ofString "some " ++ ⟨#[c]⟩, Str.ofString "each " ++ ⟨#[c]⟩].map V.str))
    refine ⟨l, l2, _, _, rfl, rfl, SqL.of (g2 _ _ hl), SqL.of upd_same, ?_, fun l3 hl3 => ?_⟩
    · rw [List.length_map, List.length_take]
      have : 30 ≤ sizeLine := by decide
      have := nms_len
      show min _ _ + 2 ≤ _
      omega
    have g3 := Same.new hl3 (.lst ((nmsT.take (5 + 2 * i)).map V.str ++ ([Str.ofString "some " ++ ⟨#[c]⟩, Str.ofString "each " ++ ⟨#[c]⟩].map V.str)))
    refine ⟨i8, l3, _, (g.trans g2).trans g3, g3 _ _ (g2 _ _ hp), ?_, rfl⟩
    rw [← es, List.map_append]
    exact upd_same
  rintro σ H2 ⟨_, l, f6, g, hp, hl, rfl⟩
  have hl : H2 l = some (.lst (nmsT.map V.str)) := hl
  refine ⟨_, rfl, l, rfl, ⟨_, SqL.of hl⟩, ?_⟩
  refine for_list (xs := nmsT.map V.str) (fun i σ H' => (∀ j z, j < i → nmsT[j]? = some z → ¬ Fit h r j z) ∧ ∃ (f7 f8 : Option V), Same H2 H' ∧ σ = [some (.str x), some (.int (Txt.find x ")")), some (.int (rfnd x "(" 0 (Txt.find x ")"))), some (.str (toS h)), some (.ref lp), some (.ref l), f6, f7, f8])
    ⟨fun j z hj => absurd hj (Nat.not_lt_zero _), _, _, Same.refl _, rfl⟩ ?_ ?_ ?_
  · rintro i σ H' _ ⟨_, f7, f8, g', _⟩
    exact SqL.of (g' _ _ hl)
  · rintro i y σ H3 hy ⟨nf, f7, f8, g', rfl⟩
    have i21 : i < 21 := by
      have := (List.getElem?_eq_some_iff.mp hy).1
      rw [List.length_map, nms_len] at this
      exact this
    obtain ⟨z, hz, z6, ix⟩ := nms_idx i i21
    rw [List.getElem?_map, hz] at hy
    cases hy
    have hl3 := g' _ _ hl
    have hp3 := g' _ _ hp
    refine ⟨_, rfl, .inl ⟨rfl, _, SqL.of hl3⟩, _, rfl, l, _, _, i, rfl, rfl, SqL.of hl3, rfl, flat_strs _, ix, _, _, rfl, rfl, .inr ⟨_, rfl, _, _, rfl, rfl, ?_⟩⟩
    refine ⟨_, rfl, _, rfl, toS h, z, rfl, by omega, by omega, ?_⟩
    have em : ((1 : Int) + (if decide (((i : Nat) : Int) < 4) = true then 1 else 0)) = (mnyT i : Nat) := by
      unfold mnyT
      by_cases h4 : i < 4
      · rw [if_pos h4, if_pos (decide_eq_true (by omega))]; rfl
      · rw [if_neg h4, if_neg (by intro z; have := of_decide_eq_true z; omega)]; rfl
    have m2 : mnyT i ≤ 2 := by unfold mnyT; split <;> omega
    have nf2 : ¬ Fit h r i z → ∀ j z, j < i + 1 → nmsT[j]? = some z → ¬ Fit h r j z := fun n j z' hj hz' => by
      rcases Nat.lt_succ_iff_lt_or_eq.mp hj with lt | rfl
      · exact nf j z' lt hz'
      · rw [hz] at hz'; cases hz'; exact n
    refine ⟨_, rfl, ite2 (fun e3 => ?_) (fun e3 => ⟨nf2 fun z => e3 ((F _ _).mp z).1, _, _, g', rfl⟩)⟩
    have e5 : Fit h r i z → decide (V.int (((ps.map V.str).length : Nat) : Int) = V.int ((1 : Int) + (if decide (((i : Nat) : Int) < 4) = true then 1 else 0))) = true := fun z => decide_eq_true (by
      rw [em, List.length_map]
      exact congrArg (fun n : Nat => V.int n) ((F _ _).mp z).2.1)
    refine ⟨_, rfl, lp, _, rfl, .inl (SqL.of hp3), _, rfl, rfl, _, rfl, ite2 (fun e4 => ?_) (fun e4 => ⟨nf2 fun z => e4 (e5 z), _, _, g', rfl⟩)⟩
    have e4 : ps.length = mnyT i := by
      have := V.int.inj (of_decide_eq_true e4)
      rw [em, List.length_map] at this
      omega
    refine ⟨_, rfl, lp, rfl, ⟨_, SqL.of hp3⟩, ?_⟩
    refine lc_mapA V.str (fun p => V.bl (decide (p ∈ lonT))) (SqL.of hp3) (by have : 2 ≤ sizeLine := by decide
                                                                              omega) ?_ ?_
    · intro p H' Q hp' gg h
      exact ⟨_, rfl, p, rfl, Nat.le_trans (plen p hp') (by omega), h⟩
    · intro H4 pp g4 hpp
      have g5 := Same.new hpp (.lst (ps.map fun p => V.bl (decide (p ∈ lonT))))
      have e6 : upd H4 pp (.lst (ps.map fun p => V.bl (decide (p ∈ lonT)))) pp = some _ := upd_same
      generalize upd H4 pp _ = H5 at g5 e6 ⊢
      refine ⟨pp, ps.map fun p => decide (p ∈ lonT), rfl, by rw [List.map_map]; exact SqL.of e6, _, rfl, ite2 (fun e7 => ?_) (fun e7 => ⟨nf2 fun z => e7 ?_, _, _, (g'.trans g4).trans g5, rfl⟩)⟩
      · have fit : Fit h r i z := (F _ _).mpr ⟨e3, e4, by rw [List.all_map] at e7; exact e7⟩
        have st := inn_yes C hz fit
        have s5 : (5000 : Nat) ≤ sizeLine := by decide
        obtain ⟨ff, _, ef⟩ := fit_iff.mp e3
        have lf : (frontT (toS h) z).length ≤ h.length := by
          rw [← cs_len, front_eq ef]
          have := congrArg List.length ef
          rw [cs_toS, List.length_append] at this
          omega
        have l1 : (frontT (toS h) z ++ "#").length ≤ h.length + 1 := by
          rw [← cs_len, cs_app, List.length_append, cs_len]
          show _ + 1 ≤ _
          omega
        have l2 : (frontT (toS h) z ++ "#" ++ toS v).length ≤ h.length + 1 + v.length := by
          rw [← cs_len, cs_app, List.length_append, cs_len, cs_toS]
          omega
        refine ⟨_, rfl, _, rfl, toS h, rfl, by omega, _, rfl, z, rfl, by omega, _, _, rfl, rfl, _, rfl, toS h, rfl, by omega, frontT (toS h) z, "#", rfl, rfl, by omega, ?_⟩
        refine ⟨_, rfl, _, rfl, _, _, rfl, rfl, _, rfl, x, rfl, sx, ?_⟩
        rw [c3]
        exact ⟨_, _, rfl, rfl, by omega, q _ _ (((g.trans g').trans g4).trans g5) st⟩
      · rw [List.all_map]
        exact ((F _ _).mp z).2.2
  · rintro σ H' ⟨nf, f7, f8, g', rfl⟩
    refine qN (inn_no C fun j z hj => nf j z ?_ hj) _ (g.trans g')
    rw [List.length_map]
    exact (List.getElem?_eq_some_iff.mp hj).1
end
end K03
namespace K03
open PySem L2 Sen
section
variable {P : Program} {w : World} {K : PySem.W.Frag} {mg : Str → Option Value} {base : Heap} {a : Ad} {k : Nat}
theorem ok_law_text_step {d : Nat} (T : Txt P w K mg a) (G_x_law_text : FnOk P w K mg base CX0 k a.a_x_law_text a.d_x_law_text p_x_law_text (spWritten d)) : FnOk P w K mg base CX0 (k + 1) a.a_x_law_text a.d_x_law_text p_x_law_text (spWritten (d + 1)) := by
  refine T.f_x_law_text.F.ok sc_x_law_text (fun vs H Q E h => ?_) (fun cdv A outer s H vs Q E hr h => ?_)
  · obtain ⟨p, sn, rfl, _⟩ := h
    rfl
  obtain ⟨p, sn, rfl, isp, hin, hc, hd, q⟩ := h
  refine ⟨_, (pss_cons (ps_if (pt_cmpR op_eq (pe_ix ix_tup (pv 0) pe_int (fun _ _ => rfl)) pe_str (nomark _)) (pss_one (ps_ret (pe_ix ix_tup (pv 0) pe_int (fun _ _ => rfl)))) pss_nil)
      (pss_cons (ps_if (pt_cmpR op_eq (pe_callB call_len_seq rfl T.n_len bt_len (pa_cons (pv 0) pa_nil)) pe_int (nomark _)) (pss_one (ps_ret (pe_ix ix_tup (pv 0) pe_int (fun _ _ => rfl)))) pss_nil)
      (pss_cons (ps_if (pt_cmpR op_in_seq (pe_ix ix_tup (pv 0) pe_int (fun _ _ => rfl)) (pe_tup (pa_cons pe_str (pa_cons pe_str pa_nil))) (by with_unfolding_all rfl)) (pss_one (ps_ret (pe_op op_addS (pe_op op_addS (pe_op op_addS (pe_op op_addS (pe_op op_addS (pe_ix ix_tup (pv 0) pe_int (fun _ _ => rfl)) pe_str) (pe_ix ix_tup (pv 0) pe_int (fun _ _ => rfl))) pe_str) (pe_callD G_x_law_text hr T.f_x_law_text (pa_cons (pe_ix ix_tup (pv 0) pe_int (fun _ _ => rfl)) pa_nil))) pe_str))) pss_nil)
      (pss_one (ps_ret (pe_op op_addS (pe_op op_addS (pe_op op_addS (pe_ix ix_tup (pv 0) pe_int (fun _ _ => rfl)) pe_str) (pe_bm PySem.F.plainAttrs_str PySem.F.slot_str_join PySem.F.type_str_join (mt_joinS (K := K) rfl) pe_str (pa_cons (pe_lc0 (osc := defScope S_x_law_text) (js := []) rfl (by show LcOk _ _ "piece" []; exact lco (by decide +kernel)) rfl (pi_tup (pe_slice sl_tup (pv 0) (po_some pe_int) po_none)) (by show ∀ j ∈ ([] : List Nat), j < 1; decide) (fun cl C s₂ H₂ fp => (pe_callD G_x_law_text hr T.f_x_law_text (pa_cons (pv 0) pa_nil)))) pa_nil))) pe_str)))))), ?_⟩
  have sz : 5000 ≤ sizeLine := by decide
  have la : ∀ a b : Str, (a ++ b).length = a.length + b.length := fun a b => by rw [← cs_len, cs_app, List.length_append, cs_len, cs_len]
  have wl0 := word_len sn
  have wn := wrt_len hin
  have inw : ∀ z : Str, inV (.str z) ((["some", "each"] : List Str).map V.str) = decide (z ∈ (["some", "each"] : List Str)) := fun z => inV_strs z _
  by_cases hk : ∃ x, sn = .mk x
  · obtain ⟨x, rfl⟩ := hk
    have isp' : H p = some (.tup [.str "mark", .str x]) := isp
    refine ⟨_, rfl, p, _, 0, _, rfl, rfl, SqT.of isp', at0, rfl, _, rfl, ite2 (fun _ => ?_) (fun c => absurd (decide_eq_true rfl) c)⟩
    exact ⟨_, rfl, p, _, 1, _, rfl, rfl, SqT.of isp', at1, q _ (Same.refl _)⟩
  have nm := word_mark fun x hx => hk ⟨x, hx⟩
  obtain ⟨zs, c1, c2, c3, c4, c5⟩ := sen_cut isp
  have lz := pd_len c2
  have lp2 := Sn.parts_le sn
  have hcp : sn.count = 1 + cnt sn.parts := Sn.count_parts sn
  refine ⟨_, rfl, p, _, 0, _, rfl, rfl, SqT.of c1, at0, rfl, _, rfl, ite2 (fun c => absurd (of_decide_eq_true c) (fun z => nm (by injection z))) (fun _ => ?_)⟩
  by_cases hk0 : ∃ y, sn = .c0 y
  · obtain ⟨y, rfl⟩ := hk0
    have isp' : H p = some (.tup [.str (Sn.word (.c0 y))]) := isp
    refine ⟨_, rfl, p, _, rfl, .inr (SqT.of isp'), rfl, _, rfl, ite2 (fun _ => ?_) (fun c => absurd (decide_eq_true rfl) c)⟩
    exact ⟨_, rfl, p, _, 0, _, rfl, rfl, SqT.of isp', at0, q _ (Same.refl _)⟩
  have n1 : sn.letters.length + sn.parts.length ≠ 0 := by
    cases sn with
    | c0 y => exact absurd ⟨y, rfl⟩ hk0
    | mk x => exact absurd ⟨x, rfl⟩ hk
    | nt s => show 0 + 1 ≠ 0; decide
    | b2 o s t => show 0 + 2 ≠ 0; decide
    | q1 o x s => show 1 + 1 ≠ 0; decide
  refine ⟨_, rfl, p, _, rfl, .inr (SqT.of c1), rfl, _, rfl, ite2 (fun c => ?_) (fun _ => ?_)⟩
  · exfalso
    have c := V.int.inj (of_decide_eq_true c)
    rw [List.length_cons, c3] at c
    omega
  refine ⟨_, rfl, p, _, 0, _, rfl, rfl, SqT.of c1, at0, by show 2 ≤ sizeLine; decide, fun t ht => ?_⟩
  have g1 := Same.new ht (.tup [.str "some", .str "each"])
  have e1 : upd H t (.tup [.str "some", .str "each"]) t = some (.tup ((["some", "each"] : List Str).map V.str)) := upd_same
  generalize upd H t _ = H1 at g1 e1 ⊢
  by_cases hk1 : ∃ o x s, sn = .q1 o x s
  · obtain ⟨o, x, s9, rfl⟩ := hk1
    obtain ⟨r, isp', iss⟩ := (id isp : IsS H (.q1 o x s9) p)
    have isp' := g1 _ _ isp'
    have iss := iss.mono (Tups.of g1)
    have hx := lett_len (show x ∈ letts from hin.1)
    have ct : (Sn.q1 o x s9).count = 1 + s9.count := rfl
    have dp : (Sn.q1 o x s9).depth = 1 + s9.depth := rfl
    have ws := wrt_len (show s9.inO letts from hin.2)
    have ew : Sn.word (.q1 o x s9) = (if o then ("some" : Str) else "each") := by cases o <;> rfl
    rw [ew] at wl0
    refine ⟨t, _, rfl, .inr (SqT.of e1), rfl, flat_strs _, _, rfl, ite2 (fun _ => ?_) (fun c => absurd ?_ c)⟩
    · refine ⟨_, rfl, p, _, 0, _, rfl, rfl, SqT.of isp', at0, _, _, rfl, rfl, by rw [la]; show _ + 1 ≤ _; omega, ?_⟩
      refine ⟨_, rfl, p, _, 1, _, rfl, rfl, SqT.of isp', at1, _, _, rfl, rfl, by rw [la, la]; show _ + 1 + _ ≤ _; omega, ?_⟩
      refine ⟨_, _, rfl, rfl, by rw [la, la, la]; show _ + 1 + _ + 1 ≤ _; omega, ?_⟩
      refine ⟨_, rfl, p, _, 2, _, rfl, rfl, SqT.of isp', at2, r, s9, rfl, iss, hin.2, by omega, by omega, fun H2 g2 => ?_⟩
      refine ⟨_, _, rfl, rfl, by rw [la, la, la, la]; show _ + 1 + _ + 1 + _ ≤ _; omega, ?_⟩
      refine ⟨_, _, rfl, rfl, by rw [la, la, la, la, la]; show _ + 1 + _ + 1 + _ + 1 ≤ _; omega, ?_⟩
      have e : wrt (.q1 o x s9) = (if o then ("some" : Str) else "each") ++ " " ++ x ++ "(" ++ wrt s9 ++ ")" := cs_inj (by
        rw [wl_wrt, cs_app, cs_app, cs_app, cs_app, cs_app, wl_wrt]
        show cs (if o then ("some" : Str) else "each") ++ ([32] ++ (cs x ++ ([40] ++ (wl s9 ++ [41])))) = ((((_ ++ [32]) ++ cs x) ++ [40]) ++ wl s9) ++ [41]
        simp only [List.append_assoc])
      rw [e] at q
      exact q _ (g1.trans g2)
    · show inV (.str (Sn.word (.q1 o x s9))) ((["some", "each"] : List Str).map V.str) = true
      rw [inw, ew]
      cases o <;> exact decide_eq_true (by decide +kernel)
  have hl : sn.letters = [] := by
    cases sn with
    | c0 y => rfl
    | mk x => exact absurd ⟨x, rfl⟩ hk
    | nt s => rfl
    | b2 o s t => rfl
    | q1 o x s => exact absurd ⟨o, x, s, rfl⟩ hk1
  have nw : sn.word ∉ (["some", "each"] : List Str) := by
    cases sn with
    | c0 y => exact absurd ⟨y, rfl⟩ hk0
    | mk x => exact absurd ⟨x, rfl⟩ hk
    | nt s => show (Str.ofString "not") ∉ (["some", "each"] : List Str); decide +kernel
    | b2 o s t =>
      have : ∀ o : _root_.Fin 4, w2 o ∉ (["some", "each"] : List Str) := by decide +kernel
      exact this o
    | q1 o x s => exact absurd ⟨o, x, s, rfl⟩ hk1
  have ne : sn.parts ≠ [] := fun z => n1 (by rw [hl, z]; rfl)
  refine ⟨t, _, rfl, .inr (SqT.of e1), rfl, flat_strs _, _, rfl, ite2 (fun c => ?_) (fun _ => ?_)⟩
  · have c : inV (.str sn.word) ((["some", "each"] : List Str).map V.str) = true := c
    rw [inw] at c
    exact absurd (of_decide_eq_true c) nw
  rw [hl] at c1
  have c1 : H p = some (.tup (.str sn.word :: zs.map V.ref)) := c1
  have c1 := g1 _ _ c1
  have jp := jl_parts (ss := sn.parts) (fun t ht => Sn.inO_parts sn hin t ht)
  have jn := jl_len ", " (sn.parts.map wrt)
  refine ⟨_, rfl, p, _, 0, _, rfl, rfl, SqT.of c1, at0, _, _, rfl, rfl, by rw [la]; show _ + 1 ≤ _; omega, ?_⟩
  refine ⟨rfl, _, rfl, 1, rfl, p, _, rfl, SqT.of c1, not_whole1 (by decide), fun b hb => ?_⟩
  rw [cut_tail]
  have g2 := Same.new hb (.tup (zs.map V.ref))
  have e2 : upd H1 b (.tup (zs.map V.ref)) b = some _ := upd_same
  generalize upd H1 b _ = H2 at g2 e2 ⊢
  have g12 := g1.trans g2
  refine ⟨b, rfl, ⟨_, SqT.of e2⟩, lc_tup (xs := zs.map V.ref) (fun i ys H' => Same H2 H' ∧ ys = ((sn.parts.take i).map wrt).map V.str) ⟨Same.refl _, rfl⟩ (by rw [List.length_map]; exact Nat.le_of_lt (small1000 (by omega))) ?_ ?_ (fun _ _ _ _ h q => h _ _ q) (mono1 (mono_written d)) ?_⟩
  · rintro i ys H' hi ⟨g, rfl⟩
    rw [List.length_map, List.length_map, List.length_take]
    exact ⟨g.seqT (SqT.of e2), by omega⟩
  · rintro i x ys H' hx ⟨g, rfl⟩
    rw [List.getElem?_map] at hx
    cases ho : zs[i]? with
    | none => rw [ho] at hx; cases hx
    | some y =>
      rw [ho] at hx
      cases hx
      obtain ⟨t, ht, it⟩ := pd_ta c2 ho
      have htm := List.mem_of_getElem? ht
      have dp := Sn.depth_parts sn t htm
      have ct := part_count htm
      refine ⟨_, rfl, y, t, rfl, it.mono (Tups.of (g12.trans g)), Sn.inO_parts sn hin t htm, by omega, by omega, fun H4 g4 => ⟨g.trans g4, ?_⟩⟩
      rw [take_next ht, List.map_append, List.map_append]
      rfl
  rintro ys H' p2 ⟨g, rfl⟩ hp2
  have el : (zs.map V.ref).length = sn.parts.length := by rw [List.length_map]; exact lz.symm
  rw [el, List.take_length]
  have g5 := (g12.trans g).trans (Same.new hp2 (.lst ((sn.parts.map wrt).map V.str)))
  refine ⟨", ", p2, sn.parts.map wrt, rfl, rfl, .inl (SqL.of upd_same), by omega, ?_⟩
  refine ⟨_, _, rfl, rfl, by rw [la, la]; show _ + 1 + _ ≤ _; omega, ?_⟩
  refine ⟨_, _, rfl, rfl, by rw [la, la, la]; show _ + 1 + _ + 1 ≤ _; omega, ?_⟩
  have e : wrt sn = sn.word ++ "(" ++ Str.join ", " (sn.parts.map wrt) ++ ")" := cs_inj (by
    rw [wrt_gen ne, cs_hd, hl, cs_app, cs_app, cs_app]
    show cs sn.word ++ ([40] ++ (_ ++ [41])) = ((cs sn.word ++ [40]) ++ _) ++ [41]
    simp only [List.append_assoc])
  rw [e] at q
  exact q _ g5
theorem ok_law_text (T : Txt P w K mg a) : ∀ d : Nat, FnOk P w K mg base CX0 (k + d) a.a_x_law_text a.d_x_law_text p_x_law_text (spWritten d)
  | 0 => by
    refine ⟨fun vs H Q E h => ?_, fun A outer s H args us vs Q E _ _ _ _ h => ?_⟩
    · obtain ⟨p, sn, rfl, _⟩ := h
      rfl
    · obtain ⟨p, sn, _, _, _, _, hd, _⟩ := h
      have := Sn.depth_pos sn
      omega
  | d + 1 => ok_law_text_step T (ok_law_text T d)
end
end K03
namespace K03
open PySem L2 Sen
section
variable {P : Program} {w : World} {K : PySem.W.Frag} {mg : Str → Option Value} {base : Heap} {a : Ad} {k : Nat}
theorem ok_law_changed (T : Txt P w K mg a) : FnOk P w K mg base CX0 (k + 1) a.a_x_law_changed a.d_x_law_changed p_x_law_changed spChanged := by
  refine T.f_x_law_changed.F.ok sc_x_law_changed (fun vs H Q E h => ?_) (fun cdv A outer s H vs Q E hr h => ?_)
  · obtain ⟨x, c, rfl, _⟩ := h
    rfl
  obtain ⟨x, c, rfl, hx, q⟩ := h
  refine ⟨_, (pss_cons (ps_setA 2 sc_x_law_changed.nd (pe_op op_mod (pe_op op_fdiv (pv 1) pe_int) (pe_op op_add (pe_callB call_len_str rfl T.n_len bt_len (pa_cons (pv 0) pa_nil)) pe_int)))
      (pss_cons (ps_setA 3 sc_x_law_changed.nd (pe_ix ix_str pe_str (pe_op op_mod (pe_op op_fdiv (pv 1) pe_int) pe_int) (fun _ _ => rfl)))
      (pss_cons (ps_if (pt_cmpR op_eq (pe_op op_mod (pv 1) pe_int) pe_int (nomark _)) (pss_one (ps_ret (pe_op op_addS (pe_slice sl_str (pv 0) po_none (po_some (pv 2))) (pe_slice sl_str (pv 0) (po_some (pe_op op_add (pv 2) pe_int)) po_none)))) pss_nil)
      (pss_cons (ps_if (pt_cmpR op_eq (pe_op op_mod (pv 1) pe_int) pe_int (nomark _)) (pss_one (ps_ret (pe_op op_addS (pe_op op_addS (pe_slice sl_str (pv 0) po_none (po_some (pv 2))) (pv 3)) (pe_slice sl_str (pv 0) (po_some (pv 2)) po_none)))) pss_nil)
      (pss_cons (ps_if (pt_cmpR op_eq (pe_op op_mod (pv 1) pe_int) pe_int (nomark _)) (pss_one (ps_ret (pe_op op_addS (pe_op op_addS (pe_slice sl_str (pv 0) po_none (po_some (pv 2))) (pv 3)) (pe_slice sl_str (pv 0) (po_some (pe_op op_add (pv 2) pe_int)) po_none)))) pss_nil)
      (@pss_cons _ _ _ _ _ (@ps_setA _ _ 4 _ _ _ _ (by exact sc_x_law_changed.nd) (@pe_strs _ _ _ ["", " ", "yes ", " no", "a,b", "not(a", "not a", "not()", "and(a,b)", "and(a, b, c)", "and(a)"] (by rfl)) (by rfl) (by first | exact Or.inl rfl | exact Or.inr rfl) (by rfl) (by first | exact .inl rfl | exact .inr rfl))
      (by exact (@pss_cons _ _ _ _ _ (@ps_setA _ _ 4 _ _ _ _ (by exact sc_x_law_changed.nd) (@pe_op _ _ _ _ _ _ _ _ op_addL (pv 4) (@pe_strs _ _ _ ["(a)", "h", "i", "yes()", "some a(b)", "some(b)", "some i(b)", "some a b(c)", "each  a(b)"] (by rfl))) (by rfl) (by first | exact Or.inl rfl | exact Or.inr rfl) (by rfl) (by first | exact .inl rfl | exact .inr rfl))
      (by exact (@pss_cons _ _ _ _ _ (@ps_setA _ _ 4 _ _ _ _ (by exact sc_x_law_changed.nd) (@pe_op _ _ _ _ _ _ _ _ op_addL (pv 4) (@pe_strs _ _ _ ["each h(no)", "some a(b, c)"] (by rfl))) (by rfl) (by first | exact Or.inl rfl | exact Or.inr rfl) (by rfl) (by first | exact .inl rfl | exact .inr rfl))
      (by exact (@pss_cons _ _ _ _ _ (@ps_setA _ _ 4 _ _ _ _ (by exact sc_x_law_changed.nd) (@pe_op _ _ _ _ _ _ _ _ op_addL (pv 4) (@pe_strs _ _ _ ["if(a, not(b))", "A", "nots(a)", "mark(a)", "some a", "yes b(a)", "not a(b)", "and a(b, c)"] (by rfl))) (by rfl) (by first | exact Or.inl rfl | exact Or.inr rfl) (by rfl) (by first | exact .inl rfl | exact .inr rfl))
      (by exact (@pss_cons _ _ _ _ _ (@ps_setA _ _ 4 _ _ _ _ (by exact sc_x_law_changed.nd) (@pe_op _ _ _ _ _ _ _ _ op_addL (pv 4) (@pe_rep3 _ _ _ _ _ "not(" "a" ")" 23 23 "not(" "a" ")" 24 24 "some a(" "a" ")" 30 30 (by rfl) (by rfl) (by rfl) rep_a rep_b rep_c)) (by rfl) (by first | exact Or.inl rfl | exact Or.inr rfl) (by rfl) (by first | exact .inl rfl | exact .inr rfl))
      (by exact (pss_one (ps_ret (pe_ix ix_list (pv 4) (pe_op op_mod (pe_op op_fdiv (pv 1) pe_int) pe_int) (fun _ _ => rfl))))))))))))))))))), ?_⟩
  have s5 : (5000 : Nat) ≤ sizeLine := by decide
  have sx : x.length ≤ sizeLine := Nat.le_trans hx.1 (by decide)
  have p4 : (0 : Int) < 4 := by decide
  have p20 : (0 : Int) < 20 := by decide
  have p33 : (0 : Int) < 33 := by decide
  refine ⟨_, rfl, _, _, rfl, rfl, ⟨by decide, by decide⟩, _, rfl, x, rfl, sx, _, _, rfl, rfl, _, _, rfl, rfl, (by omega), ?_⟩
  obtain ⟨i, ei, hi⟩ : ∃ i : Nat, c / 4 % ((x.length : Int) + 1) = (i : Nat) ∧ i ≤ x.length := by
    have h1 := Int.emod_nonneg (c / 4) (show ((x.length : Int) + 1) ≠ 0 by omega)
    have h2 := Int.emod_lt_of_pos (c / 4) (show (0 : Int) < (x.length : Int) + 1 by omega)
    exact ⟨(c / 4 % ((x.length : Int) + 1)).toNat, by omega, by omega⟩
  show gName 2 (V.int (c / 4 % ((x.length : Int) + 1))) _ _ _
  rw [ei]
  have m20 := Int.emod_nonneg (c / 1600) (show (20 : Int) ≠ 0 by decide)
  have n20 := Int.emod_lt_of_pos (c / 1600) p20
  have ls : sgT.cps.toList.length = 20 := by decide +kernel
  obtain ⟨j, ch, h1, h2⟩ := atI_has (xs := sgT.cps.toList) (i := c / 1600 % 20) (by rw [ls]; omega) (by rw [ls]; omega)
  have hch : ch < 128 := sg_asc ch (List.mem_of_getElem? h2)
  refine ⟨_, rfl, _, _, rfl, rfl, ⟨by decide, by decide⟩, _, _, rfl, rfl, p20, sgT, _, ch, rfl, rfl, (by decide +kernel), h1, ?_⟩
  have c1 : ∀ i : Nat, i ≤ x.length → Txt.slice x none (some (i : Int)) = toS ((cs x).take i) := fun i h => slice_fore h
  have lt : ∀ i, (toS ((cs x).take i)).length ≤ x.length := fun i => by rw [← cs_len, cs_toS, List.length_take, cs_len]; omega
  have ld : ∀ i, (toS ((cs x).drop i)).length ≤ x.length := fun i => by rw [← cs_len, cs_toS, List.length_drop, cs_len]; omega
  have la : ∀ a b : Str, (a ++ b).length = a.length + b.length := fun a b => by rw [← cs_len, cs_app, List.length_append, cs_len, cs_len]
  have l1 : (⟨#[ch]⟩ : Str).length = 1 := rfl
  have x7 := hx.1
  refine ⟨_, rfl, _, _, rfl, rfl, p4, rfl, _, rfl, ite2 (fun _ => ?_) (fun _ => ?_)⟩
  · refine ⟨_, rfl, _, rfl, _, rfl, x, rfl, sx, ?_⟩
    rw [c1 i hi]
    refine ⟨_, rfl, _, rfl, _, _, rfl, rfl, _, rfl, x, rfl, sx, ?_⟩
    rw [show ((i : Nat) : Int) + 1 = ((i + 1 : Nat) : Int) by omega, slice_any]
    have lt := lt i
    have ld := ld (i + 1)
    refine ⟨_, _, rfl, rfl, by rw [la]; omega, q _ _ (Same.refl _) ?_⟩
    have := tg_cut hx (i := i) (j := i + 1) (by omega) [] (by decide) (fun c h => nomatch h)
    exact cast (congrArg (fun z => Tg 721 61 z) (cs_inj (by rw [cs_app, cs_app, cs_app, cs_toS, cs_toS, cs_toS, List.append_nil]))) this
  refine ⟨_, rfl, _, _, rfl, rfl, p4, rfl, _, rfl, ite2 (fun _ => ?_) (fun _ => ?_)⟩
  · refine ⟨_, rfl, _, rfl, _, rfl, x, rfl, sx, ?_⟩
    rw [c1 i hi]
    have lt := lt i
    have ld := ld i
    refine ⟨_, rfl, _, _, rfl, rfl, by rw [la]; omega, ?_⟩
    refine ⟨_, rfl, _, rfl, _, rfl, x, rfl, sx, ?_⟩
    rw [slice_any]
    exact ⟨_, _, rfl, rfl, by rw [la, la]; omega, q _ _ (Same.refl _) (tg_cut hx (i := i) (j := i) (by omega) [ch] (by show 1 ≤ 1; decide) (fun c h => by rw [List.mem_singleton.mp h]; exact hch))⟩
  refine ⟨_, rfl, _, _, rfl, rfl, p4, rfl, _, rfl, ite2 (fun _ => ?_) (fun _ => ?_)⟩
  · refine ⟨_, rfl, _, rfl, _, rfl, x, rfl, sx, ?_⟩
    rw [c1 i hi]
    have lt := lt i
    have ld := ld (i + 1)
    refine ⟨_, rfl, _, _, rfl, rfl, by rw [la]; omega, ?_⟩
    refine ⟨_, rfl, _, rfl, _, _, rfl, rfl, _, rfl, x, rfl, sx, ?_⟩
    rw [show ((i : Nat) : Int) + 1 = ((i + 1 : Nat) : Int) by omega, slice_any]
    exact ⟨_, _, rfl, rfl, by rw [la, la]; omega, q _ _ (Same.refl _) (tg_cut hx (i := i) (j := i + 1) (by omega) [ch] (by show 1 ≤ 1; decide) (fun c h => by rw [List.mem_singleton.mp h]; exact hch))⟩
  have add : ∀ {H' : Hp} {l : Addr} {xs ys : List Str} {R : VK}, H' l = some (.lst (xs.map V.str)) → Same H H' → (xs ++ ys).length ≤ sizeLine → (∀ l2 H2, H2 l2 = some (.lst ((xs ++ ys).map V.str)) → Same H H2 → R (.ref l2) H2) → tStrL ys [] H' fun y H1 => rAddL K (.ref l) y H1 R := by
    intro H' l xs ys R h1 g hz hq
    refine ⟨by rw [List.length_append] at hz; omega, fun p hp => ?_⟩
    have g2 := Same.new hp (.lst (ys.map V.str))
    refine ⟨l, p, _, _, rfl, rfl, SqL.of (g2 _ _ h1), SqL.of upd_same, by rw [List.length_map, List.length_map, ← List.length_append]; exact hz, fun l3 hl3 => ?_⟩
    refine hq l3 _ ?_ ((g.trans g2).trans (Same.new hl3 _))
    rw [List.map_append]
    exact upd_same
  have o5 : (33 : Nat) ≤ sizeLine := by decide
  have z1 : oT1.length = 11 := rfl
  have z2 : oT2.length = 9 := rfl
  have z3 : oT3.length = 2 := rfl
  have z4 : oT4.length = 8 := rfl
  have z5 : oT5.length = 3 := rfl
  refine ⟨by show 11 ≤ sizeLine; omega, fun l1 hl1 => ?_⟩
  have g1 := Same.new hl1 (.lst (oT1.map V.str))
  have e1 : upd H l1 (.lst (oT1.map V.str)) l1 = some _ := upd_same
  show tSeq _ _ _ _ (upd H l1 (.lst (oT1.map V.str)))
  generalize upd H l1 (.lst (oT1.map V.str)) = H1 at g1 e1 ⊢
  refine ⟨_, rfl, add (ys := oT2) e1 g1 (by simp only [List.length_append]; omega) fun l2 H2 e2 g2 => ?_⟩
  refine ⟨_, rfl, add (ys := oT3) e2 g2 (by simp only [List.length_append]; omega) fun l3 H3 e3 g3 => ?_⟩
  refine ⟨_, rfl, add (ys := oT4) e3 g3 (by simp only [List.length_append]; omega) fun l4 H4 e4 g4 => ?_⟩
  refine ⟨_, rfl, add (ys := oT5) e4 g4 (by simp only [List.length_append]; omega) fun l5 H5 e5 g5 => ?_⟩
  have m33 := Int.emod_nonneg (c / 4) (show (33 : Int) ≠ 0 by decide)
  have n33 := Int.emod_lt_of_pos (c / 4) p33
  have lo := oT_len
  have ho := oT_tg
  generalize oT1 ++ oT2 ++ oT3 ++ oT4 ++ oT5 = os at e5 lo ho
  obtain ⟨j, v, h3, h4⟩ := atI_has (xs := os.map V.str) (i := c / 4 % 33) (by rw [List.length_map, lo]; omega) (by rw [List.length_map, lo]; omega)
  rw [List.getElem?_map] at h4
  cases hj : os[j]? with
  | none => rw [hj] at h4; cases h4
  | some y =>
    rw [hj] at h4
    cases h4
    exact ⟨_, rfl, _, rfl, _, _, rfl, rfl, ⟨by decide, by decide⟩, _, _, rfl, rfl, p33, l5, _, _, _, rfl, rfl, SqL.of e5, h3, q y _ g5 (ho y (List.mem_of_getElem? hj))⟩
end
end K03
namespace K03
open PySem L2 Sen
section
variable {P : Program} {w : World} {K : PySem.W.Frag} {mg : Str → Option Value} {base : Heap} {a : Ad} {k : Nat}
theorem ok_law_is_text (T : Txt P w K mg a) (G_x_law_inner : FnOk P w K mg base CX0 k a.a_x_law_inner a.d_x_law_inner p_x_law_inner spInner) (G_x_law_lone : FnOk P w K mg base CX0 k a.a_x_law_lone a.d_x_law_lone p_x_law_lone spLone) :
    FnOk P w K mg base CX0 (k + 1) a.a_x_law_is_text a.d_x_law_is_text p_x_law_is_text spIsText := by
  refine T.f_x_law_is_text.F.ok sc_x_law_is_text (fun vs H Q E h => ?_) (fun cdv A outer s H vs Q E hr h => ?_)
  · obtain ⟨x, rfl, _⟩ := h
    rfl
  obtain ⟨x, rfl, hx, q⟩ := h
  refine ⟨_, (pss_cons (ps_if (pt_cmpR op_gt (pe_bm PySem.F.plainAttrs_str PySem.F.slot_str_count PySem.F.type_str_count mt_sCount (pv 0) (pa_cons pe_str pa_nil)) pe_int (nomark _)) (pss_one (ps_ret pe_bl)) pss_nil)
      (pss_cons (ps_for PassesOwn.never rfl (pi_range1 rfl T.n_range (pa_cons pe_int pa_nil)) (pg_name (i := 1) sc_x_law_is_text.nd rfl (Or.inl rfl)) (pss_cons (ps_if (pt_cmpR op_eq (pe_op op_add (pe_bm PySem.F.plainAttrs_str PySem.F.slot_str_count PySem.F.type_str_count mt_sCount (pv 0) (pa_cons pe_str pa_nil)) (pe_bm PySem.F.plainAttrs_str PySem.F.slot_str_count PySem.F.type_str_count mt_sCount (pv 0) (pa_cons pe_str pa_nil))) pe_int (nomark _)) (pss_one (ps_ret (pe_callD G_x_law_lone hr T.f_x_law_lone (pa_cons (pv 0) pa_nil)))) pss_nil)
      (pss_cons (ps_setA 0 sc_x_law_is_text.nd (pe_callD G_x_law_inner hr T.f_x_law_inner (pa_cons (pv 0) pa_nil)))
      (pss_one (ps_if (pt_cmpR op_isN (pv 0) pe_non (nomark _)) (pss_one (ps_ret pe_bl)) pss_nil)))))
      (pss_one (ps_ret pe_bl)))), ?_⟩
  have sx : x.length ≤ sizeLine := Nat.le_trans hx (by decide)
  refine ⟨_, rfl, rfl, x, "#", rfl, rfl, _, _, rfl, rfl, _, rfl, ite2 (fun e => ?_) (fun e => ?_)⟩
  · refine q false H (Same.refl _) (.inl ⟨?_, rfl⟩)
    have e : decide (Txt.count x "#" > 0) = true := e
    have e := of_decide_eq_true e
    by_cases m : 35 ∈ cs x
    · exact m
    · have := count_none.mpr m
      rw [show toS [35] = Str.ofString "#" from rfl] at this
      omega
  have nh : 35 ∉ cs x := fun m => e (decide_eq_true (by
    show Txt.count x "#" > 0
    rw [show Str.ofString "#" = toS [35] from rfl, count_eq]
    have := List.count_pos_iff.mpr m
    omega))
  have q : ∀ b H', Same H H' → IsTx 200 x b → Q (.bl b) H' := fun b H' g h => q b H' g (.inr ⟨nh, h⟩)
  refine ⟨200, rfl, by decide, by decide, ?_⟩
  refine for_range (n := 200) (fun i σ H' => ∃ (y : Str) (f1 : Option V), Same H H' ∧ y.length ≤ 5000 ∧ (∀ b, IsTx (200 - i) y b → IsTx 200 x b) ∧ σ = [some (.str y), f1]) ⟨x, _, Same.refl _, hx, fun b h => h, rfl⟩ ?_ ?_
  · rintro i σ H1 hi ⟨y, f1, g, hy, hb, rfl⟩
    obtain ⟨n, hn, hn2⟩ : ∃ n, 200 - i = n + 1 ∧ 200 - (i + 1) = n := ⟨200 - (i + 1), by omega, rfl⟩
    rw [hn] at hb
    have c1 := @count_none y 40
    have c2 := @count_none y 41
    have c3 : 0 ≤ Txt.count y (toS [40]) := by rw [count_eq]; omega
    have c4 : 0 ≤ Txt.count y (toS [41]) := by rw [count_eq]; omega
    refine ⟨_, rfl, rfl, y, "(", rfl, rfl, _, rfl, rfl, y, ")", rfl, rfl, _, _, rfl, rfl, rfl, _, rfl, ite2 (fun e => ?_) (fun e => ?_)⟩
    · have e : Txt.count y (toS [40]) + Txt.count y (toS [41]) = 0 := V.int.inj (of_decide_eq_true e)
      refine ⟨_, rfl, y, rfl, hy, fun H2 g2 => q _ _ (g.trans g2) (hb _ (.last n y ⟨c1.mp (by omega), c2.mp (by omega)⟩))⟩
    have no : ¬ (40 ∉ cs y ∧ 41 ∉ cs y) := fun ⟨z1, z2⟩ => e (decide_eq_true (congrArg V.int (by
      show Txt.count y (toS [40]) + Txt.count y (toS [41]) = 0
      rw [c1.mpr z1, c2.mpr z2]; rfl)))
    refine ⟨_, rfl, y, rfl, hy, fun y2 H2 g2 st => ?_, fun ns H2 g2 => ?_⟩
    · refine ⟨_, rfl, rfl, _, rfl, ite2 (fun e => ?_) (fun e => ?_)⟩
      · have e : V.str y2 = V.non := of_decide_eq_true e
        cases e
      · refine ⟨y2, _, g.trans g2, Nat.le_trans (stp_len st) hy, fun b h => hb b (.step n y y2 b no st ?_), rfl⟩
        rw [hn2] at h
        exact h
    · refine ⟨_, rfl, rfl, _, rfl, ite2 (fun e => ?_) (fun e => ?_)⟩
      · exact q false _ (g.trans g2) (hb _ (.none n y no ns))
      · exact absurd (decide_eq_true rfl) e
  · rintro σ H1 ⟨y, f1, g, hy, hb, rfl⟩
    exact q false _ g (hb _ (.out y))
end
end K03
namespace K03
open PySem L2 Sen
section
variable {P : Program} {w : World} {K : PySem.W.Frag} {mg : Str → Option Value} {base : Heap} {a : Ad} {k : Nat}
theorem ok_law_deepest (T : Txt P w K mg a) : FnOk P w K mg base CX0 (k + 1) a.a_x_law_deepest a.d_x_law_deepest p_x_law_deepest spDeepest := by
  refine T.f_x_law_deepest.F.ok sc_x_law_deepest (fun vs H Q E h => ?_) (fun cdv A outer s H vs Q E hr h => ?_)
  · obtain ⟨x, rfl, _⟩ := h
    rfl
  obtain ⟨x, rfl, hx, q⟩ := h
  refine ⟨_, (pss_cons (ps_setA 1 sc_x_law_deepest.nd pe_int)
      (pss_cons (ps_setA 2 sc_x_law_deepest.nd pe_int)
      (pss_cons (ps_for PassesOwn.never rfl (pi_str (pv 0)) (pg_name (i := 3) sc_x_law_deepest.nd rfl (Or.inl rfl)) (pss_cons (ps_setA 2 sc_x_law_deepest.nd (pe_op op_sub (pe_op op_add (pv 2) (pe_callTy call_int1 rfl T.n_int bt_int (pa_cons (pe_cmpR op_eq (pv 3) pe_str (nomark _)) pa_nil))) (pe_callTy call_int1 rfl T.n_int bt_int (pa_cons (pe_cmpR op_eq (pv 3) pe_str (nomark _)) pa_nil))))
      (pss_one (ps_setA 1 sc_x_law_deepest.nd (pe_callB (call_max2 rfl) rfl T.n_max bt_max (pa_cons (pv 1) (pa_cons (pe_op op_add (pv 2) pe_int) pa_nil)))))))
      (pss_one (ps_ret (pv 1)))))), ?_⟩
  have e40 : ∀ c : Nat, decide (V.str ⟨#[c]⟩ = V.str (Str.ofString "(")) = decide (c = 40) := fun c => by
    by_cases h : c = 40
    · rw [h]; rfl
    · rw [decide_eq_false h]
      exact decide_eq_false fun z => h (by
        have z := V.str.inj z
        have z : (⟨#[c]⟩ : Str) = ⟨#[40]⟩ := z
        injection z with z
        have := congrArg Array.toList z
        have this : [c] = [40] := this
        injection this)
  have e41 : ∀ c : Nat, decide (V.str ⟨#[c]⟩ = V.str (Str.ofString ")")) = decide (c = 41) := fun c => by
    by_cases h : c = 41
    · rw [h]; rfl
    · rw [decide_eq_false h]
      exact decide_eq_false fun z => h (by
        have z := V.str.inj z
        have z : (⟨#[c]⟩ : Str) = ⟨#[41]⟩ := z
        injection z with z
        have := congrArg Array.toList z
        have this : [c] = [41] := this
        injection this)
  refine ⟨_, rfl, x, rfl, hx, ?_⟩
  refine for_str (fun i σ H' => H' = H ∧ ∃ (f3 : Option V), σ = [some (.str x), some (.int (dpl ((cs x).take i)).2), some (.int (dpl ((cs x).take i)).1), f3]) ⟨rfl, _, rfl⟩ ?_ ?_
  · rintro i c σ H1 hc ⟨rfl, f3, rfl⟩
    have hc : (cs x)[i]? = some c := by rw [← Array.getElem?_toList] at hc; exact hc
    have es : dpl ((cs x).take (i + 1)) = dpc (dpl ((cs x).take i)) c := by
      unfold dpl
      rw [List.take_add_one, hc, List.foldl_append]
      rfl
    generalize dpl ((cs x).take i) = p at es ⊢
    refine ⟨_, rfl, _, rfl, rfl, .inr ⟨_, rfl, _, _, rfl, rfl, _, rfl, rfl, .inr ⟨_, rfl, _, _, rfl, rfl, ?_⟩⟩⟩
    refine ⟨_, rfl, _, rfl, _, _, rfl, rfl, _, _, rfl, ?_⟩
    refine ⟨rfl, some (.str ⟨#[c]⟩), ?_⟩
    have o1 : p.1 + (if decide (V.str ⟨#[c]⟩ = V.str (Str.ofString "(")) = true then 1 else 0) - (if decide (V.str ⟨#[c]⟩ = V.str (Str.ofString ")")) = true then 1 else 0) = (dpc p c).1 := by
      rw [e40, e41]
      unfold dpc
      simp only [decide_eq_true_eq]
    have o2 : (if (dpc p c).1 + 1 > p.2 then (dpc p c).1 + 1 else p.2) = (dpc p c).2 := by
      show _ = max p.2 ((dpc p c).1 + 1)
      split <;> omega
    rw [es, ← o2, ← o1]
    rfl
  · rintro σ H1 ⟨rfl, f3, rfl⟩
    refine ⟨_, rfl, ?_⟩
    have : (cs x).take x.cps.size = cs x := by rw [show x.cps.size = (cs x).length from Array.length_toList.symm, List.take_length]
    rw [this]
    exact q
end
end K03
namespace K03
open PySem L2 Sen
section
variable {P : Program} {w : World} {K : PySem.W.Frag} {mg : Str → Option Value} {base : Heap} {a : Ad} {k : Nat}
theorem okX_read (T : Txt P w K mg a) (G_read_sentence : FnOk P w K mg base (CXE P w) k a.a_read_sentence a.d_read_sentence p_read_sentence (spReadS a.a_NoNote 24)) (G_is_sentence : FnOk P w K mg base (CXE P w) k a.a_is_sentence a.d_is_sentence p_is_sentence spIsSenX) :
    FnOk P w K mg base (CXE P w) (k + 1) a.a_read a.d_read p_read (spRead a.a_NoNote) := by
  refine T.f_read.F.okE sc_read (fun vs H Q E h => ?_) (fun cdv A outer s H vs Q E hr h => ?_)
  · obtain ⟨x, rfl, _⟩ := h
    rfl
  obtain ⟨x, rfl, hx, q, qE⟩ := h
  refine ⟨_, (pss_cons (ps_set (i := 1) sc_read.nd rfl (Or.inl rfl) (pe_callDX passE G_read_sentence hr T.f_read_sentence (pa_cons (pv 0) (pa_cons pe_int (pa_cons (pe_glob (v := .int 24) rfl T.m_MOST_DEEP ⟨_, rfl⟩) pa_nil)))))
      (pss_cons (ps_if (pt_cmpR op_ne (pe_ix ix_tup (pv 1) pe_int (fun _ _ => rfl)) (pe_callB call_len_str rfl T.n_len bt_len (pa_cons (pv 0) pa_nil)) (nomark _)) (pss_one (ps_raise rfl rfl T.xc_NoNote.own rfl T.m_NoNote raisesE (pa_cons pe_str pa_nil))) pss_nil)
      (pss_cons (ps_if (pt_not (pt_truth (pe_callDX passE G_is_sentence hr T.f_is_sentence (pa_cons (pe_ix ix_tup (pv 1) pe_int (fun _ _ => rfl)) pa_nil)) (fun _ => rfl))) (pss_one (ps_raise rfl rfl T.xc_NoNote.own rfl T.m_NoNote raisesE (pa_cons pe_str pa_nil))) pss_nil)
      (pss_one (ps_ret (pe_ix ix_tup (pv 1) pe_int (fun _ _ => rfl))))))), ?_⟩
  have hz : x.length ≤ sizeLine := Nat.le_trans hx (by decide)
  refine ⟨_, rfl, x, 0, rfl, Nat.zero_le _, hx, fun s9 n t p H1 h1 g1 ht hp => ?_, fun h1 H1 g1 => ?_⟩
  · have h1 : rdS 24 (cs x) = some (s9, n) := h1
    refine ⟨_, rfl, t, _, 1, _, rfl, rfl, SqT.of ht, at1, _, rfl, x, rfl, hz, rfl, _, rfl, ite2 (fun e => ?_) (fun e => ?_)⟩
    · have ne : n ≠ x.length := fun z => by
        have e : (!decide (V.int ((0 + n : Nat)) = V.int (x.length : Nat))) = true := e
        rw [z, Nat.zero_add, decide_eq_true rfl] at e
        cases e
      exact ⟨by show 1 ≤ sizeLine; decide, qE (by unfold rdT; rw [h1]; dsimp only; rw [if_neg ne]) H1 g1⟩
    · have en : n = x.length := by
        apply Classical.byContradiction
        intro z
        refine e ?_
        show (!decide (V.int ((0 + n : Nat)) = V.int (x.length : Nat))) = true
        rw [decide_eq_false (fun y => z (by have := V.int.inj y; omega))]; rfl
      have hT : rdT x = if lev 24 0 [trS s9] = true then some s9 else none := by unfold rdT; rw [h1]; dsimp only; rw [if_pos en]
      refine ⟨_, rfl, t, _, 0, .ref p, rfl, rfl, SqT.of ht, at0, p, trS s9, rfl, sen_tree hp, fun H2 g2 => ⟨_, rfl, ?_⟩⟩
      cases hv : lev 24 0 [trS s9] with
      | true =>
        rw [hv, if_pos rfl] at hT
        exact iteF ⟨_, rfl, t, _, 0, .ref p, rfl, rfl, SqT.of (g2 _ _ ht), at0, q s9 p H2 hT (g1.trans g2) (IsS.mono (Tups.of g2) hp)⟩
      | false =>
        rw [hv, if_neg Bool.false_ne_true] at hT
        exact iteT ⟨by show 1 ≤ sizeLine; decide, qE hT H2 (g1.trans g2)⟩
  · have h1 : rdS 24 (cs x) = none := h1
    exact qE (by unfold rdT; rw [h1]) H1 g1
end
end K03
namespace K03
open PySem L2 Sen
section
variable {P : Program} {w : World} {K : PySem.W.Frag} {mg : Str → Option Value} {base : Heap} {a : Ad} {k : Nat}
theorem okX_read_sentence_step {d : Nat} (T : Txt P w K mg a) (G_behind_word : FnOk P w K mg base (CXE P w) k a.a_behind_word a.d_behind_word p_behind_word spBehindWord) (G_is_mark : FnOk P w K mg base (CXE P w) k a.a_is_mark a.d_is_mark p_is_mark spIsMark)
    (G_read_letters : FnOk P w K mg base (CXE P w) k a.a_read_letters a.d_read_letters p_read_letters (spReadL a.a_NoNote)) (G_read_parts : FnOk P w K mg base (CXE P w) k a.a_read_parts a.d_read_parts p_read_parts (spReadP a.a_NoNote d)) :
    FnOk P w K mg base (CXE P w) (k + 1) a.a_read_sentence a.d_read_sentence p_read_sentence (spReadS a.a_NoNote (d + 1)) := by
  refine T.f_read_sentence.F.okE sc_read_sentence (fun vs H Q E h => ?_) (fun cdv A outer s H vs Q E hr h => ?_)
  · obtain ⟨x, i, rfl, _⟩ := h
    rfl
  obtain ⟨x, i, rfl, hi, hx, q, qE⟩ := h
  refine ⟨_, (pss_cons (ps_if (pt_cmpR op_eq (pv 2) pe_int (nomark _)) (pss_one (ps_raise rfl rfl T.xc_NoNote.own rfl T.m_NoNote raisesE (pa_cons pe_str pa_nil))) pss_nil)
      (pss_cons (ps_set (i := 3) sc_read_sentence.nd rfl (Or.inl rfl) (pe_callDX passE G_behind_word hr T.f_behind_word (pa_cons (pv 0) (pa_cons (pv 1) pa_nil))))
      (pss_cons (ps_set (i := 4) sc_read_sentence.nd rfl (Or.inl rfl) (pe_slice sl_str (pv 0) (po_some (pv 1)) (po_some (pv 3))))
      (pss_cons (ps_if (pt_truth (pe_callDX passE G_is_mark hr T.f_is_mark (pa_cons (pv 4) pa_nil)) (fun _ => rfl)) (pss_one (ps_ret (pe_tup (pa_cons (pe_tup (pa_cons pe_str (pa_cons (pv 4) pa_nil))) (pa_cons (pv 3) pa_nil))))) pss_nil)
      (pss_cons (ps_if (PW.pt (pw_or (pt_cmpR op_eq (pv 4) pe_str (nomark _)) (pw_or1 (pt_cmpR (op_notIn_dicK T.h_SHAPES.d) (pv 4) (pe_glob (v := .ref a.a_SHAPES) rfl T.m_SHAPES rfl) (by with_unfolding_all rfl))))) (pss_one (ps_raise rfl rfl T.xc_NoNote.own rfl T.m_NoNote raisesE (pa_cons (pe_fst (pfs_cons pf_str (pfs_cons (pf_int (pv 1)) pfs_nil))) pa_nil))) pss_nil)
      (pss_cons (ps_set (i := 5) sc_read_sentence.nd rfl (Or.inl rfl) (pe_callDX passE G_read_letters hr T.f_read_letters (pa_cons (pv 0) (pa_cons (pv 3) (pa_cons (pe_ix ix_tup (pe_ix (ix_dicK T.h_SHAPES.d) (pe_glob (v := .ref a.a_SHAPES) rfl T.m_SHAPES rfl) (pv 4) (fun _ _ => rfl)) pe_int (fun _ _ => rfl)) pa_nil)))))
      (pss_cons (ps_set (i := 6) sc_read_sentence.nd rfl (Or.inl rfl) (pe_callDX passE G_read_parts hr T.f_read_parts (pa_cons (pv 0) (pa_cons (pe_ix ix_tup (pv 5) pe_int (fun _ _ => rfl)) (pa_cons (pe_ix ix_tup (pe_ix (ix_dicK T.h_SHAPES.d) (pe_glob (v := .ref a.a_SHAPES) rfl T.m_SHAPES rfl) (pv 4) (fun _ _ => rfl)) pe_int (fun _ _ => rfl)) (pa_cons (pe_op op_sub (pv 2) pe_int) pa_nil))))))
      (pss_one (ps_ret (pe_tup (pa_cons (pe_op op_addT1 (pe_op op_addT1 (pe_tup (pa_cons (pv 4) pa_nil)) (pe_ix ix_tup (pv 5) pe_int (fun _ _ => rfl))) (pe_ix ix_tup (pv 6) pe_int (fun _ _ => rfl))) (pa_cons (pe_ix ix_tup (pv 6) pe_int (fun _ _ => rfl)) pa_nil)))))))))))), ?_⟩
  have hz : x.length ≤ sizeLine := Nat.le_trans hx (by decide)
  have hl := cs_drop_len (x := x) (i := i)
  have ha := alps_le ((cs x).drop i)
  refine ⟨_, rfl, rfl, _, rfl, ite2 (fun e => ?_) (fun _ => ?_)⟩
  · have := V.int.inj (of_decide_eq_true e); omega
  refine ⟨_, rfl, _, rfl, x, i, rfl, hi, hx, ?_⟩
  generalize en : alps ((cs x).drop i) = n at ha
  have hn : i + n ≤ x.length := by omega
  refine ⟨_, rfl, _, rfl, _, rfl, _, rfl, _, rfl, x, rfl, hz, ?_⟩
  have es : Txt.slice x (some ((i : Nat) : Int)) (some ((i + n : Nat) : Int)) = toS (((cs x).drop i).take n) := by
    rw [slice_mid (x := x) (i := i) (j := i + n) (by omega) hi, show i + n - i = n by omega]
  show gName 4 (V.str (Txt.slice x (some ((i : Nat) : Int)) (some ((i + n : Nat) : Int)))) _ _ _
  rw [es]
  generalize ew : toS (((cs x).drop i).take n) = wd
  have hR := rdS_eq (d := d) en ew
  have hi5 : i ≤ 5000 := Nat.le_trans hi hx
  refine ⟨_, rfl, wd, rfl, _, rfl, ?_⟩
  by_cases hw : wd ∈ letts
  · rw [if_pos hw] at hR
    rw [decide_eq_true hw]
    refine iteT ⟨_, rfl, by show 2 ≤ sizeLine; decide, fun t1 h1 => ⟨_, rfl, by show 2 ≤ sizeLine; decide, fun t2 h2 => ?_⟩⟩
    have g1 := Same.new h1 (.tup [.str "mark", .str wd])
    have e1 : upd H t1 (.tup [.str "mark", .str wd]) t1 = some _ := upd_same
    have g2 := Same.new h2 (.tup [.ref t1, .int ((i + n : Nat))])
    exact q (.mk wd) n t2 t1 _ hR (g1.trans g2) upd_same (g2 _ _ e1)
  rw [if_neg hw] at hR
  rw [decide_eq_false hw]
  refine iteF ?_
  have bad : rdS (d + 1) ((cs x).drop i) = none → E (.ref a.a_NoNote) none H := fun h => qE h H (Same.refl _)
  refine ⟨_, rfl, rfl, _, rfl, ite2 (fun e => ?_) (fun e => ?_)⟩
  · have e := V.str.inj (of_decide_eq_true e)
    rw [if_pos e] at hR
    exact iteT ⟨_, rfl, (i : Nat), rfl, log_small hi5, fun y => ⟨by show 1 ≤ sizeLine; decide, bad hR⟩⟩
  have nm : wd ≠ "mark" := fun z => e (by rw [z]; exact decide_eq_true rfl)
  rw [if_neg nm] at hR
  refine ⟨_, rfl, wd, rfl, rfl, _, rfl, ?_⟩
  cases el : lk wd with
  | none =>
    rw [el] at hR
    rw [T.h_SHAPES.z wd (lk_none el)]
    exact iteT ⟨_, rfl, (i : Nat), rfl, log_small hi5, fun y => ⟨by show 1 ≤ sizeLine; decide, bad hR⟩⟩
  | some mn =>
  obtain ⟨m, kk⟩ := mn
  rw [el] at hR
  obtain ⟨hs, m1, n2⟩ := lk_some el
  obtain ⟨pt, hv, hpt⟩ := T.h_SHAPES.y _ _ _ hs
  rw [hv]
  refine iteF ?_
  refine ⟨_, rfl, _, rfl, _, rfl, wd, .ref pt, .ref pt, rfl, rfl, hv, rfl, pt, _, 0, _, rfl, rfl, hpt H, at0, x, i + n, m, rfl, hn, hx, m1, fun ls n1 t1 l1 H1 h1 g1 ht1 hl1 => ?_, fun h1 H1 g1 => ?_⟩
  · have hR : rdS (d + 1) ((cs x).drop i) = (match rdP (rdS d) kk ((cs x).drop (i + n + n1)) with
          | none => none
          | some (ss, n2) => (mkS wd ls ss).map fun s => (s, n + n1 + n2)) := by rw [hR]; dsimp only; rw [h1]; all_goals rfl
    have hb1 := rdL_le h1
    rw [cs_drop_len] at hb1
    refine ⟨_, rfl, _, rfl, t1, _, 1, _, rfl, rfl, SqT.of ht1, at1, _, rfl, wd, .ref pt, .ref pt, rfl, rfl, hv, rfl, pt, _, 1, _, rfl, rfl, hpt H1, at1, _, rfl, _, 1, rfl, rfl, x, i + n + n1, kk, ?_, by omega, hx, n2, fun ss n3 t2 l2 ps H2 h2 g2 ht2 hl2 pd => ?_, fun h2 H2 g2 => ?_⟩
    · show [V.str x, V.int ((i + n + n1 : Nat)), V.int (kk : Nat), V.int ((((d + 1 : Nat) : Int)) - 1)] = _
      rw [show (((d + 1 : Nat) : Int)) - 1 = (d : Nat) by omega]
    · have lls := rdL_len h1
      have lss := rdP_len h2
      have lps : ps.length = ss.length := (pd_len pd).symm
      refine ⟨_, rfl, by show 1 ≤ sizeLine; decide, fun u1 hu1 => ?_⟩
      have g3 := Same.new hu1 (.tup [.str wd])
      have e3 : upd H2 u1 (.tup [.str wd]) u1 = some _ := upd_same
      generalize upd H2 u1 _ = H3 at g3 e3 ⊢
      have g23 := g2.trans g3
      refine ⟨_, rfl, t1, _, 0, .ref l1, rfl, rfl, SqT.of (g23 _ _ ht1), at0, u1, l1, _, _, rfl, rfl, e3, g23 _ _ hl1, Nat.le_trans (show 1 + (ls.map V.str).length ≤ 5 by rw [List.length_map]; omega) (by decide), fun u2 H4 g4 hu2 => ?_⟩
      have g34 := g3.trans g4
      refine ⟨_, rfl, t2, _, 0, .ref l2, rfl, rfl, SqT.of (g34 _ _ ht2), at0, u2, l2, _, _, rfl, rfl, hu2, g34 _ _ hl2, Nat.le_trans (show ([V.str wd] ++ ls.map V.str).length + (ps.map V.ref).length ≤ 9 by rw [List.length_append, List.length_map, List.length_map]; show 1 + ls.length + ps.length ≤ 9; omega) (by decide), fun u3 H5 g5 hu3 => ?_⟩
      have g35 := g34.trans g5
      refine ⟨_, rfl, t2, _, 1, _, rfl, rfl, SqT.of (g35 _ _ ht2), at1, by show 2 ≤ sizeLine; decide, fun u4 hu4 => ?_⟩
      have g6 := Same.new hu4 (.tup [.ref u3, .int ((i + n + n1 + n3 : Nat))])
      have pd5 : Paired (IsS H5) ss ps := pd_imp (fun _ _ z => IsS.mono (Tups.of g35) z) pd
      rw [List.append_assoc] at hu3
      obtain ⟨s9, hs9, is9⟩ := mkS_ok el nm lls lss pd5 hu3
      refine q s9 (n + n1 + n3) u4 u3 _ ?_ ((g1.trans g2).trans (g35.trans g6)) ?_ (IsS.mono (Tups.of g6) is9)
      · rw [hR, h2]
        dsimp only
        rw [hs9]
        rfl
      · show upd H5 u4 (.tup [.ref u3, .int ((i + n + n1 + n3 : Nat))]) u4 = _
        rw [upd_same, show i + n + n1 + n3 = i + (n + n1 + n3) by omega]
    · refine qE ?_ _ (g1.trans g2)
      rw [hR, h2]
  · refine qE ?_ _ g1
    rw [hR]
    dsimp only
    rw [h1]
theorem okX_read_sentence (T : Txt P w K mg a) (G_behind_word : FnOk P w K mg base (CXE P w) k a.a_behind_word a.d_behind_word p_behind_word spBehindWord) (G_is_mark : FnOk P w K mg base (CXE P w) k a.a_is_mark a.d_is_mark p_is_mark spIsMark)
    (G_read_letters : FnOk P w K mg base (CXE P w) k a.a_read_letters a.d_read_letters p_read_letters (spReadL a.a_NoNote)) (G_behind_piece : FnOk P w K mg base (CXE P w) k a.a_behind_piece a.d_behind_piece p_behind_piece (spPiece a.a_NoNote))
    (hP : ∀ (d n : Nat), FnOk P w K mg base (CXE P w) n a.a_behind_piece a.d_behind_piece p_behind_piece (spPiece a.a_NoNote) → FnOk P w K mg base (CXE P w) n a.a_read_sentence a.d_read_sentence p_read_sentence (spReadS a.a_NoNote d) → FnOk P w K mg base (CXE P w) (n + 1) a.a_read_parts a.d_read_parts p_read_parts (spReadP a.a_NoNote d))
    (h0 : FnOk P w K mg base (CXE P w) k a.a_read_sentence a.d_read_sentence p_read_sentence (spReadS a.a_NoNote 0)) : ∀ d : Nat, FnOk P w K mg base (CXE P w) (k + 2 * d) a.a_read_sentence a.d_read_sentence p_read_sentence (spReadS a.a_NoNote d)
  | 0 => h0
  | d + 1 => okX_read_sentence_step (k := k + 2 * d + 1) T (G_behind_word.mono (by omega)) (G_is_mark.mono (by omega)) (G_read_letters.mono (by omega)) (hP d (k + 2 * d) (G_behind_piece.mono (by omega)) (okX_read_sentence T G_behind_word G_is_mark G_read_letters G_behind_piece hP h0 d))
theorem okX_read_sentence0 (T : Txt P w K mg a) : FnOk P w K mg base (CXE P w) (k + 1) a.a_read_sentence a.d_read_sentence p_read_sentence (spReadS a.a_NoNote 0) := by
  refine T.f_read_sentence.F.okE sc_read_sentence (fun vs H Q E h => ?_) (fun cdv A outer s H vs Q E hr h => ?_)
  · obtain ⟨x, i, rfl, _⟩ := h
    rfl
  obtain ⟨x, i, rfl, hi, hx, q, qE⟩ := h
  refine ⟨_, (pss_cons (ps_if (pt_cmpR op_eq (pv 2) pe_int (nomark _)) (pss_one (ps_raise rfl rfl T.xc_NoNote.own rfl T.m_NoNote raisesE (pa_cons pe_str pa_nil))) pss_nil)
      pss_never), ?_⟩
  refine ⟨_, rfl, rfl, _, rfl, ite2 (fun e => ?_) (fun e => absurd (decide_eq_true rfl) e)⟩
  exact ⟨by show 1 ≤ sizeLine; decide, qE rfl H (Same.refl _)⟩
end
end K03
namespace K03
open PySem L2 Sen
section
variable {P : Program} {w : World} {K : PySem.W.Frag} {mg : Str → Option Value} {base : Heap} {a : Ad} {k : Nat}
theorem okX_read_letters (T : Txt P w K mg a) (G_behind_piece : FnOk P w K mg base (CXE P w) k a.a_behind_piece a.d_behind_piece p_behind_piece (spPiece a.a_NoNote)) (G_is_mark : FnOk P w K mg base (CXE P w) k a.a_is_mark a.d_is_mark p_is_mark spIsMark) :
    FnOk P w K mg base (CXE P w) (k + 1) a.a_read_letters a.d_read_letters p_read_letters (spReadL a.a_NoNote) := by
  refine T.f_read_letters.F.okE sc_read_letters (fun vs H Q E h => ?_) (fun cdv A outer s H vs Q E hr h => ?_)
  · obtain ⟨x, i, m, rfl, _⟩ := h
    rfl
  obtain ⟨x, i, m, rfl, hi, hx, hm, q, qE⟩ := h
  refine ⟨_, (pss_cons (ps_set (i := 3) sc_read_letters.nd rfl (Or.inl rfl) (pe_tup pa_nil))
      (pss_cons (ps_for PassesOwn.leaving rfl (pi_range1 rfl T.n_range (pa_cons (pv 2) pa_nil)) (pg_name (i := 4) sc_read_letters.nd rfl (Or.inl rfl)) (pss_cons (ps_set (i := 1) sc_read_letters.nd rfl (Or.inl rfl) (pe_callDX passE G_behind_piece hr T.f_behind_piece (pa_cons (pv 0) (pa_cons (pv 1) (pa_cons pe_str pa_nil)))))
      (pss_cons (ps_set (i := 5) sc_read_letters.nd rfl (Or.inl rfl) (pe_slice sl_str (pv 0) (po_some (pv 1)) (po_some (pe_op op_add (pv 1) pe_int))))
      (pss_cons (ps_if (pt_not (pt_truth (pe_callDX passE G_is_mark hr T.f_is_mark (pa_cons (pv 5) pa_nil)) (fun _ => rfl))) (pss_one (ps_raise rfl rfl T.xc_NoNote.own rfl T.m_NoNote raisesE (pa_cons (pe_fst (pfs_cons pf_str (pfs_cons (pf_int (pv 1)) pfs_nil))) pa_nil))) pss_nil)
      (pss_cons (ps_set (i := 3) sc_read_letters.nd rfl (Or.inl rfl) (pe_op op_addT1 (pv 3) (pe_tup (pa_cons (pv 5) pa_nil))))
      (pss_one (ps_aug (i := 1) sc_read_letters.nd rfl (Or.inl rfl) pe_int iop_add)))))))
      (pss_one (ps_ret (pe_tup (pa_cons (pv 3) (pa_cons (pv 1) pa_nil))))))), ?_⟩
  refine ⟨by show 0 ≤ sizeLine; decide, fun l0 hl0 => ?_⟩
  have g1 := Same.new hl0 (.tup [])
  have e1 : upd H l0 (.tup []) l0 = some _ := upd_same
  generalize upd H l0 _ = H1 at g1 e1 ⊢
  refine ⟨_, rfl, (m : Nat), rfl, by omega, by omega, ?_⟩
  match m, hm with
  | 0, _ =>
    refine for_range (n := 0) (fun _ σ H' => H' = H1 ∧ σ = [some (.str x), some (.int (i : Nat)), some (.int (0 : Nat)), some (.ref l0), none, none]) ⟨rfl, rfl⟩ (fun i σ H' h => absurd h (Nat.not_lt_zero _)) ?_
    rintro σ H' ⟨rfl, rfl⟩
    refine ⟨_, rfl, _, rfl, by show 2 ≤ sizeLine; decide, fun t ht => ?_⟩
    have g2 := Same.new ht (.tup [.ref l0, .int (i : Nat)])
    exact q [] 0 t l0 _ rfl (g1.trans g2) upd_same (g2 _ _ e1)
  | 1, _ =>
    have hl := cs_drop_len (x := x) (i := i)
    have hi5 : i ≤ 5000 := Nat.le_trans hi hx
    refine for_range (n := 1) (fun j σ H' => (j = 0 ∧ H' = H1 ∧ σ = [some (.str x), some (.int (i : Nat)), some (.int (1 : Nat)), some (.ref l0), none, none]) ∨ (j = 1 ∧ ∃ (l : Addr) (f4 f5 : Option V), Same H1 H' ∧ rdL 1 ((cs x).drop i) = some ([toS ((((cs x).drop i).drop 1).take 1)], 2) ∧ H' l = some (.tup [.str (toS ((((cs x).drop i).drop 1).take 1))]) ∧ σ = [some (.str x), some (.int ((i + 2 : Nat))), some (.int (1 : Nat)), some (.ref l), f4, f5])) (.inl ⟨rfl, rfl, rfl⟩) ?_ ?_
    · rintro j σ H' hj (⟨rfl, rfl, rfl⟩ | ⟨rfl, _⟩)
      · refine ⟨_, rfl, _, rfl, x, " ", i, rfl, hi, hx, by decide, by decide +kernel, fun hs => ?_, fun hs => ?_⟩
        · have hs : ((cs x).drop i).take 1 = [32] := hs
          have h1 : i + 1 ≤ x.length := by
            have := congrArg List.length hs
            rw [List.length_take, hl] at this
            have : min 1 (x.length - i) = 1 := this
            omega
          have hz : x.length ≤ sizeLine := Nat.le_trans hx (by decide)
          have es : Txt.slice x (some ((i + 1 : Nat) : Int)) (some (((i + 1 : Nat) : Int) + 1)) = toS ((((cs x).drop i).drop 1).take 1) := by
            have := slice_mid (x := x) (i := i + 1) (j := i + 2) (by omega) h1
            rw [List.drop_drop, show (((i + 1 : Nat) : Int) + 1) = ((i + 2 : Nat) : Int) by omega, this, show i + 2 - (i + 1) = 1 by omega]
          refine ⟨_, rfl, _, rfl, _, rfl, _, rfl, _, 1, rfl, rfl, _, rfl, x, rfl, hz, ?_⟩
          show gName 5 (V.str (Txt.slice x (some ((i + 1 : Nat) : Int)) (some (((i + 1 : Nat) : Int) + 1)))) _ _ _
          rw [es]
          generalize ey : toS ((((cs x).drop i).drop 1).take 1) = y
          refine ⟨_, rfl, y, rfl, _, rfl, ?_⟩
          by_cases hy : y ∈ letts
          · rw [decide_eq_true hy]
            refine iteF ⟨_, rfl, _, rfl, by show 1 ≤ sizeLine; decide, fun t ht => ?_⟩
            have g2 := Same.new ht (.tup [.str y])
            refine ⟨l0, t, [], [.str y], rfl, rfl, g2 _ _ e1, upd_same, by show 0 + 1 ≤ sizeLine; decide, fun l H' g hl => ?_⟩
            refine ⟨_, rfl, _, 1, rfl, rfl, .inr ⟨rfl, l, some (.int ((0 : Int) + ((0 : Nat) : Int))), some (.str y), g2.trans g, ?_, hl, rfl⟩⟩
            unfold rdL
            rw [ey, if_pos ⟨hs, hy⟩]
            rfl
          · rw [decide_eq_false hy]
            refine iteT ⟨_, rfl, ((i + 1 : Nat) : Int), rfl, log_small (by omega), fun y9 => ⟨by show 1 ≤ sizeLine; decide, qE ?_ _ g1⟩⟩
            unfold rdL
            rw [ey, if_neg (fun z => hy z.2)]
        · refine qE ?_ _ g1
          have hs : ((cs x).drop i).take 1 ≠ [32] := hs
          unfold rdL
          rw [if_neg (fun z => hs z.1)]
      · omega
    · rintro σ H' (⟨h, _⟩ | ⟨_, l, f4, f5, g2, hr2, hl2, rfl⟩)
      · cases h
      · refine ⟨_, rfl, _, rfl, by show 2 ≤ sizeLine; decide, fun t ht => ?_⟩
        have g3 := Same.new ht (.tup [.ref l, .int ((i + 2 : Nat))])
        exact q _ 2 t l _ hr2 ((g1.trans g2).trans g3) upd_same (g3 _ _ hl2)
end
end K03
namespace K03
open PySem L2 Sen
section
variable {P : Program} {w : World} {K : PySem.W.Frag} {mg : Str → Option Value} {base : Heap} {a : Ad} {k : Nat}
theorem okX_read_parts {d : Nat} (T : Txt P w K mg a) (G_behind_piece : FnOk P w K mg base (CXE P w) k a.a_behind_piece a.d_behind_piece p_behind_piece (spPiece a.a_NoNote)) (G_read_sentence : FnOk P w K mg base (CXE P w) k a.a_read_sentence a.d_read_sentence p_read_sentence (spReadS a.a_NoNote d)) :
    FnOk P w K mg base (CXE P w) (k + 1) a.a_read_parts a.d_read_parts p_read_parts (spReadP a.a_NoNote d) := by
  refine T.f_read_parts.F.okE sc_read_parts (fun vs H Q E h => ?_) (fun cdv A outer s H vs Q E hr h => ?_)
  · obtain ⟨x, i, m, rfl, _⟩ := h
    rfl
  obtain ⟨x, i, kk, rfl, hi, hx, hk, q, qE⟩ := h
  refine ⟨_, (pss_cons (ps_set (i := 4) sc_read_parts.nd rfl (Or.inl rfl) (pe_tup pa_nil))
      (pss_cons (ps_if (pt_cmpR op_eq (pv 2) pe_int (nomark _)) (pss_one (ps_ret (pe_tup (pa_cons (pv 4) (pa_cons (pv 1) pa_nil))))) pss_nil)
      (pss_cons (ps_set (i := 1) sc_read_parts.nd rfl (Or.inl rfl) (pe_callDX passE G_behind_piece hr T.f_behind_piece (pa_cons (pv 0) (pa_cons (pv 1) (pa_cons pe_str pa_nil)))))
      (pss_cons (ps_for PassesOwn.leaving rfl (pi_range1 rfl T.n_range (pa_cons (pv 2) pa_nil)) (pg_name (i := 5) sc_read_parts.nd rfl (Or.inl rfl)) (pss_cons (ps_if (pt_cmpR op_gt (pv 5) pe_int (nomark _)) (pss_one (ps_set (i := 1) sc_read_parts.nd rfl (Or.inl rfl) (pe_callDX passE G_behind_piece hr T.f_behind_piece (pa_cons (pv 0) (pa_cons (pv 1) (pa_cons pe_str pa_nil)))))) pss_nil)
      (pss_cons (ps_set (i := 6) sc_read_parts.nd rfl (Or.inl rfl) (pe_callDX passE G_read_sentence hr T.f_read_sentence (pa_cons (pv 0) (pa_cons (pv 1) (pa_cons (pv 3) pa_nil)))))
      (pss_cons (ps_set (i := 4) sc_read_parts.nd rfl (Or.inl rfl) (pe_op op_addT1 (pv 4) (pe_tup (pa_cons (pe_ix ix_tup (pv 6) pe_int (fun _ _ => rfl)) pa_nil))))
      (pss_one (ps_set (i := 1) sc_read_parts.nd rfl (Or.inl rfl) (pe_ix ix_tup (pv 6) pe_int (fun _ _ => rfl))))))))
      (pss_one (ps_ret (pe_tup (pa_cons (pv 4) (pa_cons (pe_callDX passE G_behind_piece hr T.f_behind_piece (pa_cons (pv 0) (pa_cons (pv 1) (pa_cons pe_str pa_nil)))) pa_nil))))))))), ?_⟩
  refine ⟨by show 0 ≤ sizeLine; decide, fun l0 hl0 => ?_⟩
  have g1 := Same.new hl0 (.tup [])
  have e1 : upd H l0 (.tup []) l0 = some _ := upd_same
  generalize upd H l0 _ = H1 at g1 e1 ⊢
  refine ⟨_, rfl, rfl, _, rfl, ite2 (fun e => ?_) (fun e => ?_)⟩
  · have e : kk = 0 := by have := V.int.inj (of_decide_eq_true e); omega
    subst e
    refine ⟨_, rfl, _, rfl, by show 2 ≤ sizeLine; decide, fun t ht => ?_⟩
    have g2 := Same.new ht (.tup [.ref l0, .int (i : Nat)])
    exact q [] 0 t l0 [] _ rfl (g1.trans g2) upd_same (g2 _ _ e1) .nil
  have hk0 : kk ≠ 0 := fun z => e (decide_eq_true (by rw [z]; rfl))
  have hl := cs_drop_len (x := x) (i := i)
  have hi5 : i ≤ 5000 := Nat.le_trans hi hx
  refine ⟨_, rfl, _, rfl, x, "(", i, rfl, hi, hx, by decide, by decide +kernel, fun hs => ?_, fun hs => ?_⟩
  · have hs : ((cs x).drop i).take 1 = [40] := hs
    have h1 : i + 1 ≤ x.length := by
      have := congrArg List.length hs
      rw [List.length_take, hl] at this
      have : min 1 (x.length - i) = 1 := this
      omega
    have hP : rdP (rdS d) kk ((cs x).drop i) = (match rdQ (rdS d) true kk ((cs x).drop (i + 1)) with
      | none => none
      | some (ss, n) => if ((cs x).drop (i + 1 + n)).take 1 = [41] then some (ss, n + 2) else none) := by
      unfold rdP
      rw [if_neg hk0, if_neg (fun z => z hs), List.drop_drop]
      cases rdQ (rdS d) true kk ((cs x).drop (i + 1)) with
      | none => rfl
      | some r => obtain ⟨ss, n⟩ := r; dsimp only; rw [List.drop_drop, Nat.add_assoc]
    have bad : rdQ (rdS d) true kk ((cs x).drop (i + 1)) = none → ∀ H', Same H H' → E (.ref a.a_NoNote) none H' := fun h => qE (by rw [hP, h])
    refine ⟨_, rfl, (kk : Nat), rfl, by omega, by omega, ?_⟩
    refine for_range (n := kk) (fun j σ H' => ∃ (l : Addr) (ps : List Addr) (ss : List Sn) (n : Nat) (f5 f6 : Option V), Same H1 H' ∧ H' l = some (.tup (ps.map V.ref)) ∧ Paired (IsS H') ss ps ∧ ss.length = j ∧ i + 1 + n ≤ x.length ∧
      rdQ (rdS d) true kk ((cs x).drop (i + 1)) = (rdQ (rdS d) (decide (j = 0)) (kk - j) ((cs x).drop (i + 1 + n))).map (fun r => (ss ++ r.1, n + r.2)) ∧ σ = [some (.str x), some (.int ((i + 1 + n : Nat))), some (.int (kk : Nat)), some (.int (d : Nat)), some (.ref l), f5, f6])
      ⟨l0, [], [], 0, none, none, Same.refl _, e1, .nil, rfl, h1, ?_, rfl⟩ ?_ ?_
    · show _ = (rdQ (rdS d) true kk ((cs x).drop (i + 1))).map _
      cases rdQ (rdS d) true kk ((cs x).drop (i + 1)) with
      | none => rfl
      | some r => obtain ⟨ss, n⟩ := r; show some (ss, n) = some ([] ++ ss, 0 + n); rw [List.nil_append, Nat.zero_add]
    · rintro j σ H2 hj ⟨l, ps, ss, n, f5, f6, g2, hl2, pd, lj, hn, hq, rfl⟩
      obtain ⟨k', ek⟩ : ∃ k', kk - j = k' + 1 := ⟨kk - j - 1, by omega⟩
      refine ⟨_, rfl, _, _, rfl, rfl, _, rfl, ite2 (fun e => ?_) (fun e => ?_)⟩
      · have e : 0 < j := by have := of_decide_eq_true e; omega
        have dj : decide (j = 0) = false := decide_eq_false (by omega)
        rw [dj] at hq
        refine ⟨_, rfl, _, rfl, x, ", ", i + 1 + n, rfl, hn, hx, by decide, by decide +kernel, fun hs2 => ?_, fun hs2 => ?_⟩
        · have hs2 : ((cs x).drop (i + 1 + n)).take 2 = [44, 32] := hs2
          have h2 : i + 1 + n + 2 ≤ x.length := by
            have := congrArg List.length hs2
            rw [List.length_take, cs_drop_len] at this
            have : min 2 (x.length - (i + 1 + n)) = 2 := this
            omega
          refine ⟨_, rfl, _, rfl, _, rfl, x, i + 1 + n + 2, rfl, h2, hx, fun s9 m9 t9 p9 H3 hs9 g3 ht9 hp9 => ?_, fun hs9 H3 g3 => ?_⟩
          · have hm9 := rdS_le hs9
            rw [cs_drop_len] at hm9
            refine ⟨_, rfl, _, rfl, t9, _, 0, .ref p9, rfl, rfl, SqT.of ht9, at0, by show 1 ≤ sizeLine; decide, fun t2 ht2 => ?_⟩
            have g4 := Same.new ht2 (.tup [.ref p9])
            have lps : ps.length = ss.length := (pd_len pd).symm
            refine ⟨l, t2, _, _, rfl, rfl, g4 _ _ (g3 _ _ hl2), upd_same, Nat.le_trans (show (ps.map V.ref).length + 1 ≤ 5 by rw [List.length_map]; omega) (by decide), fun l5 H5 g5 hl5 => ?_⟩
            have g25 := g3.trans (g4.trans g5)
            refine ⟨_, rfl, t9, _, 1, _, rfl, rfl, SqT.of ((g4.trans g5) _ _ ht9), at1, l5, ps ++ [p9], ss ++ [s9], n + 2 + m9, some (.int ((0 : Int) + (j : Int))), some (.ref t9), g2.trans g25, ?_, ?_, ?_, by omega, ?_, ?_⟩
            · rw [hl5, List.map_append]; rfl
            · exact pd_app (pd_imp (fun _ _ z => IsS.mono (Tups.of g25) z) pd) (.cons (IsS.mono (Tups.of (g4.trans g5)) hp9) .nil)
            · rw [List.length_append, lj]; rfl
            · rw [hq, ek, rdQ_yes (b := false) (o := 2) rfl (fun _ => hs2) (by rw [List.drop_drop]; exact hs9), List.drop_drop, show kk - (j + 1) = k' by omega, show i + 1 + n + (2 + m9) = i + 1 + (n + 2 + m9) by omega]
              have : decide (j + 1 = 0) = false := rfl
              rw [this]
              cases rdQ (rdS d) false k' ((cs x).drop (i + 1 + (n + 2 + m9))) with
              | none => rfl
              | some r =>
                show some (ss ++ s9 :: r.1, n + (2 + m9 + r.2)) = some (ss ++ [s9] ++ r.1, n + 2 + m9 + r.2)
                rw [List.append_assoc, show n + (2 + m9 + r.2) = n + 2 + m9 + r.2 by omega]
                rfl
            · show [some (V.str x), some (V.int ((i + 1 + n + 2 + m9 : Nat))), _, _, _, _, _] = _
              rw [show i + 1 + n + 2 + m9 = i + 1 + (n + 2 + m9) by omega]
          · refine bad ?_ _ ((g1.trans g2).trans g3)
            rw [hq, ek, rdQ_no (b := false) (o := 2) rfl (by rw [List.drop_drop]; exact hs9)]
            rfl
        · have hs2 : ((cs x).drop (i + 1 + n)).take 2 ≠ [44, 32] := hs2
          refine bad ?_ _ (g1.trans g2)
          rw [hq, ek]
          unfold rdQ
          rw [if_pos ⟨rfl, hs2⟩]
          rfl
      · have e : j = 0 := by
          have : ¬ 0 < j := fun z => e (decide_eq_true (by omega))
          omega
        have dj : decide (j = 0) = true := decide_eq_true e
        rw [dj] at hq
        refine ⟨_, rfl, _, rfl, _, rfl, x, i + 1 + n, rfl, hn, hx, fun s9 m9 t9 p9 H3 hs9 g3 ht9 hp9 => ?_, fun hs9 H3 g3 => ?_⟩
        · have hm9 := rdS_le hs9
          rw [cs_drop_len] at hm9
          refine ⟨_, rfl, _, rfl, t9, _, 0, .ref p9, rfl, rfl, SqT.of ht9, at0, by show 1 ≤ sizeLine; decide, fun t2 ht2 => ?_⟩
          have g4 := Same.new ht2 (.tup [.ref p9])
          have lps : ps.length = ss.length := (pd_len pd).symm
          refine ⟨l, t2, _, _, rfl, rfl, g4 _ _ (g3 _ _ hl2), upd_same, Nat.le_trans (show (ps.map V.ref).length + 1 ≤ 5 by rw [List.length_map]; omega) (by decide), fun l5 H5 g5 hl5 => ?_⟩
          have g25 := g3.trans (g4.trans g5)
          refine ⟨_, rfl, t9, _, 1, _, rfl, rfl, SqT.of ((g4.trans g5) _ _ ht9), at1, l5, ps ++ [p9], ss ++ [s9], n + 0 + m9, some (.int ((0 : Int) + (j : Int))), some (.ref t9), g2.trans g25, ?_, ?_, ?_, by omega, ?_, ?_⟩
          · rw [hl5, List.map_append]; rfl
          · exact pd_app (pd_imp (fun _ _ z => IsS.mono (Tups.of g25) z) pd) (.cons (IsS.mono (Tups.of (g4.trans g5)) hp9) .nil)
          · rw [List.length_append, lj]; rfl
          · rw [hq, ek, rdQ_yes (b := true) (o := 0) rfl (fun z => Bool.noConfusion z) (by rw [List.drop_drop]; exact hs9), List.drop_drop, show kk - (j + 1) = k' by omega, show i + 1 + n + (0 + m9) = i + 1 + (n + 0 + m9) by omega]
            have : decide (j + 1 = 0) = false := rfl
            rw [this]
            cases rdQ (rdS d) false k' ((cs x).drop (i + 1 + (n + 0 + m9))) with
            | none => rfl
            | some r =>
              show some (ss ++ s9 :: r.1, n + (0 + m9 + r.2)) = some (ss ++ [s9] ++ r.1, n + 0 + m9 + r.2)
              rw [List.append_assoc, show n + (0 + m9 + r.2) = n + 0 + m9 + r.2 by omega]
              rfl
          · show [some (V.str x), some (V.int ((i + 1 + n + m9 : Nat))), _, _, _, _, _] = _
            rw [show i + 1 + n + m9 = i + 1 + (n + 0 + m9) by omega]
        · refine bad ?_ _ ((g1.trans g2).trans g3)
          rw [hq, ek, rdQ_no (b := true) (o := 0) rfl (by rw [List.drop_drop]; exact hs9)]
          rfl
    · rintro σ H2 ⟨l, ps, ss, n, f5, f6, g2, hl2, pd, lj, hn, hq, rfl⟩
      rw [Nat.sub_self] at hq
      have hq : rdQ (rdS d) true kk ((cs x).drop (i + 1)) = some (ss, n) := by
        rw [hq]
        unfold rdQ
        show some (ss ++ [], n + 0) = _
        rw [List.append_nil]; rfl
      have g12 := g1.trans g2
      refine ⟨_, rfl, _, rfl, _, rfl, x, ")", i + 1 + n, rfl, hn, hx, by decide, by decide +kernel, fun hs2 => ?_, fun hs2 => ?_⟩
      · have hs2 : ((cs x).drop (i + 1 + n)).take 1 = [41] := hs2
        refine ⟨by show 2 ≤ sizeLine; decide, fun t ht => ?_⟩
        have g3 := Same.new ht (.tup [.ref l, .int ((i + 1 + n + 1 : Nat))])
        refine q ss (n + 2) t l ps _ (by rw [hP, hq]; dsimp only; rw [if_pos hs2]) (g12.trans g3) ?_ (g3 _ _ hl2) (pd_imp (fun _ _ z => IsS.mono (Tups.of g3) z) pd)
        show upd H2 t (.tup [.ref l, .int ((i + 1 + n + 1 : Nat))]) t = _
        rw [upd_same, show i + 1 + n + 1 = i + (n + 2) by omega]
      · have hs2 : ((cs x).drop (i + 1 + n)).take 1 ≠ [41] := hs2
        exact qE (by rw [hP, hq]; dsimp only; rw [if_neg hs2]) _ g12
  · have hs : ((cs x).drop i).take 1 ≠ [40] := hs
    refine qE ?_ _ g1
    unfold rdP
    rw [if_neg hk0, if_pos hs]
end
end K03
namespace K03
open PySem L2 Sen
section
variable {P : Program} {w : World} {K : PySem.W.Frag} {mg : Str → Option Value} {base : Heap} {a : Ad} {k : Nat}
theorem ok_behind_word (T : Txt P w K mg a) : FnOk P w K mg base CX0 (k + 1) a.a_behind_word a.d_behind_word p_behind_word spBehindWord := by
  refine T.f_behind_word.F.ok sc_behind_word (fun vs H Q E h => ?_) (fun cdv A outer s H vs Q E hr h => ?_)
  · obtain ⟨x, i, rfl, _⟩ := h
    rfl
  obtain ⟨x, i, rfl, hi, hx, q⟩ := h
  refine ⟨_, (pss_cons (ps_while PassesOwn.never (PW.pt (pw_and (pt_cmpR op_lt (pv 1) (pe_callB call_len_str rfl T.n_len bt_len (pa_cons (pv 0) pa_nil)) (nomark _)) (pw_and1 (pt_truth (pe_bm0 PySem.F.plainAttrs_str PySem.F.slot_str_isalpha PySem.F.type_str_isalpha mt_sAlpha (pe_ix ix_str (pv 0) (pv 1) (fun _ _ => rfl))) (fun _ => rfl))))) (pss_one (ps_aug (i := 1) sc_behind_word.nd rfl (Or.inl rfl) pe_int iop_add)))
      (pss_one (ps_ret (pv 1)))), ?_⟩
  have hz : x.length ≤ sizeLine := Nat.le_trans hx (by decide)
  refine ⟨fun m σ H' => H' = H ∧ ∃ j : Nat, m = x.length - j ∧ j ≤ x.length ∧ i + alps ((cs x).drop i) = j + alps ((cs x).drop j) ∧ σ = [some (.str x), some (.int (j : Nat))], ⟨_, rfl, i, rfl, hi, rfl, rfl⟩, ?_⟩
  rintro m σ H' ⟨rfl, j, rfl, hj, ej, rfl⟩
  refine ⟨_, rfl, _, rfl, x, rfl, hz, _, _, rfl, rfl, _, rfl, ite2 (fun e => ?_) (fun e => ?_)⟩
  · have e : j < x.length := by have := of_decide_eq_true e; omega
    have hc : (cs x)[j]? = some (cs x)[j] := List.getElem?_eq_getElem e
    generalize (cs x)[j] = c at hc
    have h0 : ((cs x).drop j)[0]? = some c := by rw [List.getElem?_drop]; exact hc
    refine ⟨_, rfl, _, rfl, x, (j : Nat), c, rfl, rfl, hz, atI_nat hc, rfl, ⟨_, rfl, rfl, _, rfl, ?_⟩⟩
    rw [alpha_one]
    cases ha : Unicode.isAlpha c with
    | true =>
      refine iteT ⟨_, fun σ' H2 h => h, ?_⟩
      refine ⟨_, rfl, (j : Nat), 1, rfl, rfl, x.length - (j + 1), by omega, rfl, j + 1, rfl, e, ?_, rfl⟩
      rw [ej, alps_at h0 ha, List.drop_drop]
      omega
    | false =>
      refine iteF ⟨_, rfl, ?_⟩
      rw [ej, alps_end h0 ha] at q
      exact q
  · have e : j = x.length := by
      have : ¬ j < x.length := fun z => e (decide_eq_true (by omega))
      omega
    refine ite2 (fun z => nomatch z) (fun _ => ⟨_, rfl, ?_⟩)
    have : (cs x).drop j = [] := List.drop_of_length_le (by rw [e]; exact Nat.le_of_eq (Array.length_toList))
    rw [ej, this] at q
    exact q
end
end K03
namespace K03
open PySem L2 Sen
section
variable {P : Program} {w : World} {K : PySem.W.Frag} {mg : Str → Option Value} {base : Heap} {a : Ad} {k : Nat}
theorem okX_behind_piece (T : Txt P w K mg a) : FnOk P w K mg base (CXE P w) (k + 1) a.a_behind_piece a.d_behind_piece p_behind_piece (spPiece a.a_NoNote) := by
  refine T.f_behind_piece.F.okE sc_behind_piece (fun vs H Q E h => ?_) (fun cdv A outer s H vs Q E hr h => ?_)
  · obtain ⟨x, z, i, rfl, _⟩ := h
    rfl
  obtain ⟨x, z, i, rfl, hi, hx, hz, rp, q, qE⟩ := h
  refine ⟨_, (pss_cons (ps_if (pt_not (pt_truth (pe_bm PySem.F.plainAttrs_str PySem.F.slot_str_startswith PySem.F.type_str_startswith mt_sStarts3 (pv 0) (pa_cons (pv 2) (pa_cons (pv 1) pa_nil))) (fun _ => rfl))) (pss_one (ps_raise rfl rfl T.xc_NoNote.own rfl T.m_NoNote raisesE (pa_cons (pe_fst (pfs_cons (pf_repr (pv 2)) (pfs_cons pf_str (pfs_cons (pf_int (pv 1)) pfs_nil)))) pa_nil))) pss_nil)
      (pss_one (ps_ret (pe_op op_add (pv 1) (pe_callB call_len_str rfl T.n_len bt_len (pa_cons (pv 2) pa_nil)))))), ?_⟩
  refine ⟨_, rfl, rfl, _, rfl, _, rfl, x, z, (i : Nat), rfl, rfl, _, rfl, ?_⟩
  rw [starts_iff x z i hi]
  by_cases h : ((cs x).drop i).take z.length = cs z
  · rw [decide_eq_true h]
    refine iteF ⟨_, rfl, _, rfl, z, rfl, Nat.le_trans hz (by decide), _, _, rfl, rfl, ?_⟩
    exact q h
  · rw [decide_eq_false h]
    refine iteT ?_
    exact ⟨_, rfl, z, rfl, rp, _, rfl, (i : Nat), rfl, log_small (Nat.le_trans hi hx), fun y => ⟨by show 1 ≤ sizeLine; decide, qE h⟩⟩
end
end K03
namespace K03
open PySem L2 Sen
section
variable {P : Program} {w : World} {K : PySem.W.Frag} {mg : Str → Option Value} {base : Heap} {a : Ad} {k : Nat}
theorem ok_law (T : Txt P w K mg a)
    (G_x_law_cell_at : FnOk P w K mg base CX0 (k + 1) a.a_x_law_cell_at a.d_x_law_cell_at p_x_law_cell_at (spCellAt K))
    (G_x_law_short : FnOk P w K mg base CX0 (k + 1) a.a_x_law_short a.d_x_law_short p_x_law_short (spShort K))
    (G_shown : FnOk P w K mg base CX0 (k + 1) a.a_shown a.d_shown p_shown (spWritten 24))
    (G_x_law_text : FnOk P w K mg base CX0 (k + 1) a.a_x_law_text a.d_x_law_text p_x_law_text (spWritten 24))
    (G_x_law_changed : FnOk P w K mg base CX0 (k + 1) a.a_x_law_changed a.d_x_law_changed p_x_law_changed spChanged)
    (G_x_law_is_text : FnOk P w K mg base CX0 (k + 1) a.a_x_law_is_text a.d_x_law_is_text p_x_law_is_text spIsText)
    (G_x_law_deepest : FnOk P w K mg base CX0 (k + 1) a.a_x_law_deepest a.d_x_law_deepest p_x_law_deepest spDeepest)
    (G_read : FnOk P w K mg base (CXE P w) (k + 1) a.a_read a.d_read p_read (spRead a.a_NoNote)) :
    FnOk P w K mg base CX0 (k + 2) a.a_law a.d_law p_law (spLaw K) := by
  refine T.f_law.F.ok sc_law (fun vs H Q E h => ?_) (fun cdv A outer s H vs Q E hr h => ?_)
  · obtain ⟨a, ns, rfl, _⟩ := h
    rfl
  obtain ⟨sc, ns, rfl, hS, h63, q⟩ := h
  have abch_in : ∀ x ∈ (["c", "h", "a", "b"] : List Str), x ∈ letts := by decide +kernel
  refine cut0 ?_
  refine cutK (fun σ H' => ∃ (p : Addr) (y : Str), Same H H' ∧ Tg 721 61 y ∧ σ = [some (.ref sc), some (.ref p), some (.str y), none, none, none]) (fun t z => (pss_cons (ps_setA 1 sc_law.nd (pe_callD G_x_law_short hr T.f_x_law_short (pa_cons (pv 0) (pa_cons pe_int (pa_cons (pe_op op_add pe_int (pe_op op_mod (pe_callD G_x_law_cell_at hr T.f_x_law_cell_at (pa_cons (pv 0) (pa_cons pe_int pa_nil))) pe_int)) (pa_cons (pe_strs (xs := ["c", "h", "a", "b"]) (by rfl)) pa_nil))))))
      (pss_cons (ps_setA 2 sc_law.nd (pe_callD G_shown hr T.f_shown (pa_cons (pv 1) pa_nil)))
      (pss_cons (ps_if (PW.pt (pw_or (pt_not (pt_truth (pe_callB call_isinst rfl T.n_isinstance bt_isinstance (pa_cons (pv 2) (pa_cons (pe_bltn (v := .ty "str") rfl T.n_str bt_str rfl) pa_nil))) (fun _ => rfl))) (pw_or1 (pt_cmpR op_ne (pv 2) (pe_callD G_x_law_text hr T.f_x_law_text (pa_cons (pv 1) pa_nil)) (nomark _))))) (pss_one (ps_ret pe_bl)) pss_nil)
      (pss_cons (ps_if (pt_cmpR op_eq (pe_op op_mod (pe_callD G_x_law_cell_at hr T.f_x_law_cell_at (pa_cons (pv 0) (pa_cons pe_int pa_nil))) pe_int) pe_int (nomark _)) (pss_one (ps_setA 2 sc_law.nd (pe_callD G_x_law_changed hr T.f_x_law_changed (pa_cons (pv 2) (pa_cons (pe_callD G_x_law_cell_at hr T.f_x_law_cell_at (pa_cons (pv 0) (pa_cons pe_int pa_nil))) pa_nil))))) pss_nil)
      z))))) ?_ ?_
  · rintro u hu σ H' ⟨rfl, rfl⟩
    refine ⟨_, rfl, _, rfl, sc, ns, 0, rfl, hS, by decide, fun v => ?_⟩
    refine ⟨_, _, rfl, rfl, (by decide : (0 : Int) < 12), 1, _, rfl, rfl, by show 4 ≤ sizeLine; decide, fun ol hol => ?_⟩
    have g2 := Same.new hol (.lst ((["c", "h", "a", "b"] : List Str).map V.str))
    have e2 : upd H' ol (.lst ((["c", "h", "a", "b"] : List Str).map V.str)) ol = some _ := upd_same
    generalize upd H' ol _ = H2 at g2 e2 ⊢
    have m1 := Int.emod_nonneg v (show (12 : Int) ≠ 0 by decide)
    have m2 := Int.emod_lt_of_pos v (show (0 : Int) < 12 by decide)
    obtain ⟨m, em, m0, m1⟩ : ∃ m : Nat, (1 : Int) + v % 12 = (m : Nat) ∧ 0 < m ∧ m ≤ 12 := ⟨(1 + v % 12).toNat, by omega, by omega, by omega⟩
    refine ⟨sc, ol, ns, 3, m, ["c", "h", "a", "b"], by show [V.ref sc, V.int 3, V.int (1 + v % 12), V.ref ol] = _; rw [em]; rfl, g2.seq hS, SqL.of e2, by decide, by decide, m0, by omega, by decide, fun p H3 sn g3 hs hin hd hc => ?_⟩
    have g03 := g2.trans g3
    have hin : sn.inO letts := (Sn.inO_iff sn).mpr fun x hx => abch_in x ((Sn.inO_iff sn).mp hin x hx)
    have tg := tg_wrt hin hc
    refine ⟨_, rfl, p, sn, rfl, hs, hin, by omega, by omega, fun H4 g4 => ?_⟩
    have hs4 := hs.mono (Tups.of g4)
    refine ⟨_, rfl, _, _, _, true, rfl, .str _, rfl, _, rfl, ite2 (fun z => nomatch z) (fun _ => ?_)⟩
    refine ⟨_, rfl, _, rfl, p, sn, rfl, hs4, hin, by omega, by omega, fun H5 g5 => ⟨rfl, _, rfl, ite2 (fun z => ?_) (fun _ => ?_)⟩⟩
    · exact absurd z (by simp)
    have g05 := (g03.trans g4).trans g5
    refine ⟨_, rfl, sc, ns, 1, rfl, g05.seq hS, by decide, fun v1 => ?_⟩
    refine ⟨_, _, rfl, rfl, (by decide : (0 : Int) < 2), rfl, _, rfl, ite2 (fun _ => ?_) (fun _ => hu _ _ ⟨p, _, g05, tg.mono (by decide) (by decide), rfl⟩)⟩
    refine ⟨_, rfl, _, rfl, sc, ns, 2, rfl, g05.seq hS, by decide, fun v2 => ?_⟩
    exact ⟨_, _, rfl, tg, fun y H6 g6 ty => hu _ _ ⟨p, y, g05.trans g6, ty, rfl⟩⟩
  refine cutK (fun σ H' => ∃ (p : Addr) (y : Str) (b : Bool), Same H H' ∧ Tg 721 61 y ∧ (b = true → ∃ s, rdT y = some s ∧ cs y = wl s) ∧ (b = false → rdT y = none) ∧ σ = [some (.ref sc), some (.ref p), some (.str y), some (.bl b), none, none]) (fun t z => (pss_cons (ps_setA 3 sc_law.nd (pe_and (pe_callD G_x_law_is_text hr T.f_x_law_is_text (pa_cons (pv 2) pa_nil)) (pe_one (pe_cmpR op_le (pe_callD G_x_law_deepest hr T.f_x_law_deepest (pa_cons (pv 2) pa_nil)) pe_int (nomark _)))))
      z)) ?_ ?_
  · rintro u hu σ H1 ⟨p, y, g1, ty, rfl⟩
    refine ⟨_, rfl, y, rfl, Nat.le_trans ty.1 (by decide), fun b H2 g2 hj => ?_⟩
    have gr := good_read (by have := ty.2.1; omega) hj
    refine ⟨b, rfl, ite2 (fun e => ?_) (fun e => ?_)⟩
    · refine ⟨_, rfl, y, rfl, ty.asc, _, _, rfl, rfl, hu _ _ ⟨p, y, _, g1.trans g2, ty, fun z => gr.1 ⟨e, of_decide_eq_true z⟩, fun z => gr.2 fun w => absurd (decide_eq_true w.2) (by rw [z]; decide), rfl⟩⟩
    · exact hu _ _ ⟨p, y, false, g1.trans g2, ty, fun z => (nomatch z), fun _ => gr.2 fun w => e w.1, rfl⟩
  refine cutK (fun σ H' => ∃ (p : Addr) (y : Str) (b : Bool) (f : Addr), Same H H' ∧ Tg 721 61 y ∧ (b = true → ∃ s, rdT y = some s ∧ cs y = wl s ∧ IsS H' s f) ∧ (b = false → H' f = some (.lst ([true, true, false].map V.bl))) ∧ σ = [some (.ref sc), some (.ref p), some (.str y), some (.bl b), some (.ref f), none]) (fun t z => (pss_cons (ps_setA 4 sc_law.nd pe_non)
      (pss_cons (ps_try (i := 5) rfl rfl (psxs_one (psx_set (i := 4) sc_law.nd rfl (Or.inl rfl) (pex_call G_read hr rfl T.f_read.m T.f_read.F.2 T.f_read.b .nil rfl (pa_cons (pv 2) pa_nil)))) (fun ex => (pss_one (ps_set (i := 4) sc_law.nd rfl (Or.inl rfl) (pe_lst (pa_cons (pe_callB (call_isiX (K := K) rfl) rfl T.n_isinstance bt_isinstance (pa_cons (pv 5) (pa_cons (pe_glob (v := .ref a.a_NoNote) rfl T.m_NoNote rfl) pa_nil))) (pa_cons (pe_callB (call_isiX (K := K) rfl) rfl T.n_isinstance bt_isinstance (pa_cons (pv 5) (pa_cons (pe_bltn (v := .ty "ValueError") rfl T.n_ValueError bt_ValueError rfl) pa_nil))) (pa_cons (pe_callB (call_isiX (K := K) rfl) rfl T.n_isinstance bt_isinstance (pa_cons (pv 5) (pa_cons (pe_glob (v := .ref a.a_NoSentence) rfl T.m_NoSentence rfl) pa_nil))) pa_nil))))))) rfl T.m_BookError sc_law.nd rfl rfl)
      z))) ?_ ?_
  · rintro u hu σ H1 ⟨p, y, b, g1, ty, h1, h2, rfl⟩
    refine ⟨_, rfl, y, rfl, Nat.le_trans ty.1 (by decide), fun s9 f H2 e9 g2 hf => ?_, fun en H2 g2 => ?_⟩
    · refine hu _ _ ⟨p, y, b, f, g1.trans g2, ty, fun e => ?_, fun e => ?_, rfl⟩
      · obtain ⟨s, e1, e2⟩ := h1 e
        rw [e9] at e1
        cases e1
        exact ⟨s9, e9, e2, hf⟩
      · rw [h2 e] at e9
        cases e9
    · have nb := T.xd
      simp only [List.nodup_cons, List.mem_cons, List.not_mem_nil, or_false, not_or] at nb
      obtain ⟨⟨b1, b2⟩, b3, _⟩ := nb
      have xc := T.xc_NoNote
      have cl := xc.xcls
      refine ⟨a.a_NoNote, rfl, exm_of T.xb xc, fun e he => ?_⟩
      have g3 := Same.new he (excO e a.a_NoNote)
      have e3 : upd H2 e (excO e a.a_NoNote) e = some _ := upd_same
      generalize upd H2 e _ = H3 at g3 e3 ⊢
      refine ⟨_, rfl, e, a.a_NoNote, _, _, rfl, e3, cl, rfl, kit_self, _, rfl, e, a.a_NoNote, _, _, rfl, e3, cl, rfl, kit_ve xc, _, rfl, e, a.a_NoNote, _, _, rfl, e3, cl, rfl, kit_ne xc T.ac_NoSentence (Ne.symm b3) b1, by show 3 ≤ sizeLine; decide, fun l hl => ?_⟩
      refine hu _ _ ⟨p, y, b, l, ((g1.trans g2).trans g3).trans (Same.new hl _), ty, fun e => ?_, fun _ => upd_same, rfl⟩
      obtain ⟨s, e1, _⟩ := h1 e
      rw [en] at e1
      cases e1
  refine ⟨_, (pss_cons (ps_if (pt_not (pt_truth (pv 3) (fun _ => rfl))) (pss_one (ps_ret (pe_cmpR (op_eqD (K := K) rfl (hu8 hr)) (pv 4) (pe_lst (pa_cons pe_bl (pa_cons pe_bl (pa_cons pe_bl pa_nil)))) (nomark _)))) pss_nil)
      (pss_one (ps_ret (pe_and (pe_callB call_isinst rfl T.n_isinstance bt_isinstance (pa_cons (pv 4) (pa_cons (pe_bltn (v := .ty "tuple") rfl T.n_tuple bt_tuple rfl) pa_nil))) (pe_one (pe_cmpR op_eq (pe_callD G_x_law_text hr T.f_x_law_text (pa_cons (pv 4) pa_nil)) (pv 2) (nomark _))))))), ?_⟩
  rintro σ H1 ⟨p, y, b, f, g1, ty, h1, h2, rfl⟩
  cases b with
  | false =>
    have hf := h2 rfl
    refine ⟨_, rfl, _, rfl, ite2 (fun _ => ?_) (fun z => absurd rfl z)⟩
    refine ⟨_, rfl, by show 3 ≤ sizeLine; decide, fun l hl => ?_⟩
    exact ⟨_, fun z => absurd z.1 Bool.false_ne_true, eq_blsB (xs := [true, true, false]) (ys := [true, true, false]) (SqL.of (Same.new hl _ _ _ hf)) (SqL.of upd_same), q _⟩
  | true =>
    obtain ⟨s, e1, e2, hs⟩ := h1 rfl
    obtain ⟨_, i1, i2, i3⟩ := rdT_iff.mp e1
    refine ⟨_, rfl, _, rfl, ite2 (fun z => nomatch z) (fun _ => ?_)⟩
    obtain ⟨zs, c1, _⟩ := sen_cut hs
    refine ⟨_, rfl, _, _, _, true, rfl, .tup c1, rfl, true, rfl, ite2 (fun _ => ?_) (fun z => absurd rfl z)⟩
    refine ⟨_, rfl, f, s, rfl, hs, i1, i3, i2, fun H2 g2 => ⟨_, rfl, rfl, ?_⟩⟩
    have e : wrt s = y := cs_inj (by rw [wl_wrt, e2])
    rw [e]
    exact cast (by simp) (q H2)
end
end K03
namespace K03
open PySem L2 Sen
section
variable {P : Program} {w : World} {K : PySem.W.Frag} {mg : Str → Option Value} {base : Heap} {a : Ad} {k : Nat}
theorem law_all (T : Txt P w K mg a) (base : Heap) : FnOk P w K mg base CX0 60 a.a_law a.d_law p_law (spLaw K) := by
  have cell : FnOk P w K mg base CX0 1 a.a_x_law_cell_at a.d_x_law_cell_at p_x_law_cell_at (spCellAt K) := ok_cell_at (k := 0) T
  have draw : FnOk P w K mg base CX0 1 a.a_x_law_draw a.d_x_law_draw p_x_law_draw spDraw := ok_draw (k := 0) T
  have sentence := ok_sentence (k := 1) T cell draw
  have cnt := ok_count (k := 1) (base := base) T 20
  have short := ok_short (k := 21) T (sentence.mono (by decide)) cnt
  have isMarkX : FnOk P w K mg base CX0 1 a.a_is_mark a.d_is_mark p_is_mark spMarkX := ok_is_markX (k := 0) T
  have isMark : FnOk P w K mg base CX0 1 a.a_is_mark a.d_is_mark p_is_mark spIsMark := isMarkX.imp (fun vs H Q E h => by
    obtain ⟨x, rfl, q⟩ := h
    exact ⟨.s x, _, rfl, rfl, q⟩)
  have lettersOf : FnOk P w K mg base CX0 1 a.a_letters_of a.d_letters_of p_letters_of spLettersOf := ok_letters_of (k := 0) T
  have partsOf : FnOk P w K mg base CX0 1 a.a_parts_of a.d_parts_of p_parts_of spPartsOf := ok_parts_of (k := 0) T
  have partsOfAll := ok_parts_of_all (k := 1) T partsOf
  have partsOfAllX := ok_parts_of_allX (k := 1) T partsOf
  have shaped := ok_is_shaped (k := 1) T isMark lettersOf partsOf
  have shapedX := ok_is_shapedX (k := 1) T isMarkX lettersOf partsOf
  have isSen := ok_is_sentence (k := 2) T shaped partsOfAll
  have isSenX := ok_is_sentenceX (k := 2) T shapedX partsOfAllX
  have mustSen := ok_must_be_sentence (k := 3) T isSen
  have written := ok_written (k := 1) T lettersOf partsOf 24
  have shown := ok_shown (k := 25) T (mustSen.mono (by decide)) written
  have text : FnOk P w K mg base CX0 24 a.a_x_law_text a.d_x_law_text p_x_law_text (spWritten 24) := ok_law_text (k := 0) T 24
  have changed : FnOk P w K mg base CX0 1 a.a_x_law_changed a.d_x_law_changed p_x_law_changed spChanged := ok_law_changed (k := 0) T
  have fits : FnOk P w K mg base CX0 1 a.a_x_law_fits a.d_x_law_fits p_x_law_fits spFits := ok_law_fits (k := 0) T
  have lone : FnOk P w K mg base CX0 1 a.a_x_law_lone a.d_x_law_lone p_x_law_lone spLone := ok_law_lone (k := 0) T
  have inner := ok_law_inner (k := 1) T fits lone
  have isText := ok_law_is_text (k := 2) T inner (lone.mono (by decide))
  have deepest : FnOk P w K mg base CX0 1 a.a_x_law_deepest a.d_x_law_deepest p_x_law_deepest spDeepest := ok_law_deepest (k := 0) T
  have word : FnOk P w K mg base CX0 1 a.a_behind_word a.d_behind_word p_behind_word spBehindWord := ok_behind_word (k := 0) T
  have piece : FnOk P w K mg base (CXE P w) 1 a.a_behind_piece a.d_behind_piece p_behind_piece (spPiece a.a_NoNote) := okX_behind_piece (k := 0) T
  have isMarkE : FnOk P w K mg base (CXE P w) 1 a.a_is_mark a.d_is_mark p_is_mark spIsMark := isMark.lift
  have wordE : FnOk P w K mg base (CXE P w) 1 a.a_behind_word a.d_behind_word p_behind_word spBehindWord := word.lift
  have isSenE : FnOk P w K mg base (CXE P w) 3 a.a_is_sentence a.d_is_sentence p_is_sentence spIsSenX := isSenX.lift
  have letters := okX_read_letters (k := 1) T piece isMarkE
  have sen0 : FnOk P w K mg base (CXE P w) 1 a.a_read_sentence a.d_read_sentence p_read_sentence (spReadS a.a_NoNote 0) := okX_read_sentence0 (k := 0) T
  have readS := okX_read_sentence (k := 2) T (wordE.mono (by decide)) (isMarkE.mono (by decide)) letters (piece.mono (by decide)) (fun d n h1 h2 => okX_read_parts (k := n) T h1 h2) (sen0.mono (by decide)) 24
  have read := okX_read (k := 50) T readS (isSenE.mono (by decide))
  exact ok_law (k := 58) T (cell.mono (by decide)) (short.mono (by decide)) (shown.mono (by decide)) (text.mono (by decide)) (changed.mono (by decide)) (isText.mono (by decide)) (deepest.mono (by decide)) (read.mono (by decide))
end
end K03
namespace PySem.W.Fast
def tw15675397445776119702:Nat:=0
def tw15448103843166146295:Nat:=0
def tw5483010513350818342:Nat:=0
def tw9824240283096864378:Nat:=0
def tw16755096602646270355:Nat:=0
def tw6034976189756250977:Nat:=0
def tw7476306820724238974:Nat:=0
def tw10902894611837685842:Nat:=0
def tw4023622549654811646:Nat:=0
def tw8661905670645215185:Nat:=0
def tw3972459708551266162:Nat:=0
def tw5842655901626886775:Nat:=0
def tw7524055589601344643:Nat:=0
def tw8268657321254323226:Nat:=0
def tw2768258883299439342:Nat:=0
def tw2831082027746300116:Nat:=0
def tw13659320977400671717:Nat:=0
def tw11957578821423821077:Nat:=0
def tw13979503737351277079:Nat:=0
def tw1944931474146524493:Nat:=0
def tw16242615813375659268:Nat:=0
def tw5790736764518537203:Nat:=0
def tw3372191512067107204:Nat:=0
def tw4789475438615582476:Nat:=0
def tw4590939376579650618:Nat:=0
def tw874969939282860112:Nat:=0
def tw8110099683480609574:Nat:=0
def tw17596705254376459190:Nat:=0
def tw17851482669302811119:Nat:=0
def tw2267011402118719525:Nat:=0
def tw10613679449401396951:Nat:=0
def tw3435501141824257708:Nat:=0
def tw729050623252035986:Nat:=0
def tw16655292706652329679:Nat:=0
def tw16564234094434374340:Nat:=0
def tw4134800812293265220:Nat:=0
def tw17159918960075884777:Nat:=0
def tw4367882923753684332:Nat:=0
def tw16983376862661010893:Nat:=0
def tw6917278593263763620:Nat:=0
def tw8629238492125657798:Nat:=0
def tw16819860688693469767:Nat:=0
def tw3843802936091397280:Nat:=0
def tw15136043430447919208:Nat:=0
def tw14259366581859741276:Nat:=0
def tw438418704465138099:Nat:=0
def tw15542042287651667288:Nat:=0
def tw7154844309300590826:Nat:=0
def tw14252042270228752941:Nat:=0
def tw15106366021483559487:Nat:=0
def tw16526321206710048514:Nat:=0
def tw13348240537933360563:Nat:=0
def tw2025365587480151762:Nat:=0
def tw12799301888931587854:Nat:=0
def tw1279809246378763585:Nat:=0
def tw3401971038874369595:Nat:=0
def tw3089021208103040543:Nat:=0
def tw4663749894938320369:Nat:=0
def tw2182613859381368147:Nat:=0
def tw16149498528395348703:Nat:=0
def tw8650698311501864865:Nat:=0
def tw10837497049729415317:Nat:=0
def tw6727702209330615453:Nat:=0
def tw17091586503917188994:Nat:=0
def tw11278953122283250258:Nat:=0
def tw7714992909260832120:Nat:=0
def tw1825340028745385106:Nat:=0
def tw544727543605531409:Nat:=0
def tw12618699262695332214:Nat:=0
def tw14074017901692251183:Nat:=0
def tw13078951649822718996:Nat:=0
def tw17119633219815746680:Nat:=0
def tw2963489894254616236:Nat:=0
def tw12743942349662556785:Nat:=0
def tw6336354342803600832:Nat:=0
def tw13322138286211104825:Nat:=0
def tw18301310038757288516:Nat:=0
def tw8402795973650525821:Nat:=0
def tw4120318921981661121:Nat:=0
def tw2312399606716683879:Nat:=0
def tw7943333341879555996:Nat:=0
end PySem.W.Fast
open PySem PySem.W PyProof.Rows
set_option maxRecDepth 100000 in
set_option maxHeartbeats 0 in
theorem PySem.Challenge.cw_decidebook_k03_sentences_as_texts_holds : PySem.Challenge.rw_decidebook_k03_sentences_as_texts.Holds := by
  w_on; o_law; k_head; (case hw => w_witness2)
  k_fill
  refine L2.walk_ofK (l := PySem.Challenge.rw_decidebook_k03_sentences_as_texts) (n := 63) (k := 60) (x := "script") (CX := L2.CX0) (sp := Sen.spLaw) rfl (by decide) rfl (by first | exact ⟨rfl, by decide, by decide⟩ | exact ⟨rfl, rfl, by decide, by decide⟩) (fun w h Y => PySem.W.kIn_of Y) ?F ?S ?C
  case F =>
    intro w mg fa h KX G hmg
    have T : ∃ a, K03.Txt PySem.Challenge.rw_decidebook_k03_sentences_as_texts.prog w (L2.KOf KX) mg a := by
      dsimp only [L2.KOf]
      apply K03.ex_mk
      constructor
      iterate 3 ((try dsimp only);apply PySem.W.mg_of KX G;k_is)
      iterate 28 ((try dsimp only);apply L2.dfm KX G;k_is;k_is;k_is;k_is;intro _ _ _ _ _ _ us hl;first|(have z:=L2.ln_0 hl;subst z;rfl)|(obtain⟨_,us,e,hm⟩:=L2.ln_s hl;clear hl;subst e;have hl:=hm;clear hm;first|(have z:=L2.ln_0 hl;subst z;rfl)|(obtain⟨_,us,e,hm⟩:=L2.ln_s hl;clear hl;subst e;have hl:=hm;clear hm;first|(have z:=L2.ln_0 hl;subst z;rfl)|(obtain⟨_,us,e,hm⟩:=L2.ln_s hl;clear hl;subst e;have hl:=hm;clear hm;first|(have z:=L2.ln_0 hl;subst z;rfl)|(obtain⟨_,us,e,hm⟩:=L2.ln_s hl;clear hl;subst e;have hl:=hm;clear hm;first|(have z:=L2.ln_0 hl;subst z;rfl)|(obtain⟨_,us,e,hm⟩:=L2.ln_s hl;clear hl;subst e;have hl:=hm;clear hm;first|(have z:=L2.ln_0 hl;subst z;rfl)|(obtain⟨_,us,e,hm⟩:=L2.ln_s hl;clear hl;subst e;have hl:=hm;clear hm;first|(have z:=L2.ln_0 hl;subst z;rfl)|(obtain⟨_,us,e,hm⟩:=L2.ln_s hl;clear hl;subst e;have hl:=hm;clear hm;(have z:=L2.ln_0 hl;subst z;rfl)))))))))
      iterate 2 ((try dsimp only);apply L2.askC_mk;k_is;k_is)
      iterate 2 ((try dsimp only);apply L2.excC_mk;k_exc;k_is;k_is;k_is;rfl)
      (try dsimp only);apply L2.excB_mk;k_is;k_is;k_is
      (try dsimp only);refine of_decide_eq_true ?_;rfl
      (try dsimp only);apply PySem.W.mg_none_of KX G;k_is
      (try dsimp only);apply PySem.W.mg_of KX G;k_is
      (try dsimp only);apply L2.sqT_all;k_is;rfl;decide
      iterate 3 ((try dsimp only);apply PySem.W.mg_of KX G;k_is)
      (try dsimp only);apply L2.shp_mk;k_is;rfl;(unfold K03.tb_SHAPES;decide +kernel);(unfold K03.tb_SHAPES;iterate 10 (apply L2.Ent.cons;k_is;rfl));apply L2.Ent.nil
      iterate 9 ((try dsimp only);apply PySem.W.mg_none_of KX G;k_is)
    obtain ⟨a, T⟩ := T
    have e0 := hmg.symm.trans T.f_law.m
    cases e0
    exact ⟨_, K03.x_law T.f_law, fun base kb nb => K03.law_all T base⟩
  case S => exact fun K H a ns hl hO hS => ⟨a, ns, rfl, hS, hl, fun _ => rfl⟩
  case C => exact fun _ _ _ _ h => h
