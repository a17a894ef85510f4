import PyProof.Rows.All
import Wide.All
import OpenK.AllK
import Wide.FinOn
import PyProof.EqAt
import PyProof.EqKinds
import PyProof.TupleCall
import KE.BitLaws
import PySem.Challenge.RW_gentlebends_k02_fractions_reckoned
set_option Elab.async false
set_option linter.all false
set_option maxRecDepth 100000
namespace L2
open PySem PySem.Spec PyProof.Rows
abbrev Key := Sum Int Str
def keyIs : Key → Value → Bool
  | .inl k, v => Value.isInt k v
  | .inr x, v => Value.isStrOf x v
def keyH (w : World) : Key → Int
  | .inl k => hashInt k
  | .inr x => hashStr w x
theorem keyIs_shape : ∀ {k : Key} {v : Value}, keyIs k v = true → (∃ i t, k = Sum.inl i ∧ v = Value.int i t) ∨ (∃ x t, k = Sum.inr x ∧ v = Value.str x t)
  | .inl i, v, h => by
    obtain ⟨t, e⟩ := Value.isInt_shape (k := i) (v := v) h
    exact .inl ⟨i, t, rfl, e⟩
  | .inr x, v, h => by
    obtain ⟨t, e⟩ := Value.isStrOf_shape (x := x) (v := v) h
    exact .inr ⟨x, t, rfl, e⟩
theorem keyIs_int (i : Int) (t : Tok) : keyIs (.inl i) (.int i t) = true := by simp [keyIs, Value.isInt]
theorem keyIs_str (x : Str) (t : Tok) : keyIs (.inr x) (.str x t) = true := by simp [keyIs, Value.isStrOf]
theorem key_ll (a b : Int) : decide ((Sum.inl a : Key) = Sum.inl b) = (a == b) := by
  by_cases e : a = b
  · subst e; simp
  · have h : ¬ (Sum.inl a : Key) = Sum.inl b := fun q => e (Sum.inl.inj q)
    rw [decide_eq_false h]
    exact (beq_eq_false_iff_ne.mpr e).symm
theorem key_rr (a b : Str) : decide ((Sum.inr a : Key) = Sum.inr b) = decide (a = b) := by
  by_cases e : a = b
  · subst e; simp
  · have h : ¬ (Sum.inr a : Key) = Sum.inr b := fun q => e (Sum.inr.inj q)
    rw [decide_eq_false h, decide_eq_false e]
theorem key_lr (a : Int) (b : Str) : decide ((Sum.inl a : Key) = Sum.inr b) = false := decide_eq_false (fun q => nomatch q)
theorem key_rl (a : Str) (b : Int) : decide ((Sum.inr a : Key) = Sum.inl b) = false := decide_eq_false (fun q => nomatch q)
def mixKind (prog : Program) (w : World) : PySem.KeyKind prog w Key where
  is := keyIs
  hash := keyH w
  inj := fun v a b ha hb => by
    rcases keyIs_shape ha with ⟨i, t, rfl, rfl⟩ | ⟨x, t, rfl, rfl⟩
    · rcases keyIs_shape hb with ⟨j, u, rfl, e⟩ | ⟨y, u, rfl, e⟩
      · injection e with e1 _; rw [e1]
      · exact nomatch e
    · rcases keyIs_shape hb with ⟨j, u, rfl, e⟩ | ⟨y, u, rfl, e⟩
      · exact nomatch e
      · injection e with e1 _; rw [e1]
  byValue := fun k v h => by
    rcases keyIs_shape h with ⟨i, t, rfl, rfl⟩ | ⟨x, t, rfl, rfl⟩ <;> rfl
  pyHash := fun hv h => by
    rcases keyIs_shape hv with ⟨i, t, rfl, rfl⟩ | ⟨x, t, rfl, rfl⟩
    · exact wpAny_pyHash_int h
    · exact wpAny_pyHash_str h
  eqBool := fun hu hv h => by
    rcases keyIs_shape hu with ⟨i, t, rfl, rfl⟩ | ⟨x, t, rfl, rfl⟩
    · rcases keyIs_shape hv with ⟨j, u, rfl, rfl⟩ | ⟨y, u, rfl, rfl⟩
      · rw [key_ll] at h; exact wpAny_eqBool_int h
      · rw [key_lr] at h; exact SeqAt.EqAt.int_str i t y u _ _ _ _ h
    · rcases keyIs_shape hv with ⟨j, u, rfl, rfl⟩ | ⟨y, u, rfl, rfl⟩
      · rw [key_rl] at h; exact SeqAt.EqAt.str_int x t j u _ _ _ _ h
      · rw [key_rr] at h; exact wpAny_eqBool_str h
  «strs» := fun k x t v h => by
    rcases keyIs_shape h with ⟨i, u, rfl, e⟩ | ⟨y, u, rfl, e⟩
    · exact nomatch e
    · injection e with e1 _
      subst e1
      cases v <;> rfl
theorem mixKind_int (prog : Program) (w : World) (i : Int) (t : Tok) : (mixKind prog w).is (.inl i) (.int i t) = true := keyIs_int i t
theorem mixKind_str (prog : Program) (w : World) (x : Str) (t : Tok) : (mixKind prog w).is (.inr x) (.str x t) = true := keyIs_str x t
end L2
namespace L2
open PySem PySem.Spec PyProof.Rows
inductive V where
  | non | bl (b : Bool) | int (i : Int) | str (x : Str) | byt (b : Array UInt8) | flt (b : UInt64) | ref (a : Addr) | ty (n : String)
  deriving DecidableEq
def RelV : V → Value → Prop
  | .non, u => u = Value.none
  | .bl b, u => u = Value.bool b
  | .int i, u => ∃ t, u = Value.int i t
  | .str x, u => ∃ t, u = Value.str x t
  | .byt b, u => ∃ t, u = Value.bytes b t
  | .flt b, u => ∃ t, u = Value.float b t
  | .ref a, u => u = Value.ref a
  | .ty n, u => u = Value.type n
abbrev Vals : List V → List Value → Prop := Paired RelV
theorem Vals.length {xs : List V} {us : List Value} (r : Vals xs us) : xs.length = us.length := Paired.length r
theorem Vals.get : ∀ {xs : List V} {us : List Value} {i : Nat} {x : V}, Vals xs us → xs[i]? = some x → ∃ u, us[i]? = some u ∧ RelV x u
  | _, _, _, _, .nil, e => by simp at e
  | _, _, 0, _, .cons r _, e => by simp at e; subst e; exact ⟨_, rfl, r⟩
  | _, _, i + 1, x, .cons _ t, e => by
    obtain ⟨u, h1, h2⟩ := Vals.get (i := i) (x := x) t (by simpa using e)
    exact ⟨u, by simpa using h1, h2⟩
theorem Vals.set {x : V} {u : Value} (r : RelV x u) : ∀ {xs : List V} {us : List Value} (i : Nat), Vals xs us → Vals (xs.set i x) (us.set i u)
  | _, _, _, .nil => .nil
  | _, _, 0, .cons _ t => .cons r t
  | _, _, i + 1, .cons q t => .cons q (Vals.set r i t)
theorem Vals.append : ∀ {xs ys : List V} {us ws : List Value}, Vals xs us → Vals ys ws → Vals (xs ++ ys) (us ++ ws)
  | _, _, _, _, .nil, s => s
  | _, _, _, _, .cons r t, s => .cons r (Vals.append t s)
theorem Vals.take : ∀ {xs : List V} {us : List Value} (n : Nat), Vals xs us → Vals (xs.take n) (us.take n)
  | _, _, 0, _ => .nil
  | _, _, _ + 1, .nil => .nil
  | _, _, n + 1, .cons r t => .cons r (Vals.take n t)
theorem Vals.drop : ∀ {xs : List V} {us : List Value} (n : Nat), Vals xs us → Vals (xs.drop n) (us.drop n)
  | _, _, 0, r => r
  | _, _, _ + 1, .nil => .nil
  | _, _, n + 1, .cons _ t => Vals.drop n t
def RelO : Option V → Option Value → Prop
  | some v, some u => RelV v u
  | none, none => True
  | _, _ => False
def KV {κ : Type} : List (κ × V) → List (κ × Value) → Prop := Paired fun (p : κ × V) (q : κ × Value) => p.1 = q.1 ∧ RelV p.2 q.2
def kV : Key → V
  | .inl i => .int i
  | .inr x => .str x
inductive HO where
  | lst (xs : List V)
  | tup (xs : List V)
  | dK (kvs : List (Key × V)) | dT (kvs : List (List Key × V))
  | set (S : Int → Bool) (n : Nat)
  | ins (C dx : Addr) (fs : List (Str × V))
  | own (x : Addr)
  | xd (fs : List (Str × V))
  | met (f x : Addr)
  | rng (lo hi : Int)
  | frz (o : Obj) (u : HO)
  | tbl (ps : Array Value)
  | ext (φ : Heap → Prop)
abbrev Hp := Addr → Option HO
def upd (H : Hp) (a : Addr) (o : HO) : Hp := fun b => if b = a then some o else H b
theorem upd_same {H : Hp} {a : Addr} {o : HO} : upd H a o a = some o := by unfold upd; rw [if_pos rfl]
theorem upd_ne {H : Hp} {a b : Addr} {o : HO} (h : b ≠ a) : upd H a o b = H b := by unfold upd; rw [if_neg h]
theorem ne_of {H : Hp} {a b : Addr} {o u : HO} (h : H a = some o) (h' : H b = some u) (d : o ≠ u) : a ≠ b := by
  intro e; subst e; rw [h] at h'; exact d (Option.some.inj h')
theorem ne_of_none {H : Hp} {a b : Addr} {o : HO} (h : H a = some o) (h' : H b = none) : a ≠ b := by
  intro e; subst e; rw [h] at h'; cases h'
section
variable (P : Program) (w : World)
def ObjOk (H : Hp) (h : Heap) (a : Addr) : HO → Prop
  | .lst xs => xs.length ≤ sizeLine ∧ ∃ (its : List Value) (n : Nat), Vals xs its ∧ h.get? a = some { cls := .type "list", data := .seq its.toArray n }
  | .tup xs => xs.length ≤ sizeLine ∧ ∃ its : List Value, Vals xs its ∧ IsTup h a its.toArray
  | .dK kvs => kvs.length ≤ sizeLine ∧ (a == sysModules) = false ∧ ∃ vs, KV kvs vs ∧ h.DictOf (mixKind P w) a vs
  | .dT kvs => kvs.length ≤ sizeLine ∧ (a == sysModules) = false ∧ ∃ xs : List (List Key × Addr × Value),
      Paired (fun (p : List Key × V) (q : List Key × Addr × Value) => p.1 = q.1 ∧ H q.2.1 = some (.tup (p.1.map kV)) ∧ RelV p.2 q.2.2) kvs xs ∧
      ∃ o es ep, h.get? a = some o ∧ o.ExactDict ∧ o.data = .dict es ep ∧ es.toList = xs.map (entryOfKey (tupleKind (mixKind P w))) ∧ (xs.map (·.1)).Nodup
  | .set S n => h.SetOf (intKind P w) a S n
  | .ins C dx fs => H dx = some (.own a) ∧ fs.length ≤ 1000 ∧ dx ≠ a ∧ h.get? a = some (PySem.W.instObj C dx) ∧
      ∃ mA, h.Ns1 dx mA ∧ (∀ f, RelO (fs.lookup f) (mA f)) ∧ PySem.Within mA (fs.map (·.1))
  | .own _ => ∃ o, h.get? a = some o
  | .xd fs => ∃ mA, h.Ns1 a mA ∧ ∀ f, RelO (fs.lookup f) (mA f)
  | .rng lo hi => ∃ t u v, h.get? a = some { cls := .type "range", data := .fields #[.int lo t, .int hi u, .int 1 v] }
  | .frz o u => h.get? a = some o ∧ ObjOk H h a u
  | .tbl ps => h.get? a = some { cls := .none, data := .fields ps }
  | .met f x => h.get? a = some (PySem.W.methodObj (.ref f) (.ref x))
  | .ext φ => φ h ∧ (∃ o, h.get? a = some o) ∧ ∀ h1 h2 : Heap, φ h1 → (∀ o, h1.get? a = some o → h2.get? a = some o) → φ h2
def HOk (H : Hp) (h : Heap) : Prop := ∀ a o, H a = some o → ObjOk P w H h a o
end
section
variable {P : Program} {w : World} {H H' : Hp} {h h' : Heap} {a : Addr} {o : HO}
theorem ObjOk.lt (x : ObjOk P w H h a o) : a < h.objs.size := by
  cases o with
  | lst xs => obtain ⟨_, _, _, _, e⟩ := x; exact Heap.lt_size e
  | tup xs => obtain ⟨_, _, _, p⟩ := x; exact p.lt
  | dK kvs => obtain ⟨_, _, _, _, o, _, _, e, _⟩ := x; exact Heap.lt_size e
  | dT kvs => obtain ⟨_, _, _, _, o, _, _, e, _⟩ := x; exact Heap.lt_size e
  | set S n => obtain ⟨o, _, _, _, e, _⟩ := x; exact Heap.lt_size e
  | ins C dx fs => obtain ⟨_, _, _, e, _⟩ := x; exact Heap.lt_size e
  | own y => obtain ⟨_, e⟩ := x; exact Heap.lt_size e
  | xd fs => obtain ⟨_, ⟨_, _, _, e, _⟩, _⟩ := x; exact Heap.lt_size e
  | rng lo hi => obtain ⟨_, _, _, e⟩ := x; exact Heap.lt_size e
  | frz ob u => obtain ⟨e, _⟩ := x; exact Heap.lt_size e
  | tbl ps => exact Heap.lt_size (show h.get? a = some _ from x)
  | met f y => exact Heap.lt_size (show h.get? a = some _ from x)
  | ext φ => obtain ⟨_, ⟨_, e⟩, _⟩ := x; exact Heap.lt_size e
theorem Paired.mapP {α β : Type} {F G : α → β → Prop} : ∀ {l₁ : List α} {l₂ : List β}, Paired F l₁ l₂ → (∀ a b, F a b → G a b) → Paired G l₁ l₂
  | _, _, .nil, _ => .nil
  | _, _, .cons r t, f => .cons (f _ _ r) (Paired.mapP t f)
theorem ObjOk.stay (x : ObjOk P w H h a o) (k : ∀ b u, (b = a ∨ H b = some (.own a)) → h.get? b = some u → h'.get? b = some u)
    (ho : ∀ b, H b = some (.own a) → H' b = some (.own a)) (ht : ∀ b xs, H b = some (.tup xs) → H' b = some (.tup xs)) : ObjOk P w H' h' a o := by
  induction o with
  | lst xs => obtain ⟨z, its, n, r, e⟩ := x; exact ⟨z, its, n, r, k _ _ (.inl rfl) e⟩
  | tup xs => obtain ⟨z, its, r, ob, e, c⟩ := x; exact ⟨z, its, r, ob, k _ _ (.inl rfl) e, c⟩
  | dK kvs => obtain ⟨z, y, vs, r, ob, es, ep, e, c⟩ := x; exact ⟨z, y, vs, r, ob, es, ep, k _ _ (.inl rfl) e, c⟩
  | dT kvs =>
    obtain ⟨z, y, xs, r, ob, es, ep, e, c⟩ := x
    exact ⟨z, y, xs, Paired.mapP r fun p q z => ⟨z.1, ht _ _ z.2.1, z.2.2⟩, ob, es, ep, k _ _ (.inl rfl) e, c⟩
  | set S n => obtain ⟨ob, es, ep, t, e, c⟩ := x; exact ⟨ob, es, ep, t, k _ _ (.inl rfl) e, c⟩
  | ins C dx fs =>
    obtain ⟨d, z, ne, e, mA, ⟨od, es, ep, e2, c⟩, r⟩ := x
    exact ⟨ho _ d, z, ne, k _ _ (.inl rfl) e, mA, ⟨od, es, ep, k _ _ (.inr d) e2, c⟩, r⟩
  | own y => obtain ⟨ob, e⟩ := x; exact ⟨ob, k _ _ (.inl rfl) e⟩
  | xd fs => obtain ⟨mA, ⟨od, es, ep, e, c⟩, r⟩ := x; exact ⟨mA, ⟨od, es, ep, k _ _ (.inl rfl) e, c⟩, r⟩
  | rng lo hi => obtain ⟨t, u, v, e⟩ := x; exact ⟨t, u, v, k _ _ (.inl rfl) e⟩
  | frz ob u ih => obtain ⟨e, q⟩ := x; exact ⟨k _ _ (.inl rfl) e, ih q⟩
  | tbl ps =>
    have e : h.get? a = some { cls := .none, data := .fields ps } := x
    show h'.get? a = some { cls := .none, data := .fields ps }
    exact k a _ (.inl rfl) e
  | met f y =>
    have e : h.get? a = some (PySem.W.methodObj (.ref f) (.ref y)) := x
    show h'.get? a = some (PySem.W.methodObj (.ref f) (.ref y))
    exact k a _ (.inl rfl) e
  | ext φ => obtain ⟨p, ⟨o, e⟩, st⟩ := x; exact ⟨st _ _ p fun o q => k _ _ (.inl rfl) q, ⟨o, k _ _ (.inl rfl) e⟩, st⟩
theorem HOk.lt (x : HOk P w H h) (e : H a = some o) : a < h.objs.size := (x a o e).lt
theorem HOk.fresh (x : HOk P w H h) (e : h.objs.size ≤ a) : H a = none := by
  cases q : H a with
  | none => rfl
  | some u => exact absurd (Nat.lt_of_lt_of_le (x.lt q) e) (Nat.lt_irrefl _)
theorem HOk.kept (x : HOk P w H h) (k : ∀ b u, h.get? b = some u → h'.get? b = some u) : HOk P w H h' := fun a o e =>
  (x a o e).stay (fun b u _ q => k b u q) (fun _ q => q) fun _ _ q => q
theorem HOk.laid (x : HOk P w H h) (k : ∀ b u, h.get? b = some u → h'.get? b = some u) (hp : h.objs.size ≤ a) (new : ObjOk P w (upd H a o) h' a o) : HOk P w (upd H a o) h' := fun b u e => by
  have hn := x.fresh hp
  by_cases hb : b = a
  · subst hb; rw [upd_same] at e; cases e; exact new
  · rw [upd_ne hb] at e
    exact (x b u e).stay (fun c v _ q => k c v q) (fun c q => by rw [upd_ne (ne_of_none q hn)]; exact q) fun c xs q => by rw [upd_ne (ne_of_none q hn)]; exact q
end
def Rd (H : Hp) (a : Addr) (u : HO) : Prop := H a = some u ∨ ∃ o, H a = some (.frz o u)
theorem Rd.of {H : Hp} {a : Addr} {u : HO} (h : H a = some u) : Rd H a u := .inl h
theorem Rd.ok {P : Program} {w : World} {H : Hp} {h : Heap} {a : Addr} {u : HO} (r : Rd H a u) (x : HOk P w H h) : ObjOk P w H h a u := by
  rcases r with r | ⟨o, r⟩
  · exact x a u r
  · obtain ⟨_, q⟩ := x a _ r
    exact q
def Mut : Option HO → Prop
  | some (.lst _) => True
  | some (.dK _) => True
  | some (.dT _) => True
  | some (.set _ _) => True
  | some (.ins _ _ _) => True
  | some (.ext _) => True
  | _ => False
section
variable {P : Program} {w : World} {H : Hp} {h h' : Heap} {x e : Addr} {o' : HO}
theorem HOk.write (ok : HOk P w H h) (mu : Mut (H x)) (he : e = x ∨ H e = some (.own x)) (k : ∀ b u, b ≠ e → h.get? b = some u → h'.get? b = some u) (heo : ∃ u, h'.get? e = some u)
    (new : ObjOk P w (upd H x o') h' x o') : HOk P w (upd H x o') h' := fun b u q => by
  have nown : ∀ c y, H c = some (.own y) → c ≠ x := fun c y r z => by subst z; rw [r] at mu; exact mu
  have ntup : ∀ c xs, H c = some (.tup xs) → c ≠ x := fun c xs r z => by subst z; rw [r] at mu; exact mu
  by_cases hb : b = x
  · subst hb; rw [upd_same] at q; cases q; exact new
  · rw [upd_ne hb] at q
    by_cases hbe : b = e
    · have q' : H b = some (.own x) := by
        rcases he with z | z
        · exact absurd (hbe.trans z) hb
        · rw [hbe]; exact z
      rw [q] at q'; cases q'
      obtain ⟨v, hv⟩ := heo
      exact ⟨v, by rw [hbe]; exact hv⟩
    · refine (ok b u q).stay (fun c v hc r => k c v ?_ r) (fun c r => by rw [upd_ne (nown c b r)]; exact r) fun c xs r => by rw [upd_ne (ntup c xs r)]; exact r
      rcases hc with rfl | hc
      · exact hbe
      · rintro rfl
        rcases he with z | z
        · exact nown c b hc z
        · rw [hc] at z; cases z; exact hb rfl
end
structure Un (fs ex : List Addr) (H H' : Hp) (h h' : Heap) : Prop where
  keep : ∀ b o, h.get? b = some o → H b = none → b ∉ fs → b ∉ ex → h'.get? b = some o
  slot : ∀ b o, h.get? b = some o → H b = none → b ∈ fs → b ∉ ex → ∃ sl, h'.get? b = some { o with slots := sl }
  free : ∀ b o, h.get? b = some o → H b = none → b ∉ ex → H' b = none
  there : ∀ b o, h.get? b = some o → b ∉ ex → ∃ o', h'.get? b = some o'
  tups : ∀ b xs, H b = some (.tup xs) → H' b = some (.tup xs)
  frzs : ∀ b o u, H b = some (.frz o u) → H' b = some (.frz o u)
  tbls : ∀ b ps, H b = some (.tbl ps) → ∃ more, H' b = some (.tbl (ps ++ more))
section
variable {fs fs' ex ex' : List Addr} {H H1 H2 : Hp} {h h1 h2 h' : Heap} {a x e : Addr} {o : HO}
theorem Un.any (u : Un fs ex H H1 h h1) {b : Addr} {ob : Obj} (q : h.get? b = some ob) (n : H b = none) (hx : b ∉ ex) : ∃ sl, h1.get? b = some { ob with slots := sl } := by
  by_cases hb : b ∈ fs
  · exact u.slot b ob q n hb hx
  · exact ⟨ob.slots, u.keep b ob q n hb hx⟩
theorem Un.trans (a : Un fs ex H H1 h h1) (b : Un fs ex H1 H2 h1 h2) : Un fs ex H H2 h h2 where
  keep := fun c ob q n hc hx => b.keep c ob (a.keep c ob q n hc hx) (a.free c ob q n hx) hc hx
  slot := fun c ob q n hc hx => by
    obtain ⟨sl, e1⟩ := a.slot c ob q n hc hx
    obtain ⟨sl', e2⟩ := b.slot c _ e1 (a.free c ob q n hx) hc hx
    exact ⟨sl', e2⟩
  free := fun c ob q n hx => by
    obtain ⟨o', e1⟩ := a.there c ob q hx
    exact b.free c o' e1 (a.free c ob q n hx) hx
  there := fun c ob q hx => by
    obtain ⟨o', e1⟩ := a.there c ob q hx
    exact b.there c o' e1 hx
  tups := fun c xs q => b.tups c xs (a.tups c xs q)
  frzs := fun c ob xs q => b.frzs c ob xs (a.frzs c ob xs q)
  tbls := fun c ps q => by
    obtain ⟨m1, e1⟩ := a.tbls c ps q
    obtain ⟨m2, e2⟩ := b.tbls c _ e1
    exact ⟨m1 ++ m2, by rw [e2, Array.append_assoc]⟩
theorem Un.kept (k : ∀ b u, h.get? b = some u → h'.get? b = some u) : Un fs ex H H h h' :=
  ⟨fun b ob q _ _ _ => k b ob q, fun b ob q _ _ _ => ⟨ob.slots, k b ob q⟩, fun _ _ _ n _ => n, fun b ob q _ => ⟨ob, k b ob q⟩, fun _ _ q => q, fun _ _ _ q => q, fun _ ps q => ⟨#[], by rw [q]; simp⟩⟩
theorem Un.refl : Un fs ex H H h h := Un.kept fun _ _ q => q
theorem Un.laid (k : ∀ b u, h.get? b = some u → h'.get? b = some u) (hp : h.objs.size ≤ a) (hn : H a = none) : Un fs ex H (upd H a o) h h' where
  keep := fun b u q _ _ _ => k b u q
  slot := fun b u q _ _ _ => ⟨u.slots, k b u q⟩
  free := fun b u q n _ => by rw [upd_ne (Nat.ne_of_lt (Nat.lt_of_lt_of_le (Heap.lt_size q) hp))]; exact n
  there := fun b u q _ => ⟨u, k b u q⟩
  tups := fun b xs q => by rw [upd_ne (ne_of_none q hn)]; exact q
  frzs := fun b u xs q => by rw [upd_ne (ne_of_none q hn)]; exact q
  tbls := fun b ps q => ⟨#[], by rw [upd_ne (ne_of_none q hn), q]; simp⟩
theorem Un.write (mu : Mut (H x)) (he : e = x ∨ H e = some (.own x)) (k : ∀ b u, b ≠ e → h.get? b = some u → h'.get? b = some u) (heo : ∃ u, h'.get? e = some u) : Un fs ex H (upd H x o) h h' := by
  have hx : ∀ b, H b = none → b ≠ x := fun b n z => by subst z; rw [n] at mu; exact mu
  have hb : ∀ b, H b = none → b ≠ e := fun b n z => by
    subst z
    rcases he with r | r
    · exact hx b n r
    · rw [n] at r; cases r
  have hm : ∀ b u, H b = some u → ¬ Mut (some u) → b ≠ x := fun b u q nm z => by subst z; rw [q] at mu; exact nm mu
  refine ⟨fun b u q n _ _ => k b u (hb b n) q, fun b u q n _ _ => ⟨u.slots, k b u (hb b n) q⟩, fun b u q n _ => by rw [upd_ne (hx b n)]; exact n, fun b u q _ => ?_,
    fun b xs q => by rw [upd_ne (hm b _ q fun z => z)]; exact q, fun b u xs q => by rw [upd_ne (hm b _ q fun z => z)]; exact q, fun b ps q => ⟨#[], by rw [upd_ne (hm b _ q fun z => z), q]; simp⟩⟩
  by_cases hbe : b = e
  · subst hbe; exact heo
  · exact ⟨u, k b u hbe q⟩
theorem Un.mono (u : Un fs ex H H1 h h1) (hs : ∀ b ∈ fs, b ∈ fs') (hx : ∀ b ∈ ex, b ∈ ex') : Un fs' ex' H H1 h h1 :=
  ⟨fun b ob q n hb he => u.keep b ob q n (fun z => hb (hs b z)) fun z => he (hx b z), fun _ _ q n _ he => u.any q n fun z => he (hx _ z), fun b ob q n he => u.free b ob q n fun z => he (hx b z), fun b ob q he => u.there b ob q fun z => he (hx b z), u.tups, u.frzs, u.tbls⟩
end
def trk (h : Heap) (H : Hp) : List Addr := (List.range h.objs.size).filter fun a => (H a).isSome
def hidT (h : Heap) (H : Hp) : Heap := PySem.W.hideAll h (trk h H)
theorem hidT_size (h : Heap) (H : Hp) : (hidT h H).objs.size = h.objs.size := PySem.W.hideAll_size _ _
theorem hidT_get {h : Heap} {H : Hp} {b : Addr} {o : Obj} (e : h.get? b = some o) (n : H b = none) : (hidT h H).get? b = some o :=
  PySem.W.hideAll_get _ e fun hm => by
    have q : (H b).isSome = true := (List.mem_filter.mp hm).2
    rw [n] at q; simp at q
theorem of_hidT {h : Heap} {H : Hp} {b : Addr} {o : Obj} (e : (hidT h H).get? b = some o) : h.get? b = some o ∧ H b = none := by
  have e' : h.get? b = some o := PySem.W.of_hideAll (trk h H) e
  refine ⟨e', ?_⟩
  cases q : H b with
  | none => rfl
  | some x =>
    have hm : b ∈ trk h H := List.mem_filter.mpr ⟨List.mem_range.mpr (Heap.lt_size e'), by simp [q]⟩
    have z : (hidT h H).get? b = none := PySem.W.hideAll_none (trk h H) hm
    rw [z] at e; cases e
def allNews (g h : Heap) (L : Addr) : List (Addr × Obj) := (List.range h.objs.size).filterMap fun a => if a = L ∨ (g.get? a).isSome = true then none else (h.get? a).map fun o => (a, o)
def rest (g h : Heap) (L d : Addr) : List (Addr × Obj) := (allNews g h L).filter fun p => decide (p.1 ≠ d)
end L2
namespace L2
open PySem PySem.Spec PyProof.Rows
structure Mod (K : PySem.W.Frag) (mg : Str → Option Value) (base : Heap) : Prop where
  kin : K.In base
  glob : base.Ns mainGlobals mg
  blt : ∃ mb, base.Ns builtinsNs mb ∧ ∀ x : Str, x ≠ "__name__" → mb x = bootBuiltins x
  nolimit : base.NoLimit
  digits : base.NoDigits
  seer : base.NoSeer
  bmod : ∃ bm ob, BMod base mainGlobals mg bm ob
structure Cx where
  prog : Program
  w : World
  K : PySem.W.Frag
  mg : Str → Option Value
  base : Heap
  A : Around
  N : List Str
  s_0 : Shared
  H_0 : Hp
  env : Env
  outer : List Env
  stack : List Env
  ex : List Addr
  fn : Str → Bool
  calm : Bool
  pn : List (Addr × Obj)
  xe : Value → Shared → Prop
def frs (l : List Env) : List Addr := l.filterMap (·.frame)
abbrev Cx.fs (X : Cx) : List Addr := frs X.outer
def Vis (sc : Scope) (x : Str) : Prop := sc.names.lookup x = some .local ∨ sc.names.lookup x = some .cell ∨ sc.names.lookup x = some .free
def Loc (sc : Scope) (x : Str) : Prop := sc.names.lookup x = some .local ∨ sc.names.lookup x = some .cell
def Look (env : Env) (h : Heap) (m : Str → Option Value) (x : Str) (u : Value) : Prop :=
  (env.kindOf x = some .local ∧ m x = some u) ∨ ((env.kindOf x = some .cell ∨ env.kindOf x = some .free) ∧ ∃ c, env.cells.lookup x = some c ∧ h.IsCell c (some u))
structure Cx.Ok (X : Cx) : Prop where
  mod : Mod X.K X.mg X.base
  kind : X.env.scope.kind = .function
  glob : X.env.globals = mainGlobals
  blt : X.env.builtins = builtinsNs
  above : X.s_0.heap.objs.size ≤ X.env.locals
  inj : ∀ x y c, X.env.cells.lookup x = some c → X.env.cells.lookup y = some c → x = y
  has : ∀ x, (X.env.kindOf x = some .cell ∨ X.env.kindOf x = some .free) → ∃ c, X.env.cells.lookup x = some c
  cab : ∀ x c, X.fn x = true → X.env.cells.lookup x = some c → X.s_0.heap.objs.size ≤ c
  hd : X.calm = true → X.A.handled = none
  frames : X.A.frames = some X.stack
  stk : X.stack = X.outer ∨ (X.stack = X.env :: X.outer ∧ X.env.frame = some X.env.locals)
  exf : ∀ b ∈ X.ex, b ≠ X.env.locals ∧ ∀ x c, X.env.cells.lookup x = some c → c ≠ b
  bs : ∀ b o, X.base.get? b = some o → X.s_0.heap.get? b = some o ∧ X.H_0 b = none
  bsz : X.base.objs.size ≤ X.s_0.heap.objs.size
  noex : ∀ b o, X.base.get? b = some o → b ∉ X.ex
  exfs : ∀ b ∈ X.ex, b ∉ X.fs
  funs : X.s_0.heap.FunFrames X.base X.outer
  frf : ∀ b ∈ X.fs, X.H_0 b = none
structure Inv (X : Cx) (pins : List (Addr × Obj)) (σ : List (Option V)) (H : Hp) (s : Shared) : Prop where
  ok : X.Ok
  os : s.os = X.s_0.os
  bare : AllBare s.gens
  base : Un X.fs X.ex X.H_0 H X.s_0.heap s.heap
  loc : ∃ m, s.heap.Ns X.env.locals m ∧ ∀ (i : Nat) (x : Str) (v : V), X.N[i]? = some x → σ[i]? = some (some v) → Vis X.env.scope x → ∃ u, RelV v u ∧ Look X.env s.heap m x u
  cell : ∀ x c, X.env.cells.lookup x = some c → ∃ v, s.heap.IsCell c v
  free : H X.env.locals = none
  freeC : ∀ x c, X.env.cells.lookup x = some c → H c = none
  pin : ∀ p ∈ X.pn ++ pins, s.heap.get? p.1 = some p.2 ∧ H p.1 = none ∧ p.1 ≠ X.env.locals ∧ p.1 ∉ X.fs ∧ ∀ v, p.2.data ≠ .cell v
  hok : HOk X.prog X.w H s.heap
  len : σ.length = X.N.length
section
variable {X : Cx} {pins : List (Addr × Obj)} {σ : List (Option V)} {H H' : Hp} {s : Shared} {h' : Heap}
theorem Cx.Ok.nofr (ok : X.Ok) {b : Addr} {o : Obj} (e : X.base.get? b = some o) : b ∉ X.fs := fun hb => by
  have := (ok.funs.mem hb).1
  rw [e] at this; cases this
theorem Inv.bs (I : Inv X pins σ H s) : ∀ b o, X.base.get? b = some o → s.heap.get? b = some o ∧ H b = none := fun b o e =>
  ⟨I.base.keep b o (I.ok.bs b o e).1 (I.ok.bs b o e).2 (I.ok.nofr e) (I.ok.noex b o e), I.base.free b o (I.ok.bs b o e).1 (I.ok.bs b o e).2 (I.ok.noex b o e)⟩
theorem Inv.bk (I : Inv X pins σ H s) : ∀ b o, X.base.get? b = some o → s.heap.get? b = some o := fun b o e => (I.bs b o e).1
theorem Inv.mod (I : Inv X pins σ H s) : Mod X.K X.mg X.base := I.ok.mod
theorem Inv.kIn (I : Inv X pins σ H s) : X.K.In s.heap := I.ok.mod.kin.keeps I.bk
theorem Inv.nolimit (I : Inv X pins σ H s) : s.heap.NoLimit := I.ok.mod.nolimit.keeps I.bk
theorem Inv.fr (I : Inv X pins σ H s) : ∃ m, Fr X.base X.env.locals s.heap m :=
  let ⟨m, hn, _⟩ := I.loc
  ⟨m, hn, I.bk, Nat.le_trans I.ok.bsz I.ok.above⟩
theorem Inv.lt (I : Inv X pins σ H s) : X.env.locals < s.heap.objs.size := let ⟨_, hn, _⟩ := I.loc; hn.lt
theorem Inv.sz (I : Inv X pins σ H s) : X.s_0.heap.objs.size ≤ s.heap.objs.size := Nat.le_trans I.ok.above (Nat.le_of_lt I.lt)
theorem Inv.nofs (I : Inv X pins σ H s) {a : Addr} (h : s.heap.objs.size ≤ a) : a ∉ X.fs := fun hb => by
  obtain ⟨_, o, ho, _⟩ := I.ok.funs.mem hb
  exact absurd (Nat.lt_of_lt_of_le (Heap.lt_size ho) (Nat.le_trans I.sz h)) (Nat.lt_irrefl _)
theorem Inv.cne (I : Inv X pins σ H s) : ∀ x c, X.env.cells.lookup x = some c → c ≠ X.env.locals := fun x c e z => by
  obtain ⟨v, o, ho, hd⟩ := I.cell x c e
  obtain ⟨m, ⟨o', es, ep, ho', hd', _⟩, _⟩ := I.loc
  rw [z, ho'] at ho; cases ho; rw [hd'] at hd; cases hd
theorem Inv.funs (I : Inv X pins σ H s) : s.heap.FunFrames X.base X.outer := by
  have all : ∀ (l : List Env), (∀ b ∈ frs l, b ∈ X.fs) → X.s_0.heap.FunFrames X.base l → s.heap.FunFrames X.base l := by
    intro l
    induction l with
    | nil => intro _ _; trivial
    | cons env r ih =>
      intro hs hl
      obtain ⟨hk, ⟨L, o, hf, hn, ho, hd⟩, hr⟩ := hl
      have hL : L ∈ X.fs := hs L (by unfold frs; rw [List.filterMap_cons, hf]; exact List.mem_cons_self)
      obtain ⟨sl, e⟩ := I.base.slot L o ho (I.ok.frf L hL) hL fun z => I.ok.exfs L z hL
      exact ⟨hk, ⟨L, _, hf, hn, e, hd⟩, ih (fun b hb => hs b (by unfold frs; rw [List.filterMap_cons, hf]; exact List.mem_cons_of_mem _ hb)) hr⟩
  exact all X.outer (fun _ hb => hb) I.ok.funs
theorem Inv.stack (I : Inv X pins σ H s) : s.heap.FunFrames X.base X.stack := by
  rcases I.ok.stk with e | ⟨e, hf⟩
  · rw [e]; exact I.funs
  · rw [e]
    obtain ⟨m, hn, _⟩ := I.loc
    refine .cons (by rw [I.ok.kind]; decide) hf hn ?_ I.funs
    exact Heap.get?_none_of_le (Nat.le_trans I.ok.bsz I.ok.above)
theorem Inv.stkSub (I : Inv X pins σ H s) : ∀ b ∈ frs X.stack, b ∈ X.env.locals :: X.fs := fun b hb => by
  rcases I.ok.stk with e | ⟨e, hf⟩
  · rw [e] at hb; exact List.mem_cons_of_mem _ hb
  · rw [e] at hb
    unfold frs at hb
    rw [List.filterMap_cons, hf] at hb
    exact hb
theorem Inv.stkFree (I : Inv X pins σ H s) : ∀ b ∈ frs X.stack, H b = none := fun b hb => by
  rcases List.mem_cons.mp (I.stkSub b hb) with e | hb
  · rw [e]; exact I.free
  · obtain ⟨_, o, ho, _⟩ := I.ok.funs.mem hb
    exact I.base.free b o ho (I.ok.frf b hb) fun z => I.ok.exfs b z hb
theorem Inv.step {g' : Array GenState} {t' : Nat} {d' : Drawn} {ch : List Addr} (I : Inv X pins σ H s)
    (hch : ∀ b ∈ ch, (b ∈ X.ex ∨ X.s_0.heap.objs.size ≤ b) ∧ b ≠ X.env.locals ∧ (∀ x c, X.env.cells.lookup x = some c → c ≠ b) ∧ ∀ p ∈ X.pn ++ pins, p.1 ≠ b)
    (keep : ∀ b o, b ≠ X.env.locals → b ∉ X.fs → b ∉ ch → s.heap.get? b = some o → H b = none → h'.get? b = some o)
    (slot : ∀ b o, b ≠ X.env.locals → b ∈ X.fs → b ∉ ch → s.heap.get? b = some o → H b = none → ∃ sl, h'.get? b = some { o with slots := sl }) (free : ∀ b o, b ∉ ch → s.heap.get? b = some o → H b = none → H' b = none)
    (there : ∀ b o, b ∉ ch → s.heap.get? b = some o → ∃ o', h'.get? b = some o')
    (tups : ∀ b xs, H b = some (.tup xs) → H' b = some (.tup xs)) (frzs : ∀ b o u, H b = some (.frz o u) → H' b = some (.frz o u)) (tbls : ∀ b ps, H b = some (.tbl ps) → ∃ more, H' b = some (.tbl (ps ++ more)))
    (ns : ∀ m, s.heap.Ns X.env.locals m → h'.Ns X.env.locals m) (hok : HOk X.prog X.w H' h') (hg : AllBare g') :
    Inv X pins σ H' { s with heap := h', gens := g', drawn := d', toks := t' } := by
  have neL : ∀ b o, X.s_0.heap.get? b = some o → b ≠ X.env.locals := fun b o e => Nat.ne_of_lt (Nat.lt_of_lt_of_le (Heap.lt_size e) I.ok.above)
  have neC : ∀ b o, X.s_0.heap.get? b = some o → b ∉ X.ex → b ∉ ch := fun b o e hx hb => by
    rcases (hch b hb).1 with z | z
    · exact hx z
    · exact absurd (Nat.lt_of_lt_of_le (Heap.lt_size e) z) (Nat.lt_irrefl _)
  have cellK : ∀ x c, X.env.cells.lookup x = some c → ∀ v, s.heap.IsCell c v → h'.IsCell c v := fun x c e v ⟨o, ho, hd⟩ => by
    have nch : c ∉ ch := fun z => (hch c z).2.2.1 x c e rfl
    by_cases hc : c ∈ X.fs
    · obtain ⟨sl, q⟩ := slot c o (I.cne x c e) hc nch ho (I.freeC x c e)
      exact ⟨_, q, hd⟩
    · exact ⟨o, keep c o (I.cne x c e) hc nch ho (I.freeC x c e), hd⟩
  refine ⟨I.ok, I.os, hg, ⟨fun b o e n hb hx => ?_, fun b o e n hb hx => ?_, fun b o e n hx => ?_, fun b o e hx => ?_, fun b xs e => tups b xs (I.base.tups b xs e), fun b o xs e => frzs b o xs (I.base.frzs b o xs e), fun b ps e => ?_⟩, ?_, fun x c e => ?_, ?_, fun x c e => ?_, fun p hp => ?_, hok, I.len⟩
  · exact keep b o (neL b o e) hb (neC b o e hx) (I.base.keep b o e n hb hx) (I.base.free b o e n hx)
  · obtain ⟨sl, e1⟩ := I.base.slot b o e n hb hx
    obtain ⟨sl', e2⟩ := slot b _ (neL b o e) hb (neC b o e hx) e1 (I.base.free b o e n hx)
    exact ⟨sl', e2⟩
  · obtain ⟨o', e1⟩ := I.base.there b o e hx
    exact free b o' (neC b o e hx) e1 (I.base.free b o e n hx)
  · obtain ⟨o', e1⟩ := I.base.there b o e hx
    exact there b o' (neC b o e hx) e1
  · obtain ⟨m1, e1⟩ := I.base.tbls b ps e
    obtain ⟨m2, e2⟩ := tbls b _ e1
    exact ⟨m1 ++ m2, by rw [e2, Array.append_assoc]⟩
  · obtain ⟨m, hn, hl⟩ := I.loc
    refine ⟨m, ns m hn, fun i x v e1 e2 e3 => ?_⟩
    obtain ⟨u, r, l⟩ := hl i x v e1 e2 e3
    refine ⟨u, r, ?_⟩
    rcases l with l | ⟨k, c, e, z⟩
    · exact .inl l
    · exact .inr ⟨k, c, e, cellK x c e _ z⟩
  · obtain ⟨v, z⟩ := I.cell x c e
    exact ⟨v, cellK x c e v z⟩
  · obtain ⟨m, ⟨o, _, _, ho, _⟩, _⟩ := I.loc
    exact free _ o (fun z => (hch _ z).2.1 rfl) ho I.free
  · obtain ⟨v, o, ho, hd⟩ := I.cell x c e
    exact free c o (fun z => (hch c z).2.2.1 x c e rfl) ho (I.freeC x c e)
  · obtain ⟨e, n, ne, nf, d⟩ := I.pin p hp
    have nch : p.1 ∉ ch := fun z => (hch p.1 z).2.2.2 p hp rfl
    exact ⟨keep p.1 p.2 ne nf nch e n, free p.1 p.2 nch e n, ne, nf, d⟩
theorem Inv.un {t' : Nat} (I : Inv X pins σ H s) (u : Un X.fs [] H H' s.heap h') (hok : HOk X.prog X.w H' h') : Inv X pins σ H' { s with heap := h', toks := t' } := by
  obtain ⟨m, ⟨o, es, ep, ho, r⟩, _⟩ := id I.loc
  obtain ⟨sl, hL⟩ := u.any ho I.free (by simp)
  exact I.step (g' := s.gens) (d' := s.drawn) (ch := []) (fun _ z => nomatch z) (fun b o _ hb _ e n => u.keep b o e n hb (by simp)) (fun b o _ hb _ e n => u.slot b o e n hb (by simp)) (fun b o _ e n => u.free b o e n (by simp)) (fun b o _ e => u.there b o e (by simp)) u.tups u.frzs u.tbls (fun m' hm => by
    obtain ⟨o', es', ep', ho', r'⟩ := hm
    rw [ho] at ho'; cases ho'
    exact ⟨_, es', ep', hL, r'⟩) hok I.bare
theorem Inv.call {g' : Array GenState} {t' : Nat} {d' : Drawn} {ch : List Addr} (I : Inv X pins σ H s) (u : Un (frs X.stack) ch H H' s.heap h') (hok : HOk X.prog X.w H' h') (hg : AllBare g')
    (hch : ∀ b ∈ ch, (b ∈ X.ex ∨ X.s_0.heap.objs.size ≤ b) ∧ b ≠ X.env.locals ∧ (∀ x c, X.env.cells.lookup x = some c → c ≠ b) ∧ ∀ p ∈ X.pn ++ pins, p.1 ≠ b) :
    Inv X pins σ H' { s with heap := h', gens := g', drawn := d', toks := t' } := by
  obtain ⟨m, ⟨o, es, ep, ho, r⟩, _⟩ := id I.loc
  obtain ⟨sl, hL⟩ := u.any ho I.free fun z => (hch _ z).2.1 rfl
  exact I.step (ch := ch) hch (fun b o hL hb hc e n => u.keep b o e n (fun z => (List.mem_cons.mp (I.stkSub b z)).elim hL hb) hc) (fun b o _ _ hc e n => u.any e n hc) (fun b o hc e n => u.free b o e n hc) (fun b o hc e => u.there b o e hc) u.tups u.frzs u.tbls (fun m' hm => by
    obtain ⟨o', es', ep', ho', r'⟩ := hm
    rw [ho] at ho'; cases ho'
    exact ⟨_, es', ep', hL, r'⟩) hok hg
theorem Inv.turned {t' : Nat} {it : Addr} (I : Inv X pins σ H s) (k : ∀ b o, b ≠ it → s.heap.get? b = some o → h'.get? b = some o) (hn : H it = none) (hL : it ≠ X.env.locals)
    (h1 : it ∈ X.ex ∨ X.s_0.heap.objs.size ≤ it) (h2 : ∀ x c, X.env.cells.lookup x = some c → c ≠ it) (h3 : ∀ p ∈ X.pn ++ pins, p.1 ≠ it) : Inv X pins σ H { s with heap := h', toks := t' } := by
  have nit : ∀ b u, H b = some u → b ≠ it := fun b u e z => by rw [z, hn] at e; cases e
  refine I.step (g' := s.gens) (d' := s.drawn) (ch := [it]) (fun b hb => ?_) (fun b o _ _ hc e _ => k b o (fun z => hc (by simp [z])) e) (fun b o _ _ hc e _ => ⟨o.slots, k b o (fun z => hc (by simp [z])) e⟩) (fun _ _ _ _ n => n)
    (fun b o hc e => ⟨o, k b o (fun z => hc (by simp [z])) e⟩) (fun _ _ e => e) (fun _ _ _ e => e) (fun b ps e => ⟨#[], by rw [e]; simp⟩) (fun m hm => ?_) (fun b u e => ?_) I.bare
  · have e : b = it := by simpa using hb
    subst e
    exact ⟨h1, hL, h2, h3⟩
  · obtain ⟨o, es, ep, ho, r⟩ := hm
    exact ⟨o, es, ep, k _ o (Ne.symm hL) ho, r⟩
  · refine (I.hok b u e).stay (fun c v hc q => k c v ?_ q) (fun _ q => q) fun _ _ q => q
    rcases hc with z | z
    · rw [z]; exact nit b u e
    · exact nit c _ z
theorem Inv.tok (I : Inv X pins σ H s) (t : Nat) : Inv X pins σ H { s with toks := t } := I.un (h' := s.heap) (t' := t) Un.refl I.hok
theorem Inv.kept {t' : Nat} (I : Inv X pins σ H s) (k : ∀ b u, s.heap.get? b = some u → h'.get? b = some u) : Inv X pins σ H { s with heap := h', toks := t' } := I.un (Un.kept k) (I.hok.kept k)
theorem Inv.laid {a : Addr} {o : HO} {t' : Nat} (I : Inv X pins σ H s) (k : ∀ b u, s.heap.get? b = some u → h'.get? b = some u) (hp : s.heap.objs.size ≤ a) (new : ObjOk X.prog X.w (upd H a o) h' a o) :
    Inv X pins σ (upd H a o) { s with heap := h', toks := t' } := I.un (Un.laid k hp (I.hok.fresh hp)) (I.hok.laid k hp new)
theorem Inv.write {x e : Addr} {o : HO} {t' : Nat} (I : Inv X pins σ H s) (mu : Mut (H x)) (he : e = x ∨ H e = some (.own x)) (k : ∀ b u, b ≠ e → s.heap.get? b = some u → h'.get? b = some u) (heo : ∃ u, h'.get? e = some u)
    (new : ObjOk X.prog X.w (upd H x o) h' x o) : Inv X pins σ (upd H x o) { s with heap := h', toks := t' } := I.un (Un.write mu he k heo) (I.hok.write mu he k heo new)
theorem Inv.weak {σ' : List (Option V)} (I : Inv X pins σ H s) (hl : σ'.length = σ.length) (w : ∀ (i : Nat) v, σ'[i]? = some (some v) → σ[i]? = some (some v)) : Inv X pins σ' H s :=
  ⟨I.ok, I.os, I.bare, I.base, let ⟨m, hn, hl'⟩ := I.loc; ⟨m, hn, fun i x v e1 e2 e3 => hl' i x v e1 (w i v e2) e3⟩, I.cell, I.free, I.freeC, I.pin, I.hok, hl.trans I.len⟩
theorem Inv.pins_of {pins' : List (Addr × Obj)} (I : Inv X pins σ H s) (h : ∀ p ∈ pins', s.heap.get? p.1 = some p.2 ∧ H p.1 = none ∧ p.1 ≠ X.env.locals ∧ p.1 ∉ X.fs ∧ ∀ v, p.2.data ≠ .cell v) : Inv X pins' σ H s :=
  ⟨I.ok, I.os, I.bare, I.base, I.loc, I.cell, I.free, I.freeC, fun p hp => (List.mem_append.mp hp).elim (fun z => I.pin p (List.mem_append_left _ z)) (h p), I.hok, I.len⟩
theorem nodup_ix {N : List Str} (hN : N.Nodup) {i j : Nat} {x : Str} (a : N[i]? = some x) (b : N[j]? = some x) : i = j := by
  obtain ⟨h1, e1⟩ := List.getElem?_eq_some_iff.mp a
  obtain ⟨h2, e2⟩ := List.getElem?_eq_some_iff.mp b
  exact (List.getElem_inj hN).mp (e1.trans e2.symm)
theorem store_ok2 {M : Model} {A : Around} {E : Value → Shared → Prop} {i : Nat} {x : Str} {v : V} {u : Value} {Q : Unit → Shared → Prop} (I : Inv X pins σ H s) (hN : X.N.Nodup) (hi : X.N[i]? = some x) (hx : Loc X.env.scope x) (r : RelV v u)
    (h : ∀ s', Inv X pins (σ.set i (some v)) H s' → (∃ a, Heap.SameBut a s.heap s'.heap ∧ (a = X.env.locals ∨ X.env.cells.lookup x = some a)) → Q () s') (hf : X.fn x = true ∨ X.env.scope.names.lookup x = some .local := by first | exact .inl rfl | exact .inr rfl | assumption) : wpAny M A (storeName X.env x u) Q E s := by
  obtain ⟨m, hn, hl⟩ := id I.loc
  have hcls : (X.env.scope.kind == .class || (X.env.scope.kind == .module && X.env.locals != X.env.globals)) = false := by rw [I.ok.kind]; rfl
  have hiσ : i < σ.length := by rw [I.len]; exact (List.getElem?_eq_some_iff.mp hi).1
  have cne := I.cne
  have tracked : ∀ {a : Addr} {h' : Heap}, (∃ o, s.heap.get? a = some o ∧ H a = none) → Heap.SameBut a s.heap h' → HOk X.prog X.w H h' := fun {a h'} ha hs b ob e => by
    obtain ⟨_, _, hfree⟩ := ha
    refine (I.hok b ob e).stay (fun c w' hc q => (hs.2 c ?_).trans q) (fun _ q => q) fun _ _ q => q
    rintro rfl
    rcases hc with rfl | hc
    · rw [hfree] at e; cases e
    · rw [hfree] at hc; cases hc
  rcases hx with hk | hk
  · refine wpAny_storeName_local hk hn (fun h' hn' hs => ?_) hcls
    obtain ⟨oL, _, _, hoL, _⟩ := id hn
    refine h _ ⟨I.ok, I.os, I.bare, ⟨fun b o e n hb hx => ?_, fun b o e n hb hx => ?_, I.base.free, fun b o e hx => ?_, I.base.tups, I.base.frzs, I.base.tbls⟩, ⟨_, hn', fun j y v' e1 e2 e3 => ?_⟩, fun y c e => ?_, I.free, I.freeC, fun p hp => ?_, tracked ⟨oL, hoL, I.free⟩ hs, by simpa using I.len⟩ ⟨_, hs, .inl rfl⟩
    · exact (hs.2 b (Nat.ne_of_lt (Nat.lt_of_lt_of_le (Heap.lt_size e) I.ok.above))).trans (I.base.keep b o e n hb hx)
    · obtain ⟨sl, e1⟩ := I.base.slot b o e n hb hx
      exact ⟨sl, (hs.2 b (Nat.ne_of_lt (Nat.lt_of_lt_of_le (Heap.lt_size e) I.ok.above))).trans e1⟩
    · obtain ⟨o', e1⟩ := I.base.there b o e hx
      exact ⟨o', (hs.2 b (Nat.ne_of_lt (Nat.lt_of_lt_of_le (Heap.lt_size e) I.ok.above))).trans e1⟩
    · by_cases hj : j = i
      · subst hj
        rw [hi] at e1; cases e1
        rw [List.getElem?_set_self hiσ] at e2
        cases e2
        exact ⟨u, r, .inl ⟨hk, by simp⟩⟩
      · rw [List.getElem?_set_ne (Ne.symm hj)] at e2
        obtain ⟨u', r', q⟩ := hl j y v' e1 e2 e3
        refine ⟨u', r', ?_⟩
        rcases q with ⟨k, e⟩ | ⟨k, c, e, z⟩
        · refine .inl ⟨k, ?_⟩
          have : y ≠ x := fun e => hj (nodup_ix hN e1 (e ▸ hi))
          simp [this, e]
        · exact .inr ⟨k, c, e, z.sameBut hs (cne y c e)⟩
    · obtain ⟨w', z⟩ := I.cell y c e
      exact ⟨w', z.sameBut hs (cne y c e)⟩
    · obtain ⟨e, n, ne, nf, d⟩ := I.pin p hp
      exact ⟨(hs.2 p.1 ne).trans e, n, ne, nf, d⟩
  · have hfn : X.fn x = true := by
      rcases hf with z | z
      · exact z
      · rw [z] at hk; cases hk
    obtain ⟨c, hc⟩ := I.ok.has x (.inl hk)
    obtain ⟨w', z⟩ := I.cell x c hc
    refine wpAny_storeName_cell I.ok.kind hk hc z (fun h' hc' hs => ?_)
    obtain ⟨oc, hoc, hocd⟩ := id z
    refine h { s with heap := h' } ⟨I.ok, I.os, I.bare, ⟨fun b o e n hb hx => ?_, fun b o e n hb hx => ?_, I.base.free, fun b o e hx => ?_, I.base.tups, I.base.frzs, I.base.tbls⟩, ⟨m, hn.sameBut hs (Ne.symm (cne x c hc)), fun j y v' e1 e2 e3 => ?_⟩, fun y c' e => ?_, I.free, I.freeC, fun p hp => ?_, tracked ⟨oc, hoc, I.freeC x c hc⟩ hs, by simpa using I.len⟩ ⟨c, hs, .inr hc⟩
    · exact (hs.2 b (Nat.ne_of_lt (Nat.lt_of_lt_of_le (Heap.lt_size e) (I.ok.cab x c hfn hc)))).trans (I.base.keep b o e n hb hx)
    · obtain ⟨sl, e1⟩ := I.base.slot b o e n hb hx
      exact ⟨sl, (hs.2 b (Nat.ne_of_lt (Nat.lt_of_lt_of_le (Heap.lt_size e) (I.ok.cab x c hfn hc)))).trans e1⟩
    · obtain ⟨o', e1⟩ := I.base.there b o e hx
      exact ⟨o', (hs.2 b (Nat.ne_of_lt (Nat.lt_of_lt_of_le (Heap.lt_size e) (I.ok.cab x c hfn hc)))).trans e1⟩
    · by_cases hj : j = i
      · subst hj
        rw [hi] at e1; cases e1
        rw [List.getElem?_set_self hiσ] at e2
        cases e2
        exact ⟨u, r, .inr ⟨.inl hk, c, hc, hc'⟩⟩
      · rw [List.getElem?_set_ne (Ne.symm hj)] at e2
        obtain ⟨u', r', q⟩ := hl j y v' e1 e2 e3
        refine ⟨u', r', ?_⟩
        rcases q with q | ⟨k, c', e, z'⟩
        · exact .inl q
        · refine .inr ⟨k, c', e, z'.sameBut hs ?_⟩
          rintro rfl
          exact hj (nodup_ix hN e1 (I.ok.inj _ _ _ e hc ▸ hi))
    · by_cases hcc : c' = c
      · subst hcc; exact ⟨_, hc'⟩
      · obtain ⟨w2, z2⟩ := I.cell y c' e
        exact ⟨w2, z2.sameBut hs hcc⟩
    · obtain ⟨e, n, ne, nf, d⟩ := I.pin p hp
      refine ⟨(hs.2 p.1 ?_).trans e, n, ne, nf, d⟩
      intro q
      rw [q, hoc] at e
      have q' : oc = p.2 := Option.some.inj e
      exact d w' (by rw [← q']; exact hocd)
theorem store_ok {M : Model} {A : Around} {E : Value → Shared → Prop} {i : Nat} {x : Str} {v : V} {u : Value} {Q : Unit → Shared → Prop} (I : Inv X pins σ H s) (hN : X.N.Nodup) (hi : X.N[i]? = some x) (hx : Loc X.env.scope x) (r : RelV v u)
    (h : ∀ s', Inv X pins (σ.set i (some v)) H s' → Q () s') (hf : X.fn x = true ∨ X.env.scope.names.lookup x = some .local := by first | exact .inl rfl | exact .inr rfl | assumption) : wpAny M A (storeName X.env x u) Q E s :=
  store_ok2 I hN hi hx r (fun s' I' _ => h s' I') hf
theorem Inv.call' {s' : Shared} {ch : List Addr} (I : Inv X pins σ H s) (ho : s'.os = s.os) (u : Un (frs X.stack) ch H H' s.heap s'.heap) (hok : HOk X.prog X.w H' s'.heap) (hg : AllBare s'.gens)
    (hch : ∀ b ∈ ch, (b ∈ X.ex ∨ X.s_0.heap.objs.size ≤ b) ∧ b ≠ X.env.locals ∧ (∀ x c, X.env.cells.lookup x = some c → c ≠ b) ∧ ∀ p ∈ X.pn ++ pins, p.1 ≠ b) : Inv X pins σ H' s' := by
  obtain ⟨h', g', d', t', o'⟩ := s'
  have e : o' = s.os := ho
  subst e
  exact I.call (g' := g') (t' := t') (d' := d') u hok hg hch
end
abbrev XK := Value → Option Addr → Hp → Prop
abbrev St := List (Option V)
abbrev VK := V → Hp → Prop
abbrev TE := St → Hp → VK → Prop
abbrev TT := St → Hp → (Bool → Hp → Prop) → Prop
abbrev TA := St → Hp → (List V → Hp → Prop) → Prop
structure Ends where
  nx : St → Hp → Prop
  rt : VK
  bk : St → Hp → Prop := fun _ _ => False
  ct : St → Hp → Prop := fun _ _ => False
abbrev TS := Ends → St → Hp → Prop
def EP (X : Cx) (pins : List (Addr × Obj)) (σ : St) (Q : VK) (u : Value) (s' : Shared) : Prop := ∃ v H', Inv X pins σ H' s' ∧ RelV v u ∧ Q v H'
def TP (X : Cx) (pins : List (Addr × Obj)) (σ : St) (Q : Bool → Hp → Prop) (b : Bool) (s' : Shared) : Prop := ∃ H', Inv X pins σ H' s' ∧ Q b H'
def AP (X : Cx) (pins : List (Addr × Obj)) (σ : St) (Q : List V → Hp → Prop) (us : List Value) (s' : Shared) : Prop := ∃ vs H', Inv X pins σ H' s' ∧ Vals vs us ∧ Q vs H'
def SP (X : Cx) (pins : List (Addr × Obj)) (D : Ends) (f : Flow) (s' : Shared) : Prop :=
  match f with
  | .next => ∃ σ' H', Inv X pins σ' H' s' ∧ D.nx σ' H'
  | .brk => ∃ σ' H', Inv X pins σ' H' s' ∧ D.bk σ' H'
  | .cont => ∃ σ' H', Inv X pins σ' H' s' ∧ D.ct σ' H'
  | .ret u => ∃ v σ' H', Inv X pins σ' H' s' ∧ RelV v u ∧ D.rt v H'
def PE (X : Cx) (e : Expr) (t : TE) : Prop :=
  ∀ (pins : List (Addr × Obj)) (s : Shared) (σ : St) (H : Hp) (Q : VK), Inv X pins σ H s → t σ H Q → wpAny (model X.prog X.w) X.A (eval e X.env) (EP X pins σ Q) X.xe s
def PT (X : Cx) (e : Expr) (t : TT) : Prop :=
  ∀ (pins : List (Addr × Obj)) (s : Shared) (σ : St) (H : Hp) (Q : Bool → Hp → Prop), Inv X pins σ H s → t σ H Q → wpAny (model X.prog X.w) X.A (isTrue e X.env (eval e X.env)) (TP X pins σ Q) X.xe s
def PW (X : Cx) (e : Expr) (t : TT) : Prop :=
  ∀ (whole : Sem Value) (pins : List (Addr × Obj)) (s : Shared) (σ : St) (H : Hp) (Q : Bool → Hp → Prop), Inv X pins σ H s → t σ H Q → wpAny (model X.prog X.w) X.A (isTrue e X.env whole) (TP X pins σ Q) X.xe s
theorem PW.pt {X : Cx} {e : Expr} {t : TT} (h : PW X e t) : PT X e t := h _
def PA (X : Cx) (es : List Expr) (t : TA) : Prop :=
  ∀ (pos : Pos) (pins : List (Addr × Obj)) (s : Shared) (σ : St) (H : Hp) (Q : List V → Hp → Prop), Inv X pins σ H s → t σ H Q → wpAny (model X.prog X.w) X.A (spliced (backTo pos (starEach es X.env))) (AP X pins σ Q) X.xe s
def PS (X : Cx) (st : Stmt) (t : TS) : Prop :=
  ∀ (pins : List (Addr × Obj)) (s : Shared) (σ : St) (H : Hp) (D : Ends), Inv X pins σ H s → t D σ H → wpAny (model X.prog X.w) X.A (exec st X.env) (SP X pins D) X.xe s
def PSs (X : Cx) (st : List Stmt) (t : TS) : Prop :=
  ∀ (pins : List (Addr × Obj)) (s : Shared) (σ : St) (H : Hp) (D : Ends), Inv X pins σ H s → t D σ H → wpAny (model X.prog X.w) X.A (execs st X.env) (SP X pins D) X.xe s
theorem thn {α : Type} {t : Sem α} {Q Q' : α → Shared → Prop} {M : Model} {A : Around} {E : Value → Shared → Prop} {s : Shared} (h : wpAny M A t Q E s) (hQ : ∀ a s, Q a s → Q' a s) : wpAny M A t Q' E s := wpAny_mono h hQ fun _ _ x => x
end L2
namespace L2
open PySem PySem.Spec PyProof.Rows
section
variable {X : Cx}
theorem bin {a b : Expr} {ta tb : TE} (ha : PE X a ta) (hb : PE X b tb) {pins : List (Addr × Obj)} {s : Shared} {σ : St} {H : Hp} {R : V → V → Hp → Prop} (I : Inv X pins σ H s) (h : ta σ H fun x H1 => tb σ H1 fun y H2 => R x y H2)
    {α : Type} {Q : α → Shared → Prop} {f : Value → Value → Sem α}
    (hf : ∀ v u s2 x y H2, Inv X pins σ H2 s2 → RelV x v → RelV y u → R x y H2 → wpAny (model X.prog X.w) X.A (f v u) Q X.xe s2) :
    wpAny (model X.prog X.w) X.A (eval a X.env) (fun v s₁ => wpAny (model X.prog X.w) X.A (eval b X.env) (fun u s₂ => wpAny (model X.prog X.w) X.A (f v u) Q X.xe s₂) X.xe s₁) X.xe s := by
  refine thn (ha pins s σ H _ I h) fun v s1 ⟨x, H1, I1, r1, q1⟩ => ?_
  refine thn (hb pins s1 σ H1 _ I1 q1) fun u s2 ⟨y, H2, I2, r2, q2⟩ => ?_
  exact hf v u s2 x y H2 I2 r1 r2 q2
def tVar (i : Nat) : TE := fun σ H Q => ∃ v, σ[i]? = some (some v) ∧ Q v H
def tC (v : V) : TE := fun _ H Q => Q v H
theorem pe_var {i : Nat} {x : Str} {pos : Pos} (hN : X.N[i]? = some x) (hv : Vis X.env.scope x) (hd : (x == ("__debug__" : Str)) = false := by decide) (hcd : (x == ("__classdict__" : Str)) = false := by decide) : PE X (.Name x pos) (tVar i) := by
  intro pins s σ H Q I h
  obtain ⟨v, e, h⟩ := h
  obtain ⟨m, hn, hl⟩ := I.loc
  obtain ⟨u, r, l⟩ := hl i x v hN e hv
  have fin : EP X pins σ Q u s := ⟨v, H, I, r, h⟩
  rcases l with ⟨hk, hm⟩ | ⟨hk, c, hc, hcell⟩
  · exact wpAny_Name (wpAny_loadName_local I.ok.kind hk hn hm fin) hd
  · rcases hk with hk | hk
    · exact wpAny_Name (wpAny_loadName_cell I.ok.kind hk hc hcell fin) hd
    · exact wpAny_Name (wpAny_loadName_free I.ok.kind hk hc hcell fin hcd) hd
theorem pe_int {i j pos} : PE X (.Constant (.int i) j pos) (tC (.int i)) := fun _ _ _ H _ I h => wpAny_Constant_int ⟨.int i, H, I.tok _, ⟨_, rfl⟩, h⟩
theorem pe_bl {b j pos} : PE X (.Constant (.bool b) j pos) (tC (.bl b)) := fun _ _ _ H _ I h => Constant_bool ⟨.bl b, H, I, rfl, h⟩
theorem pe_str {x j pos} : PE X (.Constant (.str x) j pos) (tC (.str x)) := fun _ _ _ H _ I h => Calls.Constant_str ⟨.str x, H, I.tok _, ⟨_, rfl⟩, h⟩
def Gl (X : Cx) (x : Str) : Prop := X.env.kindOf x = some .globalImplicit
theorem ld_glob {E : Value → Shared → Prop} {pins : List (Addr × Obj)} {s : Shared} {σ : St} {H : Hp} {x : Str} {u : Value} {pos : Pos} {Q : Value → Shared → Prop} (I : Inv X pins σ H s) (hg : Gl X x) (hm : X.mg x = some u) (h : Q u s)
    (hd : (x == ("__debug__" : Str)) = false := by decide) : wpAny (model X.prog X.w) X.A (eval (.Name x pos) X.env) Q E s :=
  Calls.Name_function_global I.ok.kind hg (Calls.loadGlobal_global (by rw [I.ok.glob]; exact I.mod.glob.keeps I.bk) hm h) hd
theorem ld_blt {E : Value → Shared → Prop} {pins : List (Addr × Obj)} {s : Shared} {σ : St} {H : Hp} {x : Str} {u : Value} {pos : Pos} {Q : Value → Shared → Prop} (I : Inv X pins σ H s) (hg : Gl X x) (hm : X.mg x = none) (hv : bootBuiltins x = some u) (h : Q u s)
    (hn : x ≠ "__name__" := by decide) (hd : (x == ("__debug__" : Str)) = false := by decide) : wpAny (model X.prog X.w) X.A (eval (.Name x pos) X.env) Q E s := by
  obtain ⟨mb, h1, h2⟩ := I.mod.blt
  exact Calls.Name_function_global I.ok.kind hg (Calls.loadGlobal_builtin (by rw [I.ok.glob]; exact I.mod.glob.keeps I.bk) hm (by rw [I.ok.blt]; exact h1.keeps I.bk) ((h2 x hn).trans hv) h) hd
theorem pe_glob {x : Str} {v : V} {u : Value} {pos : Pos} (hg : Gl X x) (hm : X.mg x = some u) (r : RelV v u) (hd : (x == ("__debug__" : Str)) = false := by decide) : PE X (.Name x pos) (tC v) :=
  fun _ _ _ H _ I h => ld_glob I hg hm ⟨v, H, I, r, h⟩ hd
theorem pe_bltn {x : Str} {v : V} {u : Value} {pos : Pos} (hg : Gl X x) (hm : X.mg x = none) (hv : bootBuiltins x = some u) (r : RelV v u) (hn : x ≠ "__name__" := by decide) (hd : (x == ("__debug__" : Str)) = false := by decide) : PE X (.Name x pos) (tC v) :=
  fun _ _ _ H _ I h => ld_blt I hg hm hv ⟨v, H, I, r, h⟩ hn hd
def t2I (ta tb : TE) (k : Int → Int → Hp → Prop) : St → Hp → Prop := fun σ H => ta σ H fun x H1 => tb σ H1 fun y H2 => ∃ i j, x = .int i ∧ y = .int j ∧ k i j H2
def tAdd (ta tb : TE) : TE := fun σ H Q => t2I ta tb (fun i j H2 => Q (.int (i + j)) H2) σ H
def tSub (ta tb : TE) : TE := fun σ H Q => t2I ta tb (fun i j H2 => Q (.int (i - j)) H2) σ H
def tMul (ta tb : TE) : TE := fun σ H Q => t2I ta tb (fun i j H2 => (-(2 ^ 64) < i ∧ i < 2 ^ 64) ∧ Q (.int (i * j)) H2) σ H
variable {a b : Expr} {ta tb : TE} {pos : Pos}
def PC (X : Cx) (op : CmpOp) (a b : Expr) (t : TE) : Prop :=
  ∀ (pins : List (Addr × Obj)) (s : Shared) (σ : St) (H : Hp) (Q : VK), Inv X pins σ H s → t σ H Q →
    wpAny (model X.prog X.w) X.A (eval a X.env) (fun v s₁ => wpAny (model X.prog X.w) X.A (eval b X.env) (fun u s₂ => wpAny (model X.prog X.w) X.A (compareOp op v u) (EP X pins σ Q) X.xe s₂) X.xe s₁) X.xe s
def tCmp (p : Int → Int → Bool) (ta tb : TE) : TE := fun σ H Q => t2I ta tb (fun i j H2 => Q (.bl (p i j)) H2) σ H
abbrev tLt : TE → TE → TE := tCmp fun i j => decide (i < j)
abbrev tLe : TE → TE → TE := tCmp fun i j => decide (i ≤ j)
abbrev tGt : TE → TE → TE := tCmp fun i j => decide (j < i)
abbrev tGe : TE → TE → TE := tCmp fun i j => decide (j ≤ i)
abbrev tEqI : TE → TE → TE := tCmp fun i j => decide (i = j)
abbrev tNeI : TE → TE → TE := tCmp fun i j => !decide (i = j)
def tIsN (ta : TE) : TE := fun σ H Q => ta σ H fun x H1 => Q (.bl (decide (x = .non))) H1
def tNotN (ta : TE) : TE := fun σ H Q => ta σ H fun x H1 => Q (.bl (!decide (x = .non))) H1
def tB (t : TE) : TT := fun σ H Q => t σ H fun x H1 => ∃ c, x = .bl c ∧ Q c H1
variable {tA tB' : TT} {rest : List Expr}
def tAnd (t u : TT) : TT := fun σ H Q => t σ H fun c H1 => if c = true then u σ H1 Q else Q false H1
def tOr (t u : TT) : TT := fun σ H Q => t σ H fun c H1 => if c = true then Q true H1 else u σ H1 Q
def tNot (t : TT) : TT := fun σ H Q => t σ H fun c H1 => Q (!c) H1
theorem pw_and1 (ha : PT X a tA) : PW X (.BoolOp .And [a] pos) tA := by
  intro wh pins s σ H Q I h
  refine isTrue_and (thn (ha pins s σ H Q I h) fun c s1 e => ?_)
  cases c with
  | true => exact isTrue_and_nil e
  | false => exact e
theorem pw_or1 (ha : PT X a tA) : PW X (.BoolOp .Or [a] pos) tA := by
  intro wh pins s σ H Q I h
  refine isTrue_or (thn (ha pins s σ H Q I h) fun c s1 e => ?_)
  cases c with
  | false => exact isTrue_or_nil e
  | true => exact e
theorem pw_and (ha : PT X a tA) (hb : PW X (.BoolOp .And (b :: rest) pos) tB') : PW X (.BoolOp .And (a :: b :: rest) pos) (tAnd tA tB') := by
  intro wh pins s σ H Q I h
  refine isTrue_and (thn (ha pins s σ H _ I h) fun c s1 ⟨H1, I1, q1⟩ => ?_)
  cases c with
  | true => exact hb wh pins s1 σ H1 Q I1 q1
  | false => exact ⟨H1, I1, q1⟩
theorem pw_or (ha : PT X a tA) (hb : PW X (.BoolOp .Or (b :: rest) pos) tB') : PW X (.BoolOp .Or (a :: b :: rest) pos) (tOr tA tB') := by
  intro wh pins s σ H Q I h
  refine isTrue_or (thn (ha pins s σ H _ I h) fun c s1 ⟨H1, I1, q1⟩ => ?_)
  cases c with
  | true => exact ⟨H1, I1, q1⟩
  | false => exact hb wh pins s1 σ H1 Q I1 q1
theorem pt_not (ha : PT X a tA) : PT X (.UnaryOp .Not a pos) (tNot tA) := by
  intro pins s σ H Q I h
  exact isTrue_not (ha pins s σ H (fun c H1 => Q (!c) H1) I h)
def tAndV (ta tb : TE) : TE := fun σ H Q => ta σ H fun x H1 => ∃ c, x = .bl c ∧ if c = true then tb σ H1 Q else Q (.bl false) H1
def tOrV (ta tb : TE) : TE := fun σ H Q => ta σ H fun x H1 => ∃ c, x = .bl c ∧ if c = true then Q (.bl true) H1 else tb σ H1 Q
def tNotV (ta : TE) : TE := fun σ H Q => ta σ H fun x H1 => ∃ c, x = .bl c ∧ Q (.bl (!c)) H1
theorem pe_one {op} {t : TE} (h : PE X a t) : PE X (.BoolOp op [a] pos) t := fun pins s σ H Q I hw => BoolOp_one (h pins s σ H Q I hw)
theorem pe_and (ha : PE X a ta) (hb : PE X (.BoolOp .And (b :: rest) pos) tb) : PE X (.BoolOp .And (a :: b :: rest) pos) (tAndV ta tb) := by
  intro pins s σ H Q I h
  refine BoolOp_and (thn (ha pins s σ H _ I h) fun v s1 ⟨x, H1, I1, r1, q1⟩ => ?_)
  obtain ⟨c, rfl, q1⟩ := q1
  cases r1
  refine wpAny_truthy_bool ?_
  cases c with
  | true => exact hb pins s1 σ H1 Q I1 q1
  | false => exact ⟨.bl false, H1, I1, rfl, q1⟩
def tIf (t : TT) (ta tb : TE) : TE := fun σ H Q => t σ H fun c H1 => if c = true then ta σ H1 Q else tb σ H1 Q
theorem pe_ifExp {c : Expr} (hc : PT X c tA) (ha : PE X a ta) (hb : PE X b tb) : PE X (.IfExp c a b pos) (tIf tA ta tb) := by
  intro pins s σ H Q I h
  refine wpAny_IfExp (thn (hc pins s σ H _ I h) fun d s1 ⟨H1, I1, q1⟩ => ?_)
  cases d with
  | true => exact ha pins s1 σ H1 Q I1 q1
  | false => exact hb pins s1 σ H1 Q I1 q1
end
end L2
namespace L2
open PySem PySem.Spec PyProof.Rows
def SqL (K : PySem.W.Frag) (H : Hp) (a : Addr) (xs : List V) : Prop :=
  Rd H a (.lst xs) ∨
    ∃ (o : Obj) (its : Array Value) (n : Nat), K.lookup a = some o ∧ o.cls = .type "list" ∧ o.dict = none ∧ o.data = .seq its n ∧ its.size ≤ sizeLine ∧ Vals xs its.toList
def SqT (K : PySem.W.Frag) (H : Hp) (a : Addr) (xs : List V) : Prop :=
  Rd H a (.tup xs) ∨
    ∃ (o : Obj) (its : Array Value) (n : Nat), K.lookup a = some o ∧ o.cls = .type "tuple" ∧ o.data = .seq its n ∧ its.size ≤ sizeLine ∧ Vals xs its.toList
def absV : Value → Option V
  | .none => some .non
  | .bool b => some (.bl b)
  | .int i _ => some (.int i)
  | .str x _ => some (.str x)
  | .bytes b _ => some (.byt b)
  | .float b _ => some (.flt b)
  | .ref a => some (.ref a)
  | .type n => some (.ty n)
  | _ => none
theorem RelV.abs {x : V} {u : Value} (r : RelV x u) : absV u = some x := by
  cases x with
  | non => cases r; rfl
  | bl _ => cases r; rfl
  | int _ => obtain ⟨t, rfl⟩ := r; rfl
  | str _ => obtain ⟨t, rfl⟩ := r; rfl
  | byt _ => obtain ⟨t, rfl⟩ := r; rfl
  | flt _ => obtain ⟨t, rfl⟩ := r; rfl
  | ref _ => cases r; rfl
  | ty _ => cases r; rfl
theorem RelV.inj {x y : V} {u : Value} (r : RelV x u) (q : RelV y u) : x = y := Option.some.inj (r.abs.symm.trans q.abs)
theorem Vals.inj : ∀ {xs ys : List V} {us : List Value}, Vals xs us → Vals ys us → xs = ys
  | _, _, _, .nil, .nil => rfl
  | _, _, _, .cons r t, .cons r' t' => by rw [r.inj r', Vals.inj t t']
section
variable {X : Cx} {pins : List (Addr × Obj)} {σ : St} {H : Hp} {s : Shared} {a : Addr} {xs ys : List V}
theorem SqL.of {K : PySem.W.Frag} (h : H a = some (.lst xs)) : SqL K H a xs := .inl (.inl h)
theorem SqT.of {K : PySem.W.Frag} (h : H a = some (.tup xs)) : SqT K H a xs := .inl (.inl h)
theorem Inv.list (I : Inv X pins σ H s) (h : SqL X.K H a xs) : ∃ its : List Value, Vals xs its ∧ PlainL s.heap a its.toArray ∧ xs.length ≤ sizeLine := by
  rcases h with h | ⟨o, its, n, hk, hc, hd, hs, hz, r⟩
  · obtain ⟨z, its, n, r, e⟩ := h.ok I.hok
    exact ⟨its, r, ⟨_, n, e, rfl, rfl, rfl⟩, z⟩
  · refine ⟨its.toList, r, ⟨o, n, I.kIn a o hk, hc, hd, by simpa using hs⟩, ?_⟩
    have e := r.length
    simp only [Array.length_toList] at e
    omega
theorem Inv.tuple (I : Inv X pins σ H s) (h : SqT X.K H a xs) : ∃ its : List Value, Vals xs its ∧ IsTup s.heap a its.toArray ∧ xs.length ≤ sizeLine := by
  rcases h with h | ⟨o, its, n, hk, hc, hs, hz, r⟩
  · obtain ⟨z, its, r, p⟩ := h.ok I.hok
    exact ⟨its, r, p, z⟩
  · refine ⟨its.toList, r, ⟨o, I.kIn a o hk, hc, n, by simpa using hs⟩, ?_⟩
    have e := r.length
    simp only [Array.length_toList] at e
    omega
theorem Inv.list_inj (I : Inv X pins σ H s) (h : SqL X.K H a xs) (h' : SqL X.K H a ys) : xs = ys := by
  obtain ⟨its, r, ⟨o, n, e, _, _, d⟩, _⟩ := I.list h
  obtain ⟨its', r', ⟨o', n', e', _, _, d'⟩, _⟩ := I.list h'
  rw [e] at e'; cases e'
  rw [d] at d'
  injection d' with d1 _
  have : its = its' := by simpa using congrArg Array.toList d1
  subst this
  exact r.inj r'
theorem Inv.tuple_inj (I : Inv X pins σ H s) (h : SqT X.K H a xs) (h' : SqT X.K H a ys) : xs = ys := by
  obtain ⟨its, r, ⟨o, e, _, n, d⟩, _⟩ := I.tuple h
  obtain ⟨its', r', ⟨o', e', _, n', d'⟩, _⟩ := I.tuple h'
  rw [e] at e'; cases e'
  rw [d] at d'
  injection d' with d1 _
  have : its = its' := by simpa using congrArg Array.toList d1
  subst this
  exact r.inj r'
end
abbrev Cx.wish (X : Cx) (E : Value → Shared → Prop) : Cx := { X with xe := E }
abbrev Cx.nox (X : Cx) : Cx := X.wish fun _ _ => False
theorem Cx.Ok.wish {X : Cx} (ok : X.Ok) (E : Value → Shared → Prop) : (X.wish E).Ok :=
  ⟨ok.mod, ok.kind, ok.glob, ok.blt, ok.above, ok.inj, ok.has, ok.cab, ok.hd, ok.frames, ok.stk, ok.exf, ok.bs, ok.bsz, ok.noex, ok.exfs, ok.funs, ok.frf⟩
theorem Cx.Ok.unwish {X : Cx} {E : Value → Shared → Prop} (ok : (X.wish E).Ok) : X.Ok :=
  ⟨ok.mod, ok.kind, ok.glob, ok.blt, ok.above, ok.inj, ok.has, ok.cab, ok.hd, ok.frames, ok.stk, ok.exf, ok.bs, ok.bsz, ok.noex, ok.exfs, ok.funs, ok.frf⟩
section
variable {X : Cx} {pins : List (Addr × Obj)} {σ : St} {H : Hp} {s : Shared} {E : Value → Shared → Prop}
theorem Inv.wish (I : Inv X pins σ H s) (E : Value → Shared → Prop) : Inv (X.wish E) pins σ H s := ⟨I.ok.wish E, I.os, I.bare, I.base, I.loc, I.cell, I.free, I.freeC, I.pin, I.hok, I.len⟩
theorem Inv.unwish (I : Inv (X.wish E) pins σ H s) : Inv X pins σ H s := ⟨I.ok.unwish, I.os, I.bare, I.base, I.loc, I.cell, I.free, I.freeC, I.pin, I.hok, I.len⟩
theorem SP.unwish {D : Ends} {f : Flow} {s' : Shared} (h : SP (X.wish E) pins D f s') : SP X pins D f s' := by
  cases f with
  | next => obtain ⟨σ', H', I, q⟩ := h; exact ⟨σ', H', I.unwish, q⟩
  | brk => obtain ⟨σ', H', I, q⟩ := h; exact ⟨σ', H', I.unwish, q⟩
  | cont => obtain ⟨σ', H', I, q⟩ := h; exact ⟨σ', H', I.unwish, q⟩
  | ret u => obtain ⟨v, σ', H', I, r, q⟩ := h; exact ⟨v, σ', H', I.unwish, r, q⟩
theorem PE.nox {e : Expr} {t : TE} (h : PE X.nox e t) : PE X e t := fun pins s σ H Q I hw =>
  wpAny_mono (h pins s σ H Q (I.wish _) hw) (fun _ _ ⟨v, H', I', r, q⟩ => ⟨v, H', I'.unwish, r, q⟩) fun _ _ z => False.elim z
theorem PT.nox {e : Expr} {t : TT} (h : PT X.nox e t) : PT X e t := fun pins s σ H Q I hw =>
  wpAny_mono (h pins s σ H Q (I.wish _) hw) (fun _ _ ⟨H', I', q⟩ => ⟨H', I'.unwish, q⟩) fun _ _ z => False.elim z
theorem PSs.nox {st : List Stmt} {t : TS} (h : PSs X.nox st t) : PSs X st t := fun pins s σ H D I hw =>
  wpAny_mono (h pins s σ H D (I.wish _) hw) (fun _ _ q => q.unwish) fun _ _ z => False.elim z
end
section
variable {X : Cx} {st : Stmt} {rest : List Stmt} {t u : TS} {e : Expr} {te : TE} {pos : Pos}
def tNext : TS := fun D σ H => D.nx σ H
def tSeq (t u : TS) : TS := fun D σ H => t { D with nx := u D } σ H
theorem pss_nil : PSs X [] tNext := fun _ _ σ H _ I h => wpAny_execs_nil ⟨σ, H, I, h⟩
theorem pss_cons (h1 : PS X st t) (h2 : PSs X rest u) : PSs X (st :: rest) (tSeq t u) := by
  intro pins s σ H D I h
  refine wpAny_execs_cons (thn (h1 pins s σ H { D with nx := u D } I h) fun f s1 q => ?_)
  cases f with
  | next =>
    obtain ⟨σ', H', I', q⟩ := q
    exact h2 pins s1 σ' H' D I' q
  | ret v => exact q
  | brk => exact q
  | cont => exact q
theorem pss_one (h1 : PS X st t) : PSs X [st] t := by
  intro pins s σ H D I h
  refine wpAny_execs_cons (thn (h1 pins s σ H D I h) fun f s1 q => ?_)
  cases f with
  | next => exact wpAny_execs_nil q
  | ret v => exact q
  | brk => exact q
  | cont => exact q
def tBreak : TS := fun D σ H => D.bk σ H
def tCont : TS := fun D σ H => D.ct σ H
theorem Inv.quiet {pins : List (Addr × Obj)} {σ : St} {H : Hp} {s : Shared} (I : Inv X pins σ H s) : interactive X.env = false := by simp [interactive, I.ok.kind]
def tDrop (te : TE) : TS := fun D σ H => te σ H fun _ H1 => D.nx σ H1
theorem ps_expr (he : PE X e te) (hs : swapsWith e none pos.line X.env = pure false := by rfl) : PS X (.Expr e pos) (tDrop te) := by
  intro pins s σ H D I h
  exact wpAny_Expr_any (thn (he pins s σ H _ I h) fun v s1 ⟨x, H1, I1, r1, q1⟩ => ⟨σ, H1, I1, q1⟩) I.quiet hs
def tRet (te : TE) : TS := fun D σ H => te σ H D.rt
theorem ps_ret (he : PE X e te) : PS X (.Return (some e) pos) (tRet te) := by
  intro pins s σ H D I h
  exact wpAny_Return_some (thn (he pins s σ H _ I h) fun v s1 ⟨x, H1, I1, r1, q1⟩ => ⟨x, σ, H1, I1, r1, q1⟩)
def tRetN : TS := fun D _ H => D.rt .non H
def tIfS (c : TT) (t u : TS) : TS := fun D σ H => c σ H fun b H1 => if b = true then t D σ H1 else u D σ H1
theorem ps_if {c : Expr} {a b : List Stmt} {tc : TT} (hc : PT X c tc) (ha : PSs X a t) (hb : PSs X b u) : PS X (.If c a b pos) (tIfS tc t u) := by
  intro pins s σ H D I h
  refine wpAny_If (thn (hc pins s σ H _ I h) fun d s1 ⟨H1, I1, q1⟩ => ?_)
  cases d with
  | true => exact ha pins s1 σ H1 D I1 q1
  | false => exact hb pins s1 σ H1 D I1 q1
def tNever : TS := fun _ _ _ => False
end
abbrev TG := V → St → Hp → (St → Hp → Prop) → Prop
abbrev TGs := List V → St → Hp → (St → Hp → Prop) → Prop
def PG (X : Cx) (target : Expr) (t : TG) : Prop :=
  ∀ (pins : List (Addr × Obj)) (s : Shared) (σ : St) (H : Hp) (v : V) (u : Value) (Q : St → Hp → Prop), Inv X pins σ H s → RelV v u → t v σ H Q →
    wpAny (model X.prog X.w) X.A (assign target X.env u) (fun _ s' => ∃ σ' H', Inv X pins σ' H' s' ∧ Q σ' H') X.xe s
def PGs (X : Cx) (ts : List Expr) (t : TGs) : Prop :=
  ∀ (pins : List (Addr × Obj)) (s : Shared) (σ : St) (H : Hp) (vs : List V) (us : List Value) (Q : St → Hp → Prop), Inv X pins σ H s → Vals vs us → t vs σ H Q →
    wpAny (model X.prog X.w) X.A (assignInOrder ((assignEach ts X.env).map (·.2)) us) (fun _ s' => ∃ σ' H', Inv X pins σ' H' s' ∧ Q σ' H') X.xe s
abbrev TSet := V → V → V → Hp → (Hp → Prop) → Prop
def PSet (X : Cx) (t : TSet) : Prop :=
  ∀ (pins : List (Addr × Obj)) (s : Shared) (σ : St) (H : Hp) (o i v : V) (ov iv u : Value) (Q : Hp → Prop), Inv X pins σ H s → RelV o ov → RelV i iv → RelV v u → t o i v H Q →
    wpAny (model X.prog X.w) X.A (setItem ov iv u) (fun _ s' => ∃ H', Inv X pins σ H' s' ∧ Q H') X.xe s
abbrev TIp := V → V → Hp → VK → Prop
def PIp (X : Cx) (op : Operator) (t : TIp) : Prop :=
  ∀ (pins : List (Addr × Obj)) (s : Shared) (σ : St) (H : Hp) (x y : V) (v u : Value) (Q : VK), Inv X pins σ H s → RelV x v → RelV y u → t x y H Q →
    wpAny (model X.prog X.w) X.A (inplaceOp op v u) (EP X pins σ Q) X.xe s
section
variable {X : Cx} {pos : Pos}
def gName (i : Nat) : TG := fun v σ H Q => Q (σ.set i (some v)) H
theorem pg_name {i : Nat} {x : Str} (hN : X.N.Nodup) (hi : X.N[i]? = some x) (hx : Loc X.env.scope x) (hf : X.fn x = true ∨ X.env.scope.names.lookup x = some .local := by first | exact .inl rfl | exact .inr rfl | assumption) : PG X (.Name x pos) (gName i) := by
  intro pins s σ H v u Q I r h
  exact wpAny_assign_Name (store_ok I hN hi hx r (fun s' I' => ⟨_, H, I', h⟩) hf)
def gNil : TGs := fun vs σ H Q => vs = [] ∧ Q σ H
def gCons (t : TG) (u : TGs) : TGs := fun vs σ H Q => ∃ v r, vs = v :: r ∧ t v σ H fun σ' H' => u r σ' H' Q
theorem pgs_nil : PGs X [] gNil := by
  intro pins s σ H vs us Q I r h
  obtain ⟨e, h⟩ := h
  subst e
  cases r
  exact assignInOrder_nil ⟨σ, H, I, h⟩
theorem pgs_cons {e : Expr} {es : List Expr} {t : TG} {u : TGs} (h1 : PG X e t) (h2 : PGs X es u)
    (hs : (assignEach (e :: es) X.env).map (·.2) = assign e X.env :: (assignEach es X.env).map (·.2) := by rfl) : PGs X (e :: es) (gCons t u) := by
  intro pins s σ H vs us Q I r h
  obtain ⟨v, vr, e1, h⟩ := h
  subst e1
  cases r with
  | cons r rr =>
    rw [hs]
    refine assignInOrder_cons (thn (h1 pins s σ H _ _ _ I r h) fun _ s1 ⟨σ1, H1, I1, q1⟩ => ?_)
    exact h2 pins s1 σ1 H1 _ _ Q I1 rr q1
def gTup (K : PySem.W.Frag) (n : Nat) (t : TGs) : TG := fun v σ H Q => ∃ a xs, v = .ref a ∧ SqT K H a xs ∧ xs.length = n ∧ t xs σ H Q
theorem pg_tup {es : List Expr} {k : Nat} {t : TGs} {n : Nat} (hc : X.calm = true) (h : PGs X es t)
    (hn : (assignEach es X.env).length = n := by rfl) (hst : (assignEach es X.env).findIdx? (·.1) = none := by rfl) : PG X (.Tuple es k pos) (gTup X.K n t) := by
  intro pins s σ H v u Q I r hw
  obtain ⟨a, xs, e1, hq, hl, hw⟩ := hw
  subst e1
  cases r
  obtain ⟨its, rv, ht, hz⟩ := I.tuple hq
  refine assign_Tuple_tuple (I.ok.hd hc) ht (by simp [hn, ← hl, rv.length]) hst fun h' hx => ?_
  have I1 : Inv X pins σ H { s with heap := h' } := I.kept (t' := s.toks) fun b o e => hx b o (Nat.ne_of_lt (Heap.lt_size e)) e
  exact h pins _ σ H xs _ Q I1 (by simpa using rv) hw
def gSub (to ti : TE) (t : TSet) : TG := fun v σ H Q => to σ H fun o H1 => ti σ H1 fun i H2 => t o i v H2 fun H3 => Q σ H3
def tAsg (te : TE) (g : TG) : TS := fun D σ H => te σ H fun x H1 => g x σ H1 D.nx
theorem ps_asg {tg e : Expr} {te : TE} {g : TG} (he : PE X e te) (hg : PG X tg g) (hs : swapsWithSole [tg] e pos.line X.env = pure false := by rfl) (hw : swappedStores [tg] e X.env = pure none := by rfl)
    (h1 : (assignEach [tg] X.env).map (·.2) = [assign tg X.env] := by rfl) : PS X (.Assign [tg] e pos) (tAsg te g) := by
  intro pins s σ H D I h
  refine wpAny_Assign_stores (thn (he pins s σ H _ I h) fun v s1 ⟨x, H1, I1, r1, q1⟩ => ?_) hs hw
  rw [h1]
  exact thn (hg pins s1 σ H1 x v _ I1 r1 q1) fun _ s2 q => q
theorem ps_set {i : Nat} {x : Str} {e : Expr} {te : TE} {pos' : Pos} (hN : X.N.Nodup) (hi : X.N[i]? = some x) (hx : Loc X.env.scope x) (he : PE X e te) (hs : swapsWith e (some (.Name x pos')) pos.line X.env = pure false := by rfl) (hf : X.fn x = true ∨ X.env.scope.names.lookup x = some .local := by first | exact .inl rfl | exact .inr rfl | assumption) :
    PS X (.Assign [.Name x pos'] e pos) (tAsg te (gName i)) := by
  intro pins s σ H D I h
  refine wpAny_Assign_Name (thn (he pins s σ H _ I h) fun v s1 ⟨y, H1, I1, r1, q1⟩ => ?_) hs
  exact store_ok I1 hN hi hx r1 (fun s2 I2 => ⟨_, H1, I2, q1⟩) hf
def tPar (i j : Nat) (ta : TA) : TS := fun D σ H => ta σ H fun vs H1 => ∃ v w, vs = [v, w] ∧ D.nx ((σ.set i (some v)).set j (some w)) H1
theorem ps_par {i j : Nat} {x y : Str} {a b : Expr} {ta : TA} {px py pt : Pos} {kt k2 pt2} (hc : X.calm = true) (hN : X.N.Nodup) (hi : X.N[i]? = some x) (hj : X.N[j]? = some y) (hij : i ≠ j)
    (hx : X.env.scope.names.lookup x = some .local) (hy : X.env.scope.names.lookup y = some .local) (ha : PA X [a, b] ta)
    (hw : swappedStores [.Tuple [.Name x px, .Name y py] kt pt] (.Tuple [a, b] k2 pt2) X.env = pure (some [x, y]))
    (hs : swapsWithSole [.Tuple [.Name x px, .Name y py] kt pt] (.Tuple [a, b] k2 pt2) pos.line X.env = pure false := by rfl) :
    PS X (.Assign [.Tuple [.Name x px, .Name y py] kt pt] (.Tuple [a, b] k2 pt2) pos) (tPar i j ta) := by
  intro pins s σ H D I h
  rw [exec_Assign_arm]
  refine wpAny_bind (wpAny_standAt ?_)
  rw [hs]
  refine wpAny_bind (wpAny_pure ?_)
  rw [if_neg (by decide)]
  refine wpAny_bind (Tuple_ (thn (ha _ pins s σ H _ I h) fun us s1 ⟨vs, H1, I1, r1, q1⟩ => ?_))
  obtain ⟨v, w, e1, q1⟩ := q1
  subst e1
  obtain ⟨u1, u2, rfl, rv, rw'⟩ : ∃ u1 u2, us = [u1, u2] ∧ RelV v u1 ∧ RelV w u2 := by
    cases r1 with
    | cons p q =>
      cases q with
      | cons p' q' =>
        cases q'
        exact ⟨_, _, rfl, p, p'⟩
  refine wpAny_newObj_type ?_ (by show 2 ≤ sizeLine; decide)
  have I2 : Inv X pins σ H1 { s1 with heap := s1.heap.push { cls := .type "tuple", data := .seq [u1, u2].toArray } } := I1.kept (t' := s1.toks) fun b o e => Heap.get?_push_of_some _ e
  rw [hw]
  refine wpAny_bind (wpAny_pure ?_)
  show wpAny (model X.prog X.w) X.A (do rule "assign.swapped-stores"; let items ← unpackItems (.ref s1.heap.objs.size) 2 none; assignInOrder [fun v => bindName X.env y v, fun v => bindName X.env x v] items.reverse; pure Flow.next) _ _ _
  refine wpAny_bind (wpAny_rule (wpAny_bind (unpackItems_tuple (items := #[u1, u2]) (I.ok.hd hc) (IsTup.new s1.heap _) fun h' hx' => ?_)))
  have I3 := I2.kept (h' := h') (t' := s1.toks) fun b o e => hx' b o (Nat.ne_of_lt (Heap.lt_size e)) e
  show wpAny _ _ (assignInOrder [fun v => bindName X.env y v, fun v => bindName X.env x v] [u2, u1] >>= fun _ => pure Flow.next) _ _ _
  refine wpAny_bind (assignInOrder_cons (wpAny_bindName (store_ok I3 hN hj (.inl hy) rw' (fun s2 I4 => ?_) (.inr hy))))
  refine assignInOrder_cons (wpAny_bindName (store_ok I4 hN hi (.inl hx) rv (fun s3 I5 => assignInOrder_nil (wpAny_pure ?_)) (.inr hx)))
  rw [List.set_comm _ _ (Ne.symm hij)] at I5
  exact ⟨_, H1, I5, q1⟩
def tAug (i : Nat) (te : TE) (ti : TIp) : TS := fun D σ H => ∃ x, σ[i]? = some (some x) ∧ te σ H fun y H1 => ti x y H1 fun z H2 => D.nx (σ.set i (some z)) H2
def tAugS (to ti te : TE) (tget : V → V → Hp → VK → Prop) (tip : TIp) (tset : TSet) : TS := fun D σ H => to σ H fun o H1 => ti σ H1 fun i H2 => tget o i H2 fun x H3 => te σ H3 fun y H4 => tip x y H4 fun z H5 => tset o i z H5 fun H6 => D.nx σ H6
def PGet (X : Cx) (t : V → V → Hp → VK → Prop) : Prop :=
  ∀ (pins : List (Addr × Obj)) (s : Shared) (σ : St) (H : Hp) (o i : V) (ov iv : Value) (Q : VK), Inv X pins σ H s → RelV o ov → RelV i iv → t o i H Q →
    wpAny (model X.prog X.w) X.A (getItem ov iv) (EP X pins σ Q) X.xe s
def ipI (f : Int → Int → Int) : TIp := fun x y H Q => ∃ i j, x = .int i ∧ y = .int j ∧ Q (.int (f i j)) H
end
section
variable {X : Cx} {pos : Pos}
def tWhile (c : TT) (tb : TS) : TS := fun D σ H => ∃ W : Nat → St → Hp → Prop, (∃ m, W m σ H) ∧ ∀ m σ H, W m σ H →
  c σ H fun b H1 => if b = true then ∃ N : St → Hp → Prop, (∀ σ' H', N σ' H' → ∃ m', m' < m ∧ W m' σ' H') ∧ tb { D with nx := N, ct := N, bk := D.nx } σ H1 else D.nx σ H1
theorem ps_while {c : Expr} {body : List Stmt} {tc : TT} {tb : TS} (hp : PassesOwn (model X.prog X.w) X.A X.env X.xe) (hc : PT X c tc) (hb : PSs X body tb) : PS X (.While c body [] pos) (tWhile tc tb) := by
  intro pins s σ H D I h
  obtain ⟨W, ⟨m0, w0⟩, turn⟩ := h
  refine wpAny_While (codeAny_whileLoop (fun n s' => ∃ σ' H', Inv X pins σ' H' s' ∧ W n σ' H') ?_ m0 ⟨σ, H, I, w0⟩)
  rintro n s1 ⟨σ1, H1, I1, w1⟩
  refine wpAny_passesOwn hp (thn (hc pins s1 σ1 H1 _ I1 (turn n σ1 H1 w1)) fun b s2 ⟨H2, I2, q2⟩ => ?_)
  cases b with
  | true =>
    obtain ⟨N, hN, q2⟩ := q2
    rw [if_pos rfl]
    refine wpAny_passesOwn hp (thn (hb pins s2 σ1 H2 _ I2 q2) fun f s3 q3 => ?_)
    cases f with
    | next =>
      obtain ⟨σ3, H3, I3, n3⟩ := q3
      obtain ⟨m', hm, w3⟩ := hN σ3 H3 n3
      exact ⟨m', hm, σ3, H3, I3, w3⟩
    | cont =>
      obtain ⟨σ3, H3, I3, n3⟩ := q3
      obtain ⟨m', hm, w3⟩ := hN σ3 H3 n3
      exact ⟨m', hm, σ3, H3, I3, w3⟩
    | brk => exact q3
    | ret v => exact q3
  | false =>
    rw [if_neg Bool.false_ne_true]
    exact wpAny_execs_nil ⟨σ1, H2, I2, q2⟩
end
structure It where
  go : Nat → Hp → Prop
  yld : Nat → Hp → V → Hp → Prop
  stop : Nat → Hp → Prop
def FpOk (X : Cx) (pins : List (Addr × Obj)) (H : Hp) (b : Addr) : Prop :=
  H b = none ∧ b ≠ X.env.locals ∧ b ∉ X.fs ∧ (b ∈ X.ex ∨ X.s_0.heap.objs.size ≤ b) ∧ (∀ x c, X.env.cells.lookup x = some c → c ≠ b) ∧ ∀ p ∈ X.pn ++ pins, p.1 ≠ b
theorem Inv.fpOk {X : Cx} {pins : List (Addr × Obj)} {σ : St} {H H' : Hp} {s : Shared} {b : Addr} (I : Inv X pins σ H s) (hb : s.heap.objs.size ≤ b) (hn : H' b = none) : FpOk X pins H' b := by
  refine ⟨hn, Nat.ne_of_gt (Nat.lt_of_lt_of_le I.lt hb), I.nofs hb, .inr (Nat.le_trans I.sz hb), fun x c e z => ?_, fun p hp z => ?_⟩
  · obtain ⟨v, q⟩ := I.cell x c e
    exact absurd (Nat.lt_of_lt_of_le q.lt (by rw [z]; exact hb)) (Nat.lt_irrefl _)
  · exact absurd (Nat.lt_of_lt_of_le (Heap.lt_size (I.pin p hp).1) (by rw [z]; exact hb)) (Nat.lt_irrefl _)
structure Turn (P : Program) (w : World) (K : PySem.W.Frag) (tg : Expr) (J : It) (fp : List Addr) (it : Addr) (tn : Nat → Heap → Prop) : Prop where
  mem : it ∈ fp
  obj : ∀ i h, tn i h → ∀ b ∈ fp, ∃ o, h.get? b = some o ∧ ∀ v, o.data ≠ .cell v
  keep : ∀ i h h', tn i h → (∀ b ∈ fp, ∀ o, h.get? b = some o → h'.get? b = some o) → tn i h'
  item : ∀ (X : Cx), X.prog = P → X.w = w → X.K = K → X.calm = true → ∀ (i : Nat) (pins : List (Addr × Obj)) (s : Shared) (σ : St) (H : Hp) (E : Value → Shared → Prop), Inv X pins σ H s → (∀ b ∈ fp, FpOk X pins H b) → tn i s.heap → J.go i H →
    wpAny (model P w) X.A (pyNext (.ref it)) (fun r s1 => ∃ u, r = some u ∧
      wpAny (model P w) X.A (letOwnedTupleGo tg (.ref it) u) (fun _ s2 => ∃ x H', Inv X pins σ H' s2 ∧ RelV x u ∧ J.yld i H x H' ∧ tn (i + 1) s2.heap ∧ ∀ b ∈ fp, H' b = none) E s1) E s
  done : ∀ (X : Cx), X.prog = P → X.w = w → X.K = K → X.calm = true → ∀ (i : Nat) (pins : List (Addr × Obj)) (s : Shared) (σ : St) (H : Hp) (E : Value → Shared → Prop), Inv X pins σ H s → (∀ b ∈ fp, FpOk X pins H b) → tn i s.heap → J.stop i H →
    wpAny (model P w) X.A (pyNext (.ref it)) (fun r s1 => r = none ∧ Inv X pins σ H s1) E s
  self : ∀ (A : Around) (i : Nat) (s : Shared) (Q : Value → Shared → Prop) (E : Value → Shared → Prop), tn i s.heap → Q (.ref it) s → wpAny (model P w) A (pyIter (.ref it)) Q E s
abbrev TI := St → Hp → (It → Hp → Prop) → Prop
def PIE (X : Cx) (pins : List (Addr × Obj)) (σ : St) (tg : Expr) (R : It → Hp → Prop) (itv : Value) (s2 : Shared) : Prop :=
  ∃ (it : Addr) (fp : List Addr) (tn : Nat → Heap → Prop) (J : It) (H' : Hp), itv = .ref it ∧ Inv X pins σ H' s2 ∧ Turn X.prog X.w X.K tg J fp it tn ∧ tn 0 s2.heap ∧ (∀ b ∈ fp, FpOk X pins H' b) ∧ R J H'
def PI (X : Cx) (tg iter : Expr) (wi : TI) : Prop :=
  ∀ (pins : List (Addr × Obj)) (s : Shared) (σ : St) (H : Hp) (R : It → Hp → Prop), Inv X pins σ H s → wi σ H R →
    wpAny (model X.prog X.w) X.A (eval iter X.env) (fun v s1 => wpAny (model X.prog X.w) X.A (pyIter v) (PIE X pins σ tg R) X.xe s1) X.xe s
theorem go_of {M : Model} {A : Around} {E : Value → Shared → Prop} {s : Shared} {tg : Expr} {it : Addr} {u : Value} {o : Obj} {n : String} {vs : Array Value} {Q : Unit → Shared → Prop} (ho : s.heap.get? it = some o) (hc : o.cls = .type n) (hd : o.data = .fields vs)
    (hn : ["enumerate", "zip", "dict_itemiterator", "dict_reverseitemiterator", "odict_iterator", "itertools.zip_longest", "itertools.pairwise"].contains n = false) (hQ : Q () s) : wpAny M A (letOwnedTupleGo tg (.ref it) u) Q E s := by
  unfold letOwnedTupleGo
  cases tg <;> first
    | exact wpAny_pure hQ
    | (cases u <;> first
        | exact wpAny_pure hQ
        | (refine wpAny_bind (wpAny_load ho ?_)
           rw [hc, hd]
           show wpAny M A (if (["enumerate", "zip", "dict_itemiterator", "dict_reverseitemiterator", "odict_iterator", "itertools.zip_longest", "itertools.pairwise"].contains n && vs[0]? == some (rawInt _)) = true then _ else _) Q E s
           rw [if_neg (by intro h; rw [hn, Bool.false_and] at h; cases h)]
           exact wpAny_pure hQ))
def Itl (K : PySem.W.Frag) (a : Addr) : It :=
  ⟨fun i H => ∃ xs x, SqL K H a xs ∧ xs[i]? = some x, fun i H x H' => H' = H ∧ ∀ xs, SqL K H a xs → xs[i]? = some x, fun i H => ∃ xs, SqL K H a xs ∧ xs.length ≤ i⟩
def Itt (K : PySem.W.Frag) (a : Addr) : It :=
  ⟨fun i H => ∃ xs x, SqT K H a xs ∧ xs[i]? = some x, fun i H x H' => H' = H ∧ ∀ xs, SqT K H a xs → xs[i]? = some x, fun i H => ∃ xs, SqT K H a xs ∧ xs.length ≤ i⟩
def Itr (lo : Int) (n : Nat) : It := ⟨fun i _ => i < n, fun i H x H' => H' = H ∧ x = .int (lo + i), fun i _ => n ≤ i⟩
theorem turn_range {P : Program} {w : World} {K : PySem.W.Frag} {tg : Expr} (it : Addr) (lo : Int) (n : Nat) : Turn P w K tg (Itr lo n) [it] it (fun i h => IsRangeIter h it (lo + (i : Nat) * 1) ((n : Int) - (i : Nat)) 1) where
  mem := by simp
  obj := fun i h st b hb => by
    have e : b = it := by simpa using hb
    subst e
    exact ⟨_, st, fun v z => by
      have z' : Data.fields _ = Data.cell v := z
      cases z'⟩
  keep := fun i h h' st k => k it (by simp) _ st
  item := by
    intro X hP hw hK hc i pins s σ H E I hf st hg
    subst hP hw hK
    obtain ⟨f0, f1, f2, f3, f4, f5⟩ := hf it (by simp)
    have W := Walks.range (prog := X.prog) (w := X.w) (I.ok.hd hc) it lo 1 n
    refine W.item i s _ _ hg st fun v h' tk hv st' kk => ?_
    obtain ⟨t, rfl⟩ := hv
    have I1 : Inv X pins σ H { s with heap := h', toks := tk } := I.turned (fun b o hb e => kk b o (by simpa using hb) e) f0 f1 f3 f4 f5
    refine ⟨_, rfl, go_of (s := { s with heap := h', toks := tk }) (n := "range_iterator") st' rfl rfl (by decide) ⟨.int (lo + i), H, I1, ⟨t, ?_⟩, ⟨rfl, rfl⟩, st', fun b hb => (hf b hb).1⟩⟩
    rw [Int.mul_one]
  done := by
    intro X hP hw hK hc i pins s σ H E I hf st hg
    subst hP hw hK
    obtain ⟨f0, f1, f2, f3, f4, f5⟩ := hf it (by simp)
    exact wpAny_pyNext_range_end (I.ok.hd hc) st (by have : n ≤ i := hg; omega) fun h' eb => ⟨rfl, I.turned (t' := s.toks) (fun b o hb e => eb b o hb e) f0 f1 f3 f4 f5⟩
  self := fun _ _ _ _ _ st h => wpAny_pyIter_rangeiter st h
end L2
namespace L2
open PySem PySem.Spec PyProof.Rows
section
variable {X : Cx} {tg : Expr}
def iList (K : PySem.W.Frag) (tl : TE) : TI := fun σ H R => tl σ H fun x H1 => ∃ a, x = .ref a ∧ (∃ xs, SqL K H1 a xs) ∧ R (Itl K a) H1
def iTup (K : PySem.W.Frag) (tl : TE) : TI := fun σ H R => tl σ H fun x H1 => ∃ a, x = .ref a ∧ (∃ xs, SqT K H1 a xs) ∧ R (Itt K a) H1
theorem range_it {pins : List (Addr × Obj)} {σ : St} {H : Hp} {s : Shared} {R : It → Hp → Prop} {E : Value → Shared → Prop} {lo hi : Int} {t u v : Tok} {tk : Nat} (I : Inv X pins σ H s) (h1 : -(2 ^ 62) ≤ lo) (h2 : lo < 2 ^ 62) (h3 : -(2 ^ 62) ≤ hi) (h4 : hi < 2 ^ 62)
    (q : R (Itr lo (hi - lo).toNat) H) : wpAny (model X.prog X.w) X.A (pyIter (.ref s.heap.objs.size)) (PIE X pins σ tg R) E { s with heap := s.heap.push { cls := .type "range", data := .fields #[.int lo t, .int hi u, .int 1 v] }, toks := tk } := by
  refine wpAny_pyIter_range (IsRange.new ..) (small_one h1 h2 h3 h4) ?_
  have I1 : Inv X pins σ H { s with heap := s.heap.push { cls := .type "range", data := .fields #[.int lo t, .int hi u, .int 1 v] }, toks := tk } := I.kept fun b o e => Heap.get?_push_of_some _ e
  refine ⟨(s.heap.push { cls := .type "range", data := .fields #[.int lo t, .int hi u, .int 1 v] }).objs.size, [(s.heap.push { cls := .type "range", data := .fields #[.int lo t, .int hi u, .int 1 v] }).objs.size], _, _, H, rfl,
    I1.kept (t' := tk) fun b o e => Heap.get?_push_of_some _ e, turn_range _ lo (hi - lo).toNat, ?_, fun b hb => ?_, q⟩
  · have e1 : lo + ((0 : Nat) : Int) * 1 = lo := by simp
    have e2 : (((hi - lo).toNat : Nat) : Int) - ((0 : Nat) : Int) = Builtin.Range.rangeSize lo hi 1 := by rw [rangeSize_one]; split <;> omega
    show IsRangeIter _ _ (lo + ((0 : Nat) : Int) * 1) ((((hi - lo).toNat : Nat) : Int) - ((0 : Nat) : Int)) 1
    rw [e1, e2]
    exact Heap.get?_push_size _ rfl
  · have e : b = (s.heap.push { cls := .type "range", data := .fields #[.int lo t, .int hi u, .int 1 v] }).objs.size := by simpa using hb
    subst e
    exact I1.fpOk (Nat.le_refl _) (I1.hok.fresh (Nat.le_refl _))
def iRng1 (ta : TA) : TI := fun σ H R => ta σ H fun vs H1 => ∃ j : Int, vs = [.int j] ∧ -(2 ^ 62) ≤ j ∧ j < 2 ^ 62 ∧ R (Itr 0 j.toNat) H1
def iRng2 (ta : TA) : TI := fun σ H R => ta σ H fun vs H1 => ∃ i j : Int, vs = [.int i, .int j] ∧ (-(2 ^ 62) ≤ i ∧ i < 2 ^ 62 ∧ -(2 ^ 62) ≤ j ∧ j < 2 ^ 62) ∧ R (Itr i (j - i).toNat) H1
theorem pi_range1 {a : Expr} {ta : TA} {p pos : Pos} (hg : Gl X "range") (hm : X.mg "range" = none) (ha : PA X [a] ta) (hs : starEach [a] X.env = [(false, eval a X.env)] := by rfl) : PI X tg (.Call (.Name "range" p) [a] [] pos) (iRng1 ta) := by
  intro pins s σ H R I h
  refine Call_ (ld_blt I hg hm boot_range (PyProof.Rows.callWith_type1 (thn (ha pos pins s σ H _ I h) fun us s1 ⟨vs, H1, I1, r1, q1⟩ => ?_) hs rfl))
  obtain ⟨j, e, q1, q2, q⟩ := q1
  subst e
  cases r1 with
  | cons r rr =>
    cases rr
    obtain ⟨t, rfl⟩ := r
    exact call_range_1 (range_it I1 (by omega) (by omega) q1 q2 (by simpa using q))
def tFor (wi : TI) (g : TG) (tb : TS) : TS := fun D σ H => wi σ H fun J H1 => ∃ W : Nat → Nat → St → Hp → Prop, (∃ m, W 0 m σ H1) ∧ ∀ i m σ H, W i m σ H →
  (J.stop i H ∧ D.nx σ H) ∨ (J.go i H ∧ ∃ N : St → Hp → Prop, (∀ σ' H', N σ' H' → ∃ m', m' < m ∧ W (i + 1) m' σ' H') ∧ ∀ x H', J.yld i H x H' → g x σ H' fun σ2 H2 => tb { D with nx := N, ct := N, bk := D.nx } σ2 H2)
def pinsAt (fp : List Addr) (h : Heap) : List (Addr × Obj) := fp.filterMap fun b => (h.get? b).map fun o => (b, o)
theorem mem_pinsAt {fp : List Addr} {h : Heap} {b : Addr} {o : Obj} (hb : b ∈ fp) (e : h.get? b = some o) : (b, o) ∈ pinsAt fp h := List.mem_filterMap.mpr ⟨b, hb, by rw [e]; rfl⟩
theorem of_pinsAt {fp : List Addr} {h : Heap} {p : Addr × Obj} (hp : p ∈ pinsAt fp h) : p.1 ∈ fp ∧ h.get? p.1 = some p.2 := by
  obtain ⟨b, hb, e⟩ := List.mem_filterMap.mp hp
  cases q : h.get? b with
  | none => rw [q] at e; cases e
  | some o =>
    rw [q] at e
    have e' : (b, o) = p := Option.some.inj e
    subst e'
    exact ⟨hb, q⟩
theorem Inv.pinned {pins : List (Addr × Obj)} {σ : St} {H : Hp} {s : Shared} {fp : List Addr} (I : Inv X pins σ H s) (hf : ∀ b ∈ fp, FpOk X pins H b) (ho : ∀ b ∈ fp, ∃ o, s.heap.get? b = some o ∧ ∀ v, o.data ≠ .cell v) : Inv X (pins ++ pinsAt fp s.heap) σ H s :=
  I.pins_of fun p hp => (List.mem_append.mp hp).elim (fun z => I.pin p (List.mem_append_right _ z)) fun z => by
    obtain ⟨hb, e⟩ := of_pinsAt z
    obtain ⟨f0, f1, f2, _⟩ := hf p.1 hb
    obtain ⟨o, e', d⟩ := ho p.1 hb
    rw [e] at e'; cases e'
    exact ⟨e, f0, f1, f2, d⟩
theorem Inv.unpinned {pins pl : List (Addr × Obj)} {σ : St} {H : Hp} {s : Shared} (I : Inv X (pins ++ pl) σ H s) : Inv X pins σ H s := I.pins_of fun p hp => I.pin p (List.mem_append_right _ (List.mem_append_left _ hp))
theorem ps_for {iter : Expr} {body : List Stmt} {wi : TI} {g : TG} {tb : TS} {pos : Pos} (hp : PassesOwn (model X.prog X.w) X.A X.env X.xe) (hc : X.calm = true) (hi : PI X tg iter wi) (hg : PG X tg g) (hb : PSs X body tb)
    (hs : ∀ x, foldedSetIterable iter X.env x = pure x := by intro _; rfl) : PS X (.For tg iter body [] pos) (tFor wi g tb) := by
  intro pins s σ H D I h
  refine wpAny_For (thn (hi pins s σ H _ I h) fun v s1 h1 => thn h1 fun itv s2 h2 => ?_) hs
  obtain ⟨it, fp, tn, J, H2, e, I2, T, st2, f2, W, ⟨m0, w0⟩, turn⟩ := h2
  subst e
  have stat : ∀ {H' : Hp}, (∀ b ∈ fp, H' b = none) → ∀ b ∈ fp, FpOk X pins H' b := fun hn b hb => ⟨hn b hb, (f2 b hb).2⟩
  refine codeAny_forLoop_any (fun n s' => ∃ i σ' H', Inv X pins σ' H' s' ∧ tn i s'.heap ∧ (∀ b ∈ fp, H' b = none) ∧ W i n σ' H') ?_ m0 ⟨0, σ, H2, I2, st2, fun b hb => (f2 b hb).1, w0⟩
  rintro n s3 ⟨i, σ3, H3, I3, st3, fr3, w3⟩
  rcases turn i n σ3 H3 w3 with ⟨stop, qn⟩ | ⟨go, N, hN, step⟩
  · refine wpAny_passesOwn hp (thn (T.done X rfl rfl rfl hc i pins s3 σ3 H3 X.xe I3 (stat fr3) st3 stop) fun r s4 ⟨hr, I4⟩ => ?_)
    subst hr
    exact wpAny_execs_nil ⟨σ3, H3, I4, qn⟩
  · refine wpAny_passesOwn hp (thn (T.item X rfl rfl rfl hc i pins s3 σ3 H3 X.xe I3 (stat fr3) st3 go) fun r s4 ⟨u, hr, h4⟩ => ?_)
    subst hr
    refine wpAny_passesOwn hp (thn h4 fun _ s5 ⟨x, H5, I5, r5, y5, st5, fr5⟩ => ?_)
    have I5' := I5.pinned (stat fr5) (T.obj _ _ st5)
    refine wpAny_passesOwn hp (thn (hg _ s5 σ3 H5 x u _ I5' r5 (step x H5 y5)) fun _ s6 ⟨σ6, H6, I6, q6⟩ => ?_)
    refine wpAny_passesOwn hp (thn (hb _ s6 σ6 H6 _ I6 q6) fun f s7 q7 => ?_)
    have again : ∀ {σ7 : St} {H7 : Hp}, Inv X (pins ++ pinsAt fp s5.heap) σ7 H7 s7 → N σ7 H7 → ∃ m, m < n ∧ ∃ i σ' H', Inv X pins σ' H' s7 ∧ tn i s7.heap ∧ (∀ b ∈ fp, H' b = none) ∧ W i m σ' H' := fun {σ7 H7} I7 n7 => by
      obtain ⟨m', hm, w7⟩ := hN σ7 H7 n7
      refine ⟨m', hm, i + 1, σ7, H7, I7.unpinned, T.keep _ _ _ st5 fun b hb o e => (I7.pin (b, o) (List.mem_append_right _ (List.mem_append_right _ (mem_pinsAt hb e)))).1, fun b hb => ?_, w7⟩
      obtain ⟨o, e, d⟩ := T.obj _ _ st5 b hb
      exact (I7.pin (b, o) (List.mem_append_right _ (List.mem_append_right _ (mem_pinsAt hb e)))).2.1
    cases f with
    | next => obtain ⟨σ7, H7, I7, n7⟩ := q7; exact again I7 n7
    | cont => obtain ⟨σ7, H7, I7, n7⟩ := q7; exact again I7 n7
    | brk => obtain ⟨σ7, H7, I7, q7⟩ := q7; exact ⟨σ7, H7, I7.unpinned, q7⟩
    | ret v => obtain ⟨x7, σ7, H7, I7, r7, q7⟩ := q7; exact ⟨x7, σ7, H7, I7.unpinned, r7, q7⟩
end
end L2
namespace L2
open PySem PySem.Spec PyProof.Rows
abbrev R2 := V → V → Hp → VK → Prop
def OpR (X : Cx) (f : Value → Value → Sem Value) (r : R2) : Prop :=
  ∀ (pins : List (Addr × Obj)) (s : Shared) (σ : St) (H : Hp) (x y : V) (v u : Value) (Q : VK), Inv X pins σ H s → RelV x v → RelV y u → r x y H Q →
    wpAny (model X.prog X.w) X.A (f v u) (EP X pins σ Q) X.xe s
def UnR (X : Cx) (f : Value → Sem Value) (r : V → Hp → VK → Prop) : Prop :=
  ∀ (pins : List (Addr × Obj)) (s : Shared) (σ : St) (H : Hp) (x : V) (v : Value) (Q : VK), Inv X pins σ H s → RelV x v → r x H Q →
    wpAny (model X.prog X.w) X.A (f v) (EP X pins σ Q) X.xe s
def CallR (X : Cx) (f : Value) (r : List V → Hp → VK → Prop) : Prop :=
  ∀ (pins : List (Addr × Obj)) (s : Shared) (σ : St) (H : Hp) (xs : List V) (us : List Value) (Q : VK), Inv X pins σ H s → Vals xs us → r xs H Q →
    wpAny (model X.prog X.w) X.A (call f us) (EP X pins σ Q) X.xe s
def TruR (X : Cx) (r : V → Hp → (Bool → Hp → Prop) → Prop) : Prop :=
  ∀ (pins : List (Addr × Obj)) (s : Shared) (σ : St) (H : Hp) (x : V) (v : Value) (Q : Bool → Hp → Prop), Inv X pins σ H s → RelV x v → r x H Q →
    wpAny (model X.prog X.w) X.A (truthy v) (TP X pins σ Q) X.xe s
def tOp (r : R2) (ta tb : TE) : TE := fun σ H Q => ta σ H fun x H1 => tb σ H1 fun y H2 => r x y H2 Q
def tUn (r : V → Hp → VK → Prop) (ta : TE) : TE := fun σ H Q => ta σ H fun x H1 => r x H1 Q
def rI (C : Int → Int → Prop) (g : Int → Int → V) : R2 := fun x y H Q => ∃ i j, x = .int i ∧ y = .int j ∧ C i j ∧ Q (g i j) H
def rI0 (g : Int → Int → V) : R2 := fun x y H Q => ∃ i j, x = .int i ∧ y = .int j ∧ Q (g i j) H
def rU (g : Int → V) : V → Hp → VK → Prop := fun x H Q => ∃ i, x = .int i ∧ Q (g i) H
section
variable {X : Cx} {a b c : Expr} {ta tb tc : TE} {pos : Pos}
theorem binT (ha : PE X a ta) (hb : PE X b tb) {pins : List (Addr × Obj)} {s : Shared} {σ : St} {H : Hp} {R : V → V → Hp → Prop} (I : Inv X pins σ H s)
    (h : ta σ H fun x H1 => tb σ H1 fun y H2 => R x y H2) {Q : Value → Shared → Prop} {f : Value → Value → Sem Value}
    (hf : ∀ v u s2 x y H2, Inv X pins σ H2 s2 → RelV x v → RelV y u → R x y H2 → wpAny (model X.prog X.w) X.A (f v u) Q X.xe s2) :
    wpAny (model X.prog X.w) X.A (eval a X.env) (fun v s₁ => wpAny (model X.prog X.w) X.A (eval b X.env) (fun u s₂ => wpAny (model X.prog X.w) X.A (f v u) Q X.xe s₂) X.xe s₁) X.xe s := by
  refine thn (ha pins s σ H _ I h) fun v s1 ⟨x, H1, I1, r1, q1⟩ => ?_
  refine thn (hb pins s1 σ H1 _ I1 q1) fun u s2 ⟨y, H2, I2, r2, q2⟩ => ?_
  exact hf v u s2 x y H2 I2 r1 r2 q2
theorem pe_op {op : Operator} {r : R2} (ho : OpR X (binaryOp op) r) (ha : PE X a ta) (hb : PE X b tb) : PE X (.BinOp a op b pos) (tOp r ta tb) := by
  intro pins s σ H Q I h
  exact wpAny_BinOp (binT ha hb I h fun v u s2 x y H2 I2 rx ry q => ho pins s2 σ H2 x y v u Q I2 rx ry q)
theorem pe_un {op : UnaryOp} {r : V → Hp → VK → Prop} (ho : UnR X (unaryOp op) r) (ha : PE X a ta) : PE X (.UnaryOp op a pos) (tUn r ta) := by
  intro pins s σ H Q I h
  exact UnaryOp_ (thn (ha pins s σ H _ I h) fun v s1 ⟨x, H1, I1, r1, q1⟩ => ho pins s1 σ H1 x v Q I1 r1 q1)
theorem opI {f : Value → Value → Sem Value} {C : Int → Int → Prop} {g : Int → Int → Int}
    (rule : ∀ (i j : Int) (t u : Tok) (s : Shared) (Q : Value → Shared → Prop) (E : Value → Shared → Prop), C i j → Q (.int (g i j) s.toks) { s with toks := s.toks + 1 } → wpAny (model X.prog X.w) X.A (f (.int i t) (.int j u)) Q E s) :
    OpR X f (rI C fun i j => .int (g i j)) := by
  intro pins s σ H x y v u Q I rx ry h
  obtain ⟨i, j, rfl, rfl, hc, q⟩ := h
  obtain ⟨t, rfl⟩ := rx
  obtain ⟨t', rfl⟩ := ry
  exact rule i j t t' s _ _ hc ⟨.int (g i j), H, I.tok _, ⟨_, rfl⟩, q⟩
theorem opI0 {f : Value → Value → Sem Value} {g : Int → Int → Int}
    (rule : ∀ (i j : Int) (t u : Tok) (s : Shared) (Q : Value → Shared → Prop) (E : Value → Shared → Prop), Q (.int (g i j) s.toks) { s with toks := s.toks + 1 } → wpAny (model X.prog X.w) X.A (f (.int i t) (.int j u)) Q E s) :
    OpR X f (rI0 fun i j => .int (g i j)) := by
  intro pins s σ H x y v u Q I rx ry h
  obtain ⟨i, j, rfl, rfl, q⟩ := h
  obtain ⟨t, rfl⟩ := rx
  obtain ⟨t', rfl⟩ := ry
  exact rule i j t t' s _ _ ⟨.int (g i j), H, I.tok _, ⟨_, rfl⟩, q⟩
theorem opB0 {f : Value → Value → Sem Value} {g : Int → Int → Bool}
    (rule : ∀ (i j : Int) (t u : Tok) (s : Shared) (Q : Value → Shared → Prop) (E : Value → Shared → Prop), Q (.bool (g i j)) s → wpAny (model X.prog X.w) X.A (f (.int i t) (.int j u)) Q E s) :
    OpR X f (rI0 fun i j => .bl (g i j)) := by
  intro pins s σ H x y v u Q I rx ry h
  obtain ⟨i, j, rfl, rfl, q⟩ := h
  obtain ⟨t, rfl⟩ := rx
  obtain ⟨t', rfl⟩ := ry
  exact rule i j t t' s _ _ ⟨.bl (g i j), H, I, rfl, q⟩
def CDiv (i j : Int) : Prop := 0 < j ∧ j < 1073741824
def CDivN (i j : Int) : Prop := j ≠ 0 ∧ j.natAbs < 1073741824
def CPow (i j : Int) : Prop := 0 ≤ j ∧ j ≤ 1000000 ∧ i.natAbs < 2 ^ 64
def CMul (i j : Int) : Prop := (-(2 ^ 64) < i ∧ i < 2 ^ 64) ∨ (-(2 ^ 64) < j ∧ j < 2 ^ 64)
theorem CMul.ok {i j : Int} (h : CMul i j) : IntMulOk i j := by
  rcases h with ⟨h1, h2⟩ | ⟨h1, h2⟩
  · exact .of_left (intBits_le_64 h1 h2)
  · exact .of_right (intBits_le_64 h1 h2)
theorem op_add : OpR X (binaryOp .Add) (rI0 fun i j => .int (i + j)) := opI0 fun _ _ _ _ _ _ _ q => add_int q
theorem op_sub : OpR X (binaryOp .Sub) (rI0 fun i j => .int (i - j)) := opI0 fun _ _ _ _ _ _ _ q => sub_int q
theorem op_mul : OpR X (binaryOp .Mult) (rI CMul fun i j => .int (i * j)) := opI fun _ _ _ _ _ _ _ hc q => mul_int q hc.ok
theorem op_fdiv : OpR X (binaryOp .FloorDiv) (rI CDiv fun i j => .int (i / j)) := opI fun i j _ _ _ _ _ hc q => by
  have h1 : (0 : Int) < j := hc.1
  have h2 : j < 1073741824 := hc.2
  exact floordiv_int (by omega) (by rw [Int.fdiv_eq_ediv_of_nonneg i (by omega)]; exact q) (.inl (PyProof.noPylong_small (by omega)))
theorem op_mod : OpR X (binaryOp .Mod) (rI (fun _ j => 0 < j) fun i j => .int (i % j)) := opI fun i j _ _ _ _ _ hc q => by
  have h1 : (0 : Int) < j := hc
  exact mod_int' (by omega) (by rw [Int.fmod_eq_emod_of_nonneg i (by omega)]; exact q)
theorem op_modN : OpR X (binaryOp .Mod) (rI (fun _ j => j ≠ 0) fun i j => .int (i.fmod j)) := opI fun _ _ _ _ _ _ _ hc q => mod_int' hc q
theorem op_pow : OpR X (binaryOp .Pow) (rI CPow fun i j => .int (i ^ j.toNat)) := opI fun _ _ _ _ _ _ _ hc q => pow_int_small hc.1 hc.2.1 hc.2.2 q
theorem unI {f : Value → Sem Value} {g : Int → Int}
    (rule : ∀ (i : Int) (t : Tok) (s : Shared) (Q : Value → Shared → Prop) (E : Value → Shared → Prop), Q (.int (g i) s.toks) { s with toks := s.toks + 1 } → wpAny (model X.prog X.w) X.A (f (.int i t)) Q E s) :
    UnR X f (rU fun i => .int (g i)) := by
  intro pins s σ H x v Q I rx h
  obtain ⟨i, rfl, q⟩ := h
  obtain ⟨t, rfl⟩ := rx
  exact rule i t s _ _ ⟨.int (g i), H, I.tok _, ⟨_, rfl⟩, q⟩
theorem un_neg : UnR X (unaryOp .USub) (rU fun i => .int (-i)) := unI fun _ _ _ _ _ q => neg_int q
theorem op_add_ib : OpR X (binaryOp .Add) (fun x y H Q => ∃ i k, x = .int i ∧ y = .bl k ∧ Q (.int (i + b2i k)) H) := by
  intro pins s σ H x y v u Q I rx ry h
  obtain ⟨i, k, rfl, rfl, q⟩ := h
  obtain ⟨t, rfl⟩ := rx
  cases ry
  exact add_int_bool ⟨.int (i + b2i k), H, I.tok _, ⟨_, rfl⟩, q⟩
end
def scal : V → V → Bool
  | .non, .non => true | .non, .int _ => true | .int _, .non => true | .non, .bl _ => true | .bl _, .non => true | .non, .str _ => true | .str _, .non => true
  | .int _, .int _ => true | .bl _, .bl _ => true | .str _, .str _ => true | .byt _, .byt _ => true
  | .int _, .str _ => true | .str _, .int _ => true | .bl _, .str _ => true | .str _, .bl _ => true
  | _, _ => false
def rEq : R2 := fun x y H Q => scal x y = true ∧ Q (.bl (decide (x = y))) H
def rNe : R2 := fun x y H Q => scal x y = true ∧ Q (.bl (!decide (x = y))) H
theorem dec_int {i j : Int} : decide (V.int i = V.int j) = (i == j) := by
  rw [Bool.eq_iff_iff]
  simp
theorem dec_bl {i j : Bool} : decide (V.bl i = V.bl j) = (i == j) := by
  rw [Bool.eq_iff_iff]
  simp
theorem dec_str {i j : Str} : decide (V.str i = V.str j) = (i == j) := by
  rw [Bool.eq_iff_iff]
  simp
theorem dec_byt {i j : Array UInt8} : decide (V.byt i = V.byt j) = (i.toList == j.toList) := by
  rw [Bool.eq_iff_iff]
  cases i
  cases j
  simp
section
variable {X : Cx} {a b c : Expr} {ta tb tc : TE} {pos : Pos}
theorem fin_bl {pins : List (Addr × Obj)} {σ : St} {H : Hp} {s : Shared} {Q : VK} {k k' : Bool} (I : Inv X pins σ H s) (q : Q (.bl k) H) (e : k = k') : EP X pins σ Q (.bool k') s := by
  subst e
  exact ⟨.bl k, H, I, rfl, q⟩
theorem op_eq : OpR X (compareOp .Eq) rEq := by
  intro pins s σ H x y v u Q I rx ry h
  obtain ⟨hs, q⟩ := h
  cases x with
  | non =>
    cases rx
    cases y with
    | non => cases ry; exact PySem.EqNone.eq_none_none (fin_bl I q (by simp))
    | bl j => cases ry; exact PySem.EqNone.eq_none_bool (fin_bl I q (by simp))
    | int j => obtain ⟨t', rfl⟩ := ry; exact PySem.EqNone.eq_none_int (fin_bl I q (by simp))
    | str j => obtain ⟨t', rfl⟩ := ry; exact PySem.EqNone.eq_none_str (fin_bl I q (by simp))
    | _ => exact absurd (show false = true from hs) Bool.false_ne_true
  | bl i =>
    cases rx
    cases y with
    | non => cases ry; exact PySem.EqNone.eq_bool_none (fin_bl I q (by simp))
    | bl j => cases ry; exact eq_bool (fin_bl I q dec_bl)
    | str j => obtain ⟨t', rfl⟩ := ry; exact PySem.EqMixed.eq_bool_str (fin_bl I q (by simp))
    | _ => exact absurd (show false = true from hs) Bool.false_ne_true
  | int i =>
    obtain ⟨t, rfl⟩ := rx
    cases y with
    | non => cases ry; exact PySem.EqNone.eq_int_none (fin_bl I q (by simp))
    | int j => obtain ⟨t', rfl⟩ := ry; exact eq_int (fin_bl I q dec_int)
    | str j => obtain ⟨t', rfl⟩ := ry; exact PySem.EqMixed.eq_int_str (fin_bl I q (by simp))
    | _ => exact absurd (show false = true from hs) Bool.false_ne_true
  | str i =>
    obtain ⟨t, rfl⟩ := rx
    cases y with
    | non => cases ry; exact PySem.EqNone.eq_str_none (fin_bl I q (by simp))
    | bl j => cases ry; exact PySem.EqMixed.eq_str_bool (fin_bl I q (by simp))
    | int j => obtain ⟨t', rfl⟩ := ry; exact PySem.EqMixed.eq_str_int (fin_bl I q (by simp))
    | str j => obtain ⟨t', rfl⟩ := ry; exact eq_str (fin_bl I q dec_str)
    | _ => exact absurd (show false = true from hs) Bool.false_ne_true
  | byt i =>
    obtain ⟨t, rfl⟩ := rx
    cases y with
    | byt j => obtain ⟨t', rfl⟩ := ry; exact PySem.W.eq_bytes (fin_bl I q dec_byt)
    | _ => exact absurd (show false = true from hs) Bool.false_ne_true
  | _ => cases y <;> exact absurd (show false = true from hs) Bool.false_ne_true
theorem op_ne : OpR X (compareOp .NotEq) rNe := by
  intro pins s σ H x y v u Q I rx ry h
  obtain ⟨hs, q⟩ := h
  cases x with
  | non =>
    cases rx
    cases y with
    | non => cases ry; exact PySem.EqNone.ne_none_none (fin_bl I q (by simp))
    | bl j => cases ry; exact PySem.EqNone.ne_none_bool (fin_bl I q (by simp))
    | int j => obtain ⟨t', rfl⟩ := ry; exact PySem.EqNone.ne_none_int (fin_bl I q (by simp))
    | str j => obtain ⟨t', rfl⟩ := ry; exact PySem.EqNone.ne_none_str (fin_bl I q (by simp))
    | _ => exact absurd (show false = true from hs) Bool.false_ne_true
  | bl i =>
    cases rx
    cases y with
    | non => cases ry; exact PySem.EqNone.ne_bool_none (fin_bl I q (by simp))
    | bl j => cases ry; exact ne_bool (fin_bl I q (congrArg not dec_bl))
    | str j => obtain ⟨t', rfl⟩ := ry; exact PySem.EqMixed.ne_bool_str (fin_bl I q (by simp))
    | _ => exact absurd (show false = true from hs) Bool.false_ne_true
  | int i =>
    obtain ⟨t, rfl⟩ := rx
    cases y with
    | non => cases ry; exact PySem.EqNone.ne_int_none (fin_bl I q (by simp))
    | int j => obtain ⟨t', rfl⟩ := ry; exact ne_int (fin_bl I q (congrArg not dec_int))
    | str j => obtain ⟨t', rfl⟩ := ry; exact PySem.EqMixed.ne_int_str (fin_bl I q (by simp))
    | _ => exact absurd (show false = true from hs) Bool.false_ne_true
  | str i =>
    obtain ⟨t, rfl⟩ := rx
    cases y with
    | non => cases ry; exact PySem.EqNone.ne_str_none (fin_bl I q (by simp))
    | bl j => cases ry; exact PySem.EqMixed.ne_str_bool (fin_bl I q (by simp))
    | int j => obtain ⟨t', rfl⟩ := ry; exact PySem.EqMixed.ne_str_int (fin_bl I q (by simp))
    | str j => obtain ⟨t', rfl⟩ := ry; exact ne_str (fin_bl I q (congrArg not dec_str))
    | _ => exact absurd (show false = true from hs) Bool.false_ne_true
  | byt i =>
    obtain ⟨t, rfl⟩ := rx
    cases y with
    | byt j => obtain ⟨t', rfl⟩ := ry; exact PySem.W.ne_bytes (fin_bl I q (congrArg not dec_byt))
    | _ => exact absurd (show false = true from hs) Bool.false_ne_true
  | _ => cases y <;> exact absurd (show false = true from hs) Bool.false_ne_true
theorem op_lt : OpR X (compareOp .Lt) (rI0 fun i j => .bl (decide (i < j))) := opB0 fun _ _ _ _ _ _ _ q => lt_int q
theorem op_gt : OpR X (compareOp .Gt) (rI0 fun i j => .bl (decide (j < i))) := opB0 fun _ _ _ _ _ _ _ q => gt_int q
theorem op_ge : OpR X (compareOp .GtE) (rI0 fun i j => .bl (decide (j ≤ i))) := opB0 fun _ _ _ _ _ _ _ q => ge_int q
def isObj : HO → Bool
  | .lst _ => true
  | .ins _ _ _ => true
  | _ => false
theorem OpR.or {f : Value → Value → Sem Value} {r r' : R2} (h : OpR X f r) (h' : OpR X f r') : OpR X f (fun x y H Q => r x y H Q ∨ r' x y H Q) := by
  intro pins s σ H x y v u Q I rx ry q
  rcases q with q | q
  · exact h pins s σ H x y v u Q I rx ry q
  · exact h' pins s σ H x y v u Q I rx ry q
theorem nomark (b : Expr) {op : CmpOp} (h : op ≠ .In := by decide) (h2 : op ≠ .NotIn := by decide) : behindInMarks op b = false := by
  have e1 : (op == CmpOp.In) = false := by cases op <;> first | rfl | exact absurd rfl h
  have e2 : (op == CmpOp.NotIn) = false := by cases op <;> first | rfl | exact absurd rfl h2
  cases b <;> simp [behindInMarks, e1, e2]
theorem pe_cmpR {op : CmpOp} {r : R2} (ho : OpR X (compareOp op) r) (ha : PE X a ta) (hb : PE X b tb) (hm : behindInMarks op b = false) : PE X (.Compare a [op] [b] pos) (tOp r ta tb) := by
  intro pins s σ H Q I h
  exact wpAny_Compare1 (binT ha hb I h fun v u s2 x y H2 I2 rx ry q => ho pins s2 σ H2 x y v u Q I2 rx ry q) hm
def tTest (t : TE) : TT := fun σ H Q => t σ H fun x H' => ∃ k, x = .bl k ∧ Q k H'
theorem pt_cmpR {op : CmpOp} {r : R2} (ho : OpR X (compareOp op) r) (ha : PE X a ta) (hb : PE X b tb) (hm : behindInMarks op b = false) : PT X (.Compare a [op] [b] pos) (tTest (tOp r ta tb)) := by
  intro pins s σ H Q I h
  refine wpAny_isTrue_Compare1 (thn (ha pins s σ H _ I h) fun v s1 ⟨x, H1, I1, r1, q1⟩ => thn (hb pins s1 σ H1 _ I1 q1) fun u s2 ⟨y, H2, I2, r2, q2⟩ =>
    thn (ho pins s2 σ H2 x y v u _ I2 r1 r2 q2) fun c s3 ⟨z, H3, I3, r3, k, e, q3⟩ => ?_) hm
  subst e
  cases r3
  exact wpAny_truthy_bool ⟨H3, I3, q3⟩
def tChain (r r' : R2) (ta tb tc : TE) : TE := fun σ H Q => ta σ H fun x H1 => tb σ H1 fun y H2 => r x y H2 fun z H3 => ∃ k, z = .bl k ∧
  (if k = true then tc σ H3 fun w' H4 => r' y w' H4 Q else Q (.bl false) H3)
def TruV (K : PySem.W.Frag) (x : V) (H : Hp) (k : Bool) : Prop :=
  match x with
  | .non => k = false
  | .bl b => k = b
  | .int i => k = (i != 0)
  | .str y => y.length ≤ sizeLine ∧ k = ((y.length : Int) != 0)
  | .byt y => y.size ≤ sizeLine ∧ k = ((y.size : Int) != 0)
  | .ref p => (∃ xs, SqL K H p xs ∧ k = !xs.isEmpty) ∨ (∃ xs, SqT K H p xs ∧ k = !xs.isEmpty) ∨ ∃ kvs, H p = some (.dK kvs) ∧ k = !kvs.isEmpty
  | _ => False
theorem isEmpty_kv {κ : Type} {kvs : List (κ × V)} {vs : List (κ × Value)} (r : KV kvs vs) : (!vs.isEmpty) = !kvs.isEmpty := by
  cases r <;> rfl
theorem isEmpty_of {xs : List V} {its : List Value} (r : Vals xs its) : (!its.toArray.isEmpty) = !xs.isEmpty := by
  cases r <;> simp
theorem line63 : (sizeLine : Nat) < 2 ^ 63 := by rw [sizeLine_eq]; decide
theorem tru_ok : TruR X (fun x H Q => ∃ k, TruV X.K x H k ∧ Q k H) := by
  intro pins s σ H x v Q I rx h
  obtain ⟨k, e, q⟩ := h
  have hl := line63
  have hs : sizeLine = 16777216 := sizeLine_eq
  cases x with
  | non =>
    cases rx
    have e' : k = false := e
    subst e'
    exact truthy_none ⟨H, I, q⟩
  | bl b =>
    cases rx
    have e' : k = b := e
    subst e'
    exact wpAny_truthy_bool ⟨H, I, q⟩
  | int i =>
    obtain ⟨t, rfl⟩ := rx
    have e' : k = (i != 0) := e
    subst e'
    exact PySem.P.truthy_int ⟨H, I, q⟩
  | str y =>
    obtain ⟨t, rfl⟩ := rx
    obtain ⟨hy, e'⟩ : y.length ≤ sizeLine ∧ k = ((y.length : Int) != 0) := e
    subst e'
    exact PySem.P.truthy_str (by omega) ⟨H, I.tok _, q⟩
  | byt y =>
    obtain ⟨t, rfl⟩ := rx
    obtain ⟨hy, e'⟩ : y.size ≤ sizeLine ∧ k = ((y.size : Int) != 0) := e
    subst e'
    exact PySem.W.truthy_bytes (by omega) ⟨H, I.tok _, q⟩
  | ref p =>
    cases rx
    have e' : (∃ xs, SqL X.K H p xs ∧ k = !xs.isEmpty) ∨ (∃ xs, SqT X.K H p xs ∧ k = !xs.isEmpty) ∨ ∃ kvs, H p = some (.dK kvs) ∧ k = !kvs.isEmpty := e
    rcases e' with ⟨xs, hx, e'⟩ | ⟨xs, hx, e'⟩ | ⟨kvs, hx, e'⟩
    · subst e'
      obtain ⟨its, r, pl, hz⟩ := I.list hx
      have hlen := r.length
      exact wpAny_truthy_list pl.isList (by simp only [List.size_toArray]; omega) ⟨H, I.tok _, by rw [isEmpty_of r]; exact q⟩
    · subst e'
      obtain ⟨its, r, pl, hz⟩ := I.tuple hx
      have hlen := r.length
      exact truthy_tuple pl (by simp only [List.size_toArray]; omega) ⟨H, I.tok _, by rw [isEmpty_of r]; exact q⟩
    · subst e'
      obtain ⟨hz, hS, vs, r, m⟩ : kvs.length ≤ sizeLine ∧ (p == sysModules) = false ∧ ∃ vs, KV kvs vs ∧ s.heap.DictOf (mixKind X.prog X.w) p vs := I.hok p _ hx
      have hlen : kvs.length = vs.length := Paired.length r
      exact wpAny_truthy_dict hS m (by omega) ⟨H, I.tok _, by rw [isEmpty_kv r]; exact q⟩
  | _ => exact (show False from e).elim
theorem pt_truth (ha : PE X a ta) (he : ∀ whole, isTrue a X.env whole = (do let v ← whole; standAt a.pos; holding [v] (truthy v))) :
    PT X a (fun σ H Q => ta σ H fun x H' => ∃ k, TruV X.K x H' k ∧ Q k H') := by
  intro pins s σ H Q I h
  exact isTrue_plain (thn (ha pins s σ H _ I h) fun v s1 ⟨x, H1, I1, r1, q1⟩ => tru_ok pins s1 σ H1 x v Q I1 r1 q1) (he _)
theorem op_add_str : OpR X (binaryOp .Add) (fun x y H Q => ∃ i j, x = .str i ∧ y = .str j ∧ i.length + j.length ≤ sizeLine ∧ Q (.str (i ++ j)) H) := by
  intro pins s σ H x y v u Q I rx ry h
  obtain ⟨i, j, rfl, rfl, hz, q⟩ := h
  obtain ⟨t, rfl⟩ := rx
  obtain ⟨t', rfl⟩ := ry
  exact add_str (fun t' tk => ⟨.str (i ++ j), H, I.tok _, ⟨_, rfl⟩, q⟩) hz
def PlainIxT (b : Expr) : Prop := ∀ o i, subscripted b false o i = operate [o, i] (getItem o i)
theorem vals1 {x : V} {us : List Value} (r : Vals [x] us) : ∃ u, us = [u] ∧ RelV x u := by
  cases r with
  | cons r1 r2 => cases r2; exact ⟨_, rfl, r1⟩
theorem vals2 {x y : V} {us : List Value} (r : Vals [x, y] us) : ∃ u w', us = [u, w'] ∧ RelV x u ∧ RelV y w' := by
  cases r with
  | cons r1 r2 =>
    cases r2 with
    | cons r3 r4 => cases r4; exact ⟨_, _, rfl, r1, r3⟩
theorem call_abs : CallR X (.builtin "abs") (fun xs H Q => ∃ i, xs = [.int i] ∧ Q (.int (if i < 0 then -i else i)) H) := by
  intro pins s σ H xs us Q I r h
  obtain ⟨i, rfl, q⟩ := h
  obtain ⟨u, rfl, t, rfl⟩ := vals1 r
  exact call_abs_int fun u tk => ⟨.int (if i < 0 then -i else i), H, I.tok _, ⟨_, rfl⟩, q⟩
theorem call_int1 : CallR X (.type "int") (fun xs H Q => (∃ i, xs = [.int i] ∧ Q (.int i) H) ∨ ∃ k, xs = [.bl k] ∧ Q (.int (if k then 1 else 0)) H) := by
  intro pins s σ H xs us Q I r h
  rcases h with ⟨i, rfl, q⟩ | ⟨k, rfl, q⟩
  · obtain ⟨u, rfl, t, rfl⟩ := vals1 r
    exact call_int_int ⟨.int i, H, I, ⟨_, rfl⟩, q⟩
  · obtain ⟨u, rfl, r1⟩ := vals1 r
    cases r1
    exact call_int_bool ⟨.int (if k then 1 else 0), H, I.tok _, ⟨_, rfl⟩, q⟩
def LenV (K : PySem.W.Frag) (x : V) (H : Hp) (n : Nat) : Prop :=
  match x with
  | .str y => y.length ≤ sizeLine ∧ n = y.length
  | .byt y => y.size ≤ sizeLine ∧ n = y.size
  | .ref p => (∃ xs, SqL K H p xs ∧ n = xs.length) ∨ ∃ xs, SqT K H p xs ∧ n = xs.length
  | _ => False
end
end L2
namespace L2
open PySem PySem.Spec PyProof.Rows
structure ObjM (h : Heap) (x dx C : Addr) (mA : Str → Option Value) : Prop where
  obj : h.get? x = some (PySem.W.instObj C dx)
  ns : h.Ns1 dx mA
  ne : dx ≠ x
theorem lookIn_ns {h : Heap} {dx : Addr} {mA : Str → Option Value} (n : h.Ns1 dx mA) : ∃ od, h.get? dx = some od ∧ ∀ name, PySem.W.lookIn name od = some (mA name) := by
  obtain ⟨o, es, ep, ho, hd, hk, _, hm⟩ := n
  refine ⟨o, ho, fun name => ?_⟩
  have e := hm name
  unfold nsFind findBy at e
  rw [← Array.find?_toList] at e
  unfold PySem.W.lookIn
  rw [hd]
  dsimp only
  split
  · rename_i y q
    rw [q] at e
    exact congrArg some e
  · rename_i q
    rw [q] at e
    have a : es.toList.any (·.refKey) = false := by
      rw [List.any_eq_false]
      intro y hy
      obtain ⟨z, t, hkey⟩ := hk y (Array.mem_toList_iff.mp hy)
      simp [DictEntry.refKey, hkey]
    have a' : ¬ es.toList.any (·.refKey) = true := by rw [a]; exact Bool.false_ne_true
    rw [if_neg a']
    exact congrArg some e
section
variable {prog : Program} {w : World} {A : Around} {E : Value → Shared → Prop} {s : Shared} {K : PySem.W.Frag} {x dx C f : Addr} {mA : Str → Option Value} {name : Str} {v : Value}
end
def putF (f : Str) (v : V) : List (Str × V) → List (Str × V)
  | [] => [(f, v)]
  | (g, x) :: r => if g = f then (g, v) :: r else (g, x) :: putF f v r
theorem RelO.some_of {v : V} {o : Option Value} (r : RelO (some v) o) : ∃ u, o = some u ∧ RelV v u := by
  cases o with
  | none => exact (show False from r).elim
  | some u => exact ⟨u, rfl, r⟩
section
variable {P : Program} {w : World} {H H' : Hp} {h h' : Heap} {a C dx : Addr} {fs fs' : List (Str × V)}
end
structure Cls (K : PySem.W.Frag) (C : Addr) : Prop where
  pg : PySem.W.plainGet K C Str.empty = true
  hd : PySem.W.hasDictIn K C = true
  po : PySem.W.plainOver K C = true
  sa : PySem.W.findIn K (.ref C) "__setattr__" = some (some (.builtin "object.__setattr__"))
theorem Cls.get {K : PySem.W.Frag} {C : Addr} (c : Cls K C) (f : Str) : PySem.W.plainGet K C f = true := c.pg
def NoAttr (K : PySem.W.Frag) (C : Addr) (f : Str) : Prop := PySem.W.findIn K (.ref C) f = some none
structure Con (K : PySem.W.Frag) (C : Addr) (f : Str) (v : V) (u : Value) : Prop where
  at_ : PySem.W.findIn K (.ref C) f = some (some u)
  rel : RelV v u
  get : PySem.W.specialIn K u "__get__" = some none
  cp : PySem.W.copiedNames.contains f = false
structure Meth (K : PySem.W.Frag) (C : Addr) (m : Str) (f : Addr) : Prop where
  at_ : PySem.W.findIn K (.ref C) m = some (some (.ref f))
  fn : PySem.W.isFn K (.ref f) = true
  kp : PySem.W.keepIn K (.ref f) = true
section
variable {X : Cx} {pins : List (Addr × Obj)} {σ : St} {H : Hp} {s : Shared} {a C dx : Addr} {fs : List (Str × V)} {f : Str} {v : V} {A : Around} {E : Value → Shared → Prop}
end
def tFld (K : PySem.W.Frag) (ta : TE) (f : Str) : TE := fun σ H Q => ta σ H fun x H1 => ∃ a C dx fs v, x = .ref a ∧ H1 a = some (.ins C dx fs) ∧ Cls K C ∧ NoAttr K C f ∧ fs.lookup f = some v ∧ Q v H1
def tCon (K : PySem.W.Frag) (ta : TE) (f : Str) : TE := fun σ H Q => ta σ H fun x H1 => ∃ a C dx fs v u, x = .ref a ∧ H1 a = some (.ins C dx fs) ∧ Cls K C ∧ Con K C f v u ∧ fs.lookup f = none ∧ Q v H1
def sFld (K : PySem.W.Frag) (ta tv : TE) (f : Str) : TS := fun D σ H => tv σ H fun y H1 => ta σ H1 fun x H2 => ∃ a C dx fs, x = .ref a ∧ H2 a = some (.ins C dx fs) ∧ Cls K C ∧ NoAttr K C f ∧ fs.length < 1000 ∧
  D.nx σ (upd H2 a (.ins C dx (putF f y fs)))
def InOp (X : Cx) (op : Operator) (rd : V → V → Hp → VK → Prop) : Prop :=
  ∀ (pins : List (Addr × Obj)) (s : Shared) (σ : St) (H : Hp) (x y : V) (u v : Value) (Q : VK), Inv X pins σ H s → RelV x u → RelV y v → rd x y H Q → wpAny (model X.prog X.w) X.A (inplaceOp op u v) (EP X pins σ Q) X.xe s
def sFldAug (K : PySem.W.Frag) (ta tv : TE) (rd : V → V → Hp → VK → Prop) (f : Str) : TS := fun D σ H => ta σ H fun x H1 => ∃ a C dx fs v, x = .ref a ∧ H1 a = some (.ins C dx fs) ∧ Cls K C ∧ NoAttr K C f ∧ fs.lookup f = some v ∧
  tv σ H1 fun y H2 => rd v y H2 fun z H3 => ∃ dx' fs', H3 a = some (.ins C dx' fs') ∧ fs'.length < 1000 ∧ D.nx σ (upd H3 a (.ins C dx' (putF f z fs')))
section
variable {X : Cx} {o e value : Expr} {f : Str} {pos pos' tpos : Pos} {ta tv : TE}
def rAdd : V → V → Hp → VK → Prop := fun x y H Q => ∃ i j, x = .int i ∧ y = .int j ∧ Q (.int (i + j)) H
def rSub : V → V → Hp → VK → Prop := fun x y H Q => ∃ i j, x = .int i ∧ y = .int j ∧ Q (.int (i - j)) H
end
section
variable {X : Cx} {pins : List (Addr × Obj)} {σ : St} {H : Hp} {s : Shared} {A : Around} {E : Value → Shared → Prop} {Q : Value → Shared → Prop} {c : Value} {b : Bool}
inductive TyOf (K : PySem.W.Frag) (H : Hp) : V → Value → Prop where
  | non : TyOf K H .non (.type "NoneType")
  | bl (x : Bool) : TyOf K H (.bl x) (.type "bool")
  | int (i : Int) : TyOf K H (.int i) (.type "int")
  | str (x : Str) : TyOf K H (.str x) (.type "str")
  | flt (x : UInt64) : TyOf K H (.flt x) (.type "float")
  | lst {a : Addr} {xs : List V} (e : H a = some (.lst xs)) : TyOf K H (.ref a) (.type "list")
  | frz {a : Addr} {o : Obj} {xs : List V} (e : H a = some (.frz o (.lst xs))) : TyOf K H (.ref a) (.type "list")
  | tup {a : Addr} {xs : List V} (e : H a = some (.tup xs)) : TyOf K H (.ref a) (.type "tuple")
  | dK {a : Addr} {kvs : List (Key × V)} (e : H a = some (.dK kvs)) : TyOf K H (.ref a) (.type "dict")
  | dT {a : Addr} {kvs : List (List Key × V)} (e : H a = some (.dT kvs)) : TyOf K H (.ref a) (.type "dict")
  | ins {a C dx : Addr} {fs : List (Str × V)} (e : H a = some (.ins C dx fs)) (cl : Cls K C) (ha : PySem.W.findIn K (.ref C) "__class__" = some (some (.builtin "object.__class__")))
      (hn : PySem.W.specialIn K (.builtin "object.__class__") "__get__" = some (some (.builtin "getset_descriptor.__get__"))) (htk : PySem.W.takesIn K (.builtin "object.__class__") = some true)
      (hm : PySem.W.mroIn K C (.type "object") = some true) : TyOf K H (.ref a) (.ref C)
end
end L2
namespace L2
open PySem PySem.Spec PyProof.Rows
structure Room (k : Nat) (A : Around) : Prop where
  hd : A.handled = none
  dp : A.depth + 3 * k + 105 < recursionLimit
  un : A.units + 16 * k + 200 < cLine
  gd : A.guards = some []
theorem Room.mono {j k : Nat} {A : Around} (r : Room k A) (h : j ≤ k) : Room j A := ⟨r.hd, by have := r.dp; omega, by have := r.un; omega, r.gd⟩
theorem Room.deeper {k : Nat} {A : Around} (r : Room (k + 1) A) (env : Env) : Room k (A.deeper env) :=
  ⟨r.hd, by have := r.dp; show A.depth + 1 + 3 * k + 105 < _; omega, by have := r.un; show A.units + 3 + 16 * k + 200 < _; omega, r.gd⟩
theorem Room.in1 {k : Nat} {A : Around} (r : Room (k + 1) A) : Room k A.in1 :=
  ⟨r.hd, by have := r.dp; show A.depth + 3 * k + 105 < _; omega, by have := r.un; show A.units + 1 + 16 * k + 200 < _; omega, r.gd⟩
theorem Room.depth {k : Nat} {A : Around} (r : Room k A) : A.depth < recursionLimit := by have := r.dp; omega
theorem Room.units {k : Nat} {A : Around} (r : Room k A) : A.units + 64 < cLine := by have := r.un; omega
def tNil : TA := fun _ H Q => Q [] H
def tCons (ta : TE) (tr : TA) : TA := fun σ H Q => ta σ H fun x H1 => tr σ H1 fun xs H2 => Q (x :: xs) H2
section
variable {X : Cx} {e : Expr} {es : List Expr} {te : TE} {t : TA} {pos : Pos}
theorem pa_nil : PA X [] tNil := fun _ _ _ _ H Q I h => Calls.spliced_nil ⟨[], H, I, .nil, h⟩
theorem pa_cons (ha : PE X e te) (hr : PA X es t) (hs : starEach (e :: es) X.env = (false, eval e X.env) :: starEach es X.env := by rfl) : PA X (e :: es) (tCons te t) := by
  intro pos pins s σ H Q I h
  rw [hs]
  show wpAny _ _ (spliced ((false, eval e X.env) :: backTo pos (starEach es X.env))) _ _ s
  refine Calls.spliced_cons (thn (ha pins s σ H _ I h) fun u s1 ⟨x, H1, I1, r1, q1⟩ => ?_)
  exact thn (hr pos pins s1 σ H1 _ I1 q1) fun us s2 ⟨xs, H2, I2, r2, q2⟩ => ⟨x :: xs, H2, I2, .cons r1 r2, q2⟩
def tTup (t : TA) : TE := fun σ H Q => t σ H fun xs H1 => xs.length ≤ sizeLine ∧ ∀ p, H1 p = none → Q (.ref p) (upd H1 p (.tup xs))
def tLst (t : TA) : TE := fun σ H Q => t σ H fun xs H1 => xs.length ≤ sizeLine ∧ ∀ p, H1 p = none → Q (.ref p) (upd H1 p (.lst xs))
theorem pe_tup {x1} (h : PA X es t) : PE X (.Tuple es x1 pos) (tTup t) := by
  intro pins s σ H Q I hq
  refine wpAny_Tuple_spliced (thn (h pos pins s σ H _ I hq) fun us s1 ⟨xs, H1, I1, r, z, q⟩ => ⟨by rw [← r.length]; exact z, ?_⟩)
  have hf : H1 s1.heap.objs.size = none := I1.hok.fresh (Nat.le_refl _)
  refine ⟨.ref s1.heap.objs.size, upd H1 s1.heap.objs.size (.tup xs), I1.laid (t' := s1.toks) (fun b u e => Heap.get?_push_of_some _ e) (Nat.le_refl _) ?_, rfl, q _ hf⟩
  exact ⟨z, us, r, ⟨_, Heap.get?_push_size _ rfl, rfl, _, rfl⟩⟩
theorem pe_lst (h : PA X es t) : PE X (.List es pos) (tLst t) := by
  intro pins s σ H Q I hq
  refine wpAny_List_spliced (thn (h pos pins s σ H _ I hq) fun us s1 ⟨xs, H1, I1, r, z, q⟩ => ⟨by rw [← r.length]; exact z, ?_⟩)
  have hf : H1 s1.heap.objs.size = none := I1.hok.fresh (Nat.le_refl _)
  refine ⟨.ref s1.heap.objs.size, upd H1 s1.heap.objs.size (.lst xs), I1.laid (t' := s1.toks) (fun b u e => Heap.get?_push_of_some _ e) (Nat.le_refl _) ?_, rfl, q _ hf⟩
  exact ⟨z, us, 0, r, Heap.get?_push_size _ rfl⟩
end
abbrev Sp := List V → Hp → VK → XK → Prop
abbrev CXT := List Env → Hp → Shared → XK → Value → Shared → Prop
structure Env0 (P : Program) (w : World) (K : PySem.W.Frag) (mg : Str → Option Value) (base : Heap) (A : Around) (outer : List Env) (s : Shared) (H : Hp) : Prop where
  frames : A.frames = some outer
  mod : Mod K mg base
  bs : ∀ b o, base.get? b = some o → s.heap.get? b = some o ∧ H b = none
  bsz : base.objs.size ≤ s.heap.objs.size
  funs : s.heap.FunFrames base outer
  frf : ∀ b ∈ frs outer, H b = none
  hok : HOk P w H s.heap
  bare : AllBare s.gens
def CE (outer : List Env) (P : Program) (w : World) (H : Hp) (s : Shared) (Q : VK) (u : Value) (s' : Shared) : Prop :=
  ∃ v H', s'.os = s.os ∧ AllBare s'.gens ∧ Un (frs outer) [] H H' s.heap s'.heap ∧ HOk P w H' s'.heap ∧ RelV v u ∧ Q v H'
def CR (CX : CXT) (outer : List Env) (P : Program) (w : World) (H : Hp) (s : Shared) (Q : VK) (E : XK) (r : Result) (s' : Shared) : Prop :=
  match r with
  | .ok (.ret u) => CE outer P w H s Q u s'
  | .ok _ => False
  | .error e => CX outer H s E e s'
structure FnOk (P : Program) (w : World) (K : PySem.W.Frag) (mg : Str → Option Value) (base : Heap) (CX : CXT) (k : Nat) (f : Addr) (fd : FuncData) (ps : List Str) (sp : Sp) : Prop where
  len : ∀ vs H Q E, sp vs H Q E → vs.length = ps.length
  run : ∀ (A : Around) (outer : List Env) (s : Shared) (H : Hp) (args : Args) (us : List Value) (vs : List V) (Q : VK) (E : XK), Room k A → Env0 P w K mg base A outer s H → BindsTo s fd args (ps.zip us) → Vals vs us → sp vs H Q E →
    codeAny (model P w) A (.call (.ref f) args) (CR CX outer P w H s Q E) s
theorem FnOk.mono {P : Program} {w : World} {K : PySem.W.Frag} {mg : Str → Option Value} {base : Heap} {CX : CXT} {j k : Nat} {f : Addr} {fd : FuncData} {ps : List Str} {sp : Sp} (F : FnOk P w K mg base CX j f fd ps sp) (h : j ≤ k) :
    FnOk P w K mg base CX k f fd ps sp := ⟨F.len, fun A outer s H args us vs Q E hr => F.run A outer s H args us vs Q E (hr.mono h)⟩
theorem FnOk.imp {P : Program} {w : World} {K : PySem.W.Frag} {mg : Str → Option Value} {base : Heap} {CX : CXT} {k : Nat} {f : Addr} {fd : FuncData} {ps : List Str} {sp sp' : Sp} (F : FnOk P w K mg base CX k f fd ps sp)
    (h : ∀ vs H Q E, sp' vs H Q E → sp vs H Q E) : FnOk P w K mg base CX k f fd ps sp' :=
  ⟨fun vs H Q E q => F.len vs H Q E (h _ _ _ _ q), fun A outer s H args us vs Q E hr he hb hv hs => F.run A outer s H args us vs Q E hr he hb hv (h _ _ _ _ hs)⟩
theorem Env0.in1 {P : Program} {w : World} {K : PySem.W.Frag} {mg : Str → Option Value} {base : Heap} {A : Around} {outer : List Env} {s : Shared} {H : Hp} (e : Env0 P w K mg base A outer s H) :
    Env0 P w K mg base A.in1 outer s H := ⟨e.frames, e.mod, e.bs, e.bsz, e.funs, e.frf, e.hok, e.bare⟩
section
variable {X : Cx} {pins : List (Addr × Obj)} {σ : St} {H : Hp} {s s' : Shared}
theorem Inv.env0 (I : Inv X pins σ H s) : Env0 X.prog X.w X.K X.mg X.base X.A X.stack s H :=
  ⟨I.ok.frames, I.ok.mod, I.bs, Nat.le_trans I.ok.bsz I.sz, I.stack, I.stkFree, I.hok, I.bare⟩
theorem Inv.after {Q : VK} {u : Value} (I : Inv X pins σ H s) (h : CE X.stack X.prog X.w H s Q u s') : EP X pins σ Q u s' := by
  obtain ⟨v, H', os, bare, un, hok, r, q⟩ := h
  obtain ⟨hh, g, d, t, os'⟩ := s'
  obtain rfl : os' = s.os := os
  exact ⟨v, H', I.call (h' := hh) (g' := g) (d' := d) (t' := t) (ch := []) un hok bare (fun b z => absurd z (by simp)), r, q⟩
end
def tCall (sp : Sp) (dvs : List V) (E : XK) (t : TA) : TE := fun σ H Q => t σ H fun vs H1 => sp (vs ++ dvs) H1 Q E
def tMeth (C : Addr) (m : Str) (sp : Sp) (dvs : List V) (E : XK) (ta : TE) (t : TA) : TE := fun σ H Q => ta σ H fun x H1 => ∃ a dx fs, x = .ref a ∧ H1 a = some (.ins C dx fs) ∧ fs.lookup m = none ∧
  t σ H1 fun vs H2 => sp (x :: (vs ++ dvs)) H2 Q E
def tMake (C : Addr) (sp : Sp) (dvs : List V) (E : XK) (t : TA) : TE := fun σ H Q => t σ H fun vs H1 => ∀ x dx, H1 x = none → H1 dx = none → dx ≠ x →
  sp (.ref x :: (vs ++ dvs)) (upd (upd H1 dx (.own x)) x (.ins C dx [])) (fun v H2 => v = .non ∧ Q (.ref x) H2) E
def Binds (K : PySem.W.Frag) (fd : FuncData) (ps : List Str) (ds : List Value) : Prop :=
  ∀ (s : Shared) (us : List Value), K.In s.heap → (us ++ ds).length = ps.length → BindsTo s fd ⟨us, []⟩ (ps.zip (us ++ ds))
theorem Binds.all {K : PySem.W.Frag} {fd : FuncData} {ps : List Str} (h : ∀ us : List Value, us.length = ps.length → bindArgs fd ⟨us, []⟩ = pure (ps.zip us)) : Binds K fd ps [] := fun s us _ hl => by
  rw [List.append_nil] at hl ⊢
  exact .of_eq (h us hl)
def Passes (CX : CXT) (X : Cx) (E : XK) : Prop := ∀ (pins : List (Addr × Obj)) (σ : St) (H : Hp) (s : Shared) (e : Value) (s' : Shared), Inv X pins σ H s → CX X.stack H s E e s' → X.xe e s'
section
variable {X : Cx} {CX : CXT} {k : Nat} {f C : Addr} {fd : FuncData} {ps : List Str} {sp : Sp} {dvs : List V} {ds : List Value} {E : XK} {x m : Str} {p pos apos : Pos} {e o : Expr} {es : List Expr} {ta : TE} {t : TA}
theorem run_fn {pins : List (Addr × Obj)} {σ : St} {H : Hp} {s : Shared} {Q : VK} {us : List Value} {vs : List V} (F : FnOk X.prog X.w X.K X.mg X.base CX k f fd ps sp) (hr : Room k X.A) (hb : Binds X.K fd ps ds) (hd : Vals dvs ds) (hx : Passes CX X E)
    (I : Inv X pins σ H s) (r : Vals vs us) (h : sp (vs ++ dvs) H Q E) : wpAny (model X.prog X.w) X.A (call (.ref f) us) (EP X pins σ Q) X.xe s := by
  have r2 : Vals (vs ++ dvs) (us ++ ds) := r.append hd
  have hl : (us ++ ds).length = ps.length := by rw [← r2.length]; exact F.len _ _ _ _ h
  refine wpAny_call (codeAny_mono (F.run X.A X.stack s H ⟨us, []⟩ (us ++ ds) (vs ++ dvs) Q E hr I.env0 (hb s us I.kIn hl) r2 h) fun r s' hq => ?_)
  cases r with
  | error e => exact hx pins σ H s e s' I hq
  | ok fl =>
    cases fl with
    | ret u => exact I.after hq
    | next => exact False.elim hq
    | brk => exact False.elim hq
    | cont => exact False.elim hq
theorem pe_call (F : FnOk X.prog X.w X.K X.mg X.base CX k f fd ps sp) (hr : Room k X.A) (hg : Gl X x) (hm : X.mg x = some (.ref f)) (hk : PySem.W.keepIn X.K (.ref f) = true) (hb : Binds X.K fd ps ds) (hd : Vals dvs ds) (hx : Passes CX X E)
    (ha : PA X (e :: es) t) (hdb : (x == ("__debug__" : Str)) = false := by decide) (he : starEach (e :: es) X.env = (false, eval e X.env) :: starEach es X.env := by rfl) (hpl : (backTo pos (starEach es X.env)).any (·.1) = false := by rfl) :
    PE X (.Call (.Name x p) (e :: es) [] pos) (tCall sp dvs E t) := by
  intro pins s σ H Q I h
  refine wpAny_Call_Name_kw (ld_glob I hg hm ?_ hdb)
  refine PySem.W.callWith_K (h₀ := X.base) I.ok.mod.kin hk (thn (ha pos pins s σ H _ I h) fun us s1 ⟨vs, H1, I1, r, q⟩ => ⟨I1.kIn, ?_⟩) he hpl
  exact run_fn F hr hb hd hx I1 r q
structure Mk (K : PySem.W.Frag) (C f : Addr) : Prop where
  makes : PySem.W.makesIn K C = true
  init : PySem.W.findIn K (.ref C) "__init__" = some (some (.ref f))
  fn : PySem.W.isFn K (.ref f) = true
  kp : PySem.W.keepIn K (.ref C) = true
end
def PK (X : Cx) (kws : List Keyword) (t : TA) : Prop :=
  ∀ (pos : Pos) (pins : List (Addr × Obj)) (s : Shared) (σ : St) (H : Hp) (Q : List V → Hp → Prop), Inv X pins σ H s → t σ H Q → wpAny (model X.prog X.w) X.A (evalAll ((backToKw pos (keywordEach kws X.env)).map (·.2))) (AP X pins σ Q) X.xe s
section
variable {X : Cx} {CX : CXT} {k : Nat} {f C : Addr} {fd : FuncData} {ps ks : List Str} {sp : Sp} {E : XK} {x m : Str} {p pos apos kpos : Pos} {e o : Expr} {es : List Expr} {kws : List Keyword} {te ta : TE} {t tk : TA} {nm : Option Str}
structure KBinds (K : PySem.W.Frag) (fd : FuncData) (ps ks : List Str) (g : List Value → List Value → List Value) (gV : List V → List V → List V) : Prop where
  to : ∀ (s : Shared) (us ws : List Value), K.In s.heap → (g us ws).length = ps.length → BindsTo s fd ⟨us, ks.zip ws⟩ (ps.zip (g us ws))
  rel : ∀ {vs : List V} {us : List Value} {zs : List V} {ws : List Value}, Vals vs us → Vals zs ws → Vals (gV vs zs) (g us ws)
def tCallK (sp : Sp) (gV : List V → List V → List V) (E : XK) (t tk : TA) : TE := fun σ H Q => t σ H fun vs H1 => tk σ H1 fun zs H2 => sp (gV vs zs) H2 Q E
variable {g : List Value → List Value → List Value} {gV : List V → List V → List V}
end
structure FnScope (N P : List Str) (sc : Scope) : Prop where
  kind : sc.kind = .function
  co : sc.isCoroutine = false
  gen : sc.isGenerator = false
  nd : N.Nodup
  pre : N.take P.length = P
  par : ∀ x ∈ P, sc.names.lookup x = some .local ∨ sc.names.lookup x = some .cell
  nofree : ∀ y ∈ sc.names, y.2 ≠ .free
theorem bindL_out {kindOf : Str → Option NameKind} {x : Str} : ∀ {binds : List (Str × Value)} {m : Str → Option Value}, (∀ v, (x, v) ∉ binds) → bindL kindOf binds m x = m x
  | [], _, _ => rfl
  | (n, v) :: r, m, h => by
    unfold bindL
    rw [bindL_out fun w hw => h w (List.mem_cons_of_mem _ hw)]
    split
    · have : x ≠ n := by rintro rfl; exact h v List.mem_cons_self
      simp [this]
    · rfl
theorem bindC_out {kindOf : Str → Option NameKind} {x : Str} : ∀ {binds : List (Str × Value)} {m : Str → Option Value}, (∀ v, (x, v) ∉ binds) → bindC kindOf binds m x = m x
  | [], _, _ => rfl
  | (n, v) :: r, m, h => by
    unfold bindC
    rw [bindC_out fun w hw => h w (List.mem_cons_of_mem _ hw)]
    split
    · rfl
    · have : x ≠ n := by rintro rfl; exact h v List.mem_cons_self
      simp [this]
theorem bindL_get {kindOf : Str → Option NameKind} {x : Str} {v : Value} : ∀ {P : List Str} {vs : List Value} {i : Nat} {m : Str → Option Value}, P.Nodup → P[i]? = some x → vs[i]? = some v → kindOf x = some .local →
    bindL kindOf (P.zip vs) m x = some v
  | [], _, _, _, _, h, _, _ => by simp at h
  | _ :: _, [], _, _, _, _, h, _ => by simp at h
  | p :: P, w :: vs, 0, m, nd, h1, h2, hk => by
    simp at h1 h2; subst h1; subst h2
    show bindL kindOf ((p, w) :: P.zip vs) m p = _
    unfold bindL
    rw [bindL_out fun v hv => (List.nodup_cons.mp nd).1 (List.of_mem_zip hv).1, if_pos hk]
    simp
  | p :: P, w :: vs, i + 1, m, nd, h1, h2, hk => by
    show bindL kindOf ((p, w) :: P.zip vs) m x = _
    unfold bindL
    exact bindL_get (i := i) (List.nodup_cons.mp nd).2 (by simpa using h1) (by simpa using h2) hk
theorem bindC_get {kindOf : Str → Option NameKind} {x : Str} {v : Value} : ∀ {P : List Str} {vs : List Value} {i : Nat} {m : Str → Option Value}, P.Nodup → P[i]? = some x → vs[i]? = some v → kindOf x ≠ some .local →
    bindC kindOf (P.zip vs) m x = some v
  | [], _, _, _, _, h, _, _ => by simp at h
  | _ :: _, [], _, _, _, _, h, _ => by simp at h
  | p :: P, w :: vs, 0, m, nd, h1, h2, hk => by
    simp at h1 h2; subst h1; subst h2
    show bindC kindOf ((p, w) :: P.zip vs) m p = _
    unfold bindC
    rw [bindC_out fun v hv => (List.nodup_cons.mp nd).1 (List.of_mem_zip hv).1, if_neg hk]
    simp
  | p :: P, w :: vs, i + 1, m, nd, h1, h2, hk => by
    show bindC kindOf ((p, w) :: P.zip vs) m x = _
    unfold bindC
    exact bindC_get (i := i) (List.nodup_cons.mp nd).2 (by simpa using h1) (by simpa using h2) hk
def start (N : List Str) (vs : List V) : St := vs.map some ++ List.replicate (N.length - vs.length) none
def cxOf (CX : CXT) (P : Program) (w : World) (K : PySem.W.Frag) (mg : Str → Option Value) (base : Heap) (N : List Str) (qual : Str) (scope : Scope) (f : Addr) (cd : Value) (A : Around) (outer : List Env) (s : Shared) (H : Hp) (E : XK) : Cx where
  prog := P
  w := w
  K := K
  mg := mg
  base := base
  A := A.deeper (envOfC qual scope s.heap.objs.size f cd)
  N := N
  s_0 := s
  H_0 := H
  env := envOfC qual scope s.heap.objs.size f cd
  outer := outer
  stack := envOfC qual scope s.heap.objs.size f cd :: outer
  ex := []
  calm := true
  fn := fun _ => true
  pn := []
  xe := fun e s' => wpAny (model P w) (A.deeper (envOfC qual scope s.heap.objs.size f cd)) (leaving (envOfC qual scope s.heap.objs.size f cd) e) (fun _ s'' => CX outer H s E e s'') (fun e' s'' => CX outer H s E e' s'') s'
theorem cell_has {sc : Scope} {n : Nat} {x : Str} (h : sc.names.lookup x = some .cell) : ∃ c, (cellsFrom n sc.names []).lookup x = some c := by
  have q := PySem.W.cellsFrom_some sc.names n [] (.inl h)
  exact Option.isSome_iff_exists.mp q
theorem inv_start {CX : CXT} {P : Program} {w : World} {K : PySem.W.Frag} {mg : Str → Option Value} {base : Heap} {N ps : List Str} {qual : Str} {scope : Scope} {f : Addr} {cd : Value} {A : Around} {outer : List Env} {s s1 : Shared} {H : Hp} {E : XK} {us : List Value} {vs : List V}
    (S : FnScope N ps scope) (hd : A.handled = none) (e0 : Env0 P w K mg base A outer s H) (hl : vs.length = ps.length) (r : Vals vs us)
    (x : InCallC s s.heap.objs.size (bindL (envOfC qual scope s.heap.objs.size f cd).kindOf (ps.zip us) fun _ => none) (cellsFrom (s.heap.objs.size + 1) scope.names []) (bindC (envOfC qual scope s.heap.objs.size f cd).kindOf (ps.zip us) fun _ => none) s1) :
    Inv (cxOf CX P w K mg base N qual scope f cd A outer s H E) [] (start N vs) H s1 := by
  have hpl : ps.length ≤ N.length := by have := congrArg List.length S.pre; rw [List.length_take] at this; omega
  obtain ⟨h1, tk, rfl, hk⟩ := x.done
  have noA : ∀ b : Addr, b ∉ (cxOf CX P w K mg base N qual scope f cd A outer s H E).ex := fun b z => absurd (show b ∈ ([] : List Addr) from z) (by simp)
  refine ⟨⟨e0.mod, S.kind, rfl, rfl, Nat.le_refl _, fun y z c h1 h2 => ?_, fun y hy => ?_, fun y c _ h => ?_, fun _ => hd, Around.frames_deeper e0.frames, .inr ⟨rfl, rfl⟩, fun b z => absurd z (noA b), e0.bs, e0.bsz, fun b _ _ => noA b, fun b z => absurd z (noA b), e0.funs, e0.frf⟩,
    rfl, e0.bare, Un.kept hk, ⟨_, x.toInCall.ns, fun i y v h1 h2 h3 => ?_⟩, fun y c h => ⟨_, x.cell y c h⟩, e0.hok.fresh (Nat.le_refl _), fun y c h => ?_, fun p hp => absurd (show p ∈ ([] : List (Addr × Obj)) from hp) (by simp), e0.hok.kept hk, ?_⟩
  · exact name_of_addr x.apart (PySem.mem_of_lookup h1) (PySem.mem_of_lookup h2)
  · have hy : scope.names.lookup y = some .cell ∨ scope.names.lookup y = some .free := hy
    rcases hy with hy | hy
    · exact cell_has hy
    · exact absurd rfl (S.nofree _ (PySem.mem_of_lookup hy))
  · exact Nat.le_of_lt (x.above y c (PySem.mem_of_lookup h))
  · have hi : i < vs.length := by
      unfold start at h2
      by_cases hi : i < vs.length
      · exact hi
      · rw [List.getElem?_append_right (by simpa using hi)] at h2
        rw [List.getElem?_replicate] at h2
        split at h2 <;> cases h2
    have ha : vs[i]? = some v := by
      unfold start at h2
      rw [List.getElem?_append_left (by simpa using hi), List.getElem?_map] at h2
      cases e : vs[i]? with
      | none => rw [e] at h2; cases h2
      | some a => rw [e] at h2; cases h2; rfl
    obtain ⟨u, hu, rv⟩ := r.get ha
    have hp : ps[i]? = some y := by
      rw [← S.pre, List.getElem?_take_of_lt (by omega)]; exact h1
    have ndP : ps.Nodup := by rw [← S.pre]; exact S.nd.sublist (List.take_sublist _ _)
    refine ⟨u, rv, ?_⟩
    rcases S.par y (List.mem_of_getElem? hp) with k | k
    · exact .inl ⟨k, bindL_get ndP hp hu k⟩
    · obtain ⟨c, e⟩ := cell_has (n := s.heap.objs.size + 1) k
      refine .inr ⟨.inl k, c, e, ?_⟩
      have q := x.cell y c e
      rw [bindC_get ndP hp hu (by show scope.names.lookup y ≠ _; rw [k]; decide)] at q
      exact q
  · exact e0.hok.fresh (Nat.le_of_lt (x.above y c (PySem.mem_of_lookup h)))
  · unfold start
    show _ = N.length
    rw [List.length_append, List.length_map, List.length_replicate]
    omega
theorem fn_of {CX : CXT} {P : Program} {w : World} {K : PySem.W.Frag} {mg : Str → Option Value} {base : Heap} {k : Nat} {f : Addr} {name qual : Str} {params : Arguments} {body : List Stmt} {scope : Scope} {dV kV doc pm cdv ct oc : Value} {an od : Option Addr}
    {osl : Array (Option Value)} {N ps : List Str} {sp : Sp} (lk : K.lookup f = some ⟨oc, od, .func (PySem.W.fnOf name qual params body scope dV kV doc pm an cdv ct), osl⟩) (hcd : PySem.W.codeIn K cdv qual = true) (S : FnScope N ps scope)
    (len : ∀ vs H Q E, sp vs H Q E → vs.length = ps.length)
    (hbody : ∀ (A : Around) (outer : List Env) (s : Shared) (H : Hp) (vs : List V) (Q : VK) (E : XK), Room k (A.deeper (envOfC qual scope s.heap.objs.size f cdv)) → sp vs H Q E →
      ∃ t, PSs (cxOf CX P w K mg base N qual scope f cdv A outer s H E) body t ∧ t { nx := fun _ H' => Q .non H', rt := Q } (start N vs) H) :
    FnOk P w K mg base CX (k + 1) f (PySem.W.fnOf name qual params body scope dV kV doc pm an cdv ct) ps sp := by
  refine ⟨len, fun A outer s H args us vs Q E hr e0 hb r hsp => ?_⟩
  have hl := len _ _ _ _ hsp
  have KX : K.In s.heap := e0.mod.kin.keeps fun b o e => (e0.bs b o e).1
  have lim : s.heap.NoLimit := e0.mod.nolimit.keeps fun b o e => (e0.bs b o e).1
  have hkind : ∀ y ∈ ps.zip us, scope.names.lookup y.1 = some .local ∨ (scope.names.lookup y.1 = some .cell ∧ ((cellsFrom (s.heap.objs.size + 1) scope.names []).lookup y.1).isSome = true) := fun ⟨n, v⟩ hy => by
    rcases S.par n (List.of_mem_zip hy).1 with q | q
    · exact .inl q
    · exact .inr ⟨q, PySem.W.cellsFrom_some _ _ _ (.inl q)⟩
  refine codeAny_call_function hr.depth (KX _ _ lk) rfl S.co S.gen rfl (PySem.W.codeRec_of KX hcd) (hb _ _ _ _ ?_)
  refine wpAny_newFunctionEnv_cells S.kind hkind fun env he s1 x => ?_
  subst he
  refine ⟨lim.keeps x.toInCall.keep, codeAny_func ?_⟩
  obtain ⟨t, ht, hq⟩ := hbody A outer s H vs Q E (hr.deeper _) hsp
  have I : Inv (cxOf CX P w K mg base N qual scope f cdv A outer s H E) [] (start N vs) H s1 := inv_start S hr.hd e0 hl r x
  refine wpAny_mono (ht [] s1 (start N vs) H _ I hq) (fun fl s' hs => ?_) fun e s' hs => hs
  have fin : ∀ {σ' : St} {H' : Hp} {v : V} {u : Value}, Inv (cxOf CX P w K mg base N qual scope f cdv A outer s H E) [] σ' H' s' → RelV v u → Q v H' → CE outer P w H s Q u s' :=
    fun {σ' H' v u} J rv q => ⟨v, H', J.os, J.bare, J.base, J.hok, rv, q⟩
  cases fl with
  | ret u =>
    obtain ⟨v, σ', H', J, rv, q⟩ := hs
    exact fin J rv q
  | next =>
    obtain ⟨σ', H', J, q⟩ := hs
    exact fin (v := V.non) (u := Value.none) J rfl q
  | brk =>
    obtain ⟨_, _, _, q⟩ := hs
    exact False.elim q
  | cont =>
    obtain ⟨_, _, _, q⟩ := hs
    exact False.elim q
end L2
namespace L2
open PySem PySem.Spec PyProof.Rows
section
variable {X : Cx} {x : Str} {p pos : Pos} {e : Expr} {es : List Expr} {t : TA} {id T : String} {r : List V → Hp → VK → Prop}
def tCB (r : List V → Hp → VK → Prop) (t : TA) : TE := fun σ H Q => t σ H fun vs H1 => r vs H1 Q
theorem pe_callB (hc : CallR X (.builtin id) r) (hg : Gl X x) (hm : X.mg x = none) (hv : bootBuiltins x = some (.builtin id)) (ha : PA X (e :: es) t) (hn : x ≠ "__name__" := by decide) (hdb : (x == ("__debug__" : Str)) = false := by decide)
    (he : starEach (e :: es) X.env = (false, eval e X.env) :: starEach es X.env := by rfl) (hpl : (backTo pos (starEach es X.env)).any (·.1) = false := by rfl) : PE X (.Call (.Name x p) (e :: es) [] pos) (tCB r t) := by
  intro pins s σ H Q I h
  refine wpAny_Call_Name_kw (ld_blt I hg hm hv ?_ hn hdb)
  exact PyProof.Rows.callWith_builtin1 (thn (ha pos pins s σ H _ I h) fun us s1 ⟨vs, H1, I1, r1, q1⟩ => hc pins s1 σ H1 vs us Q I1 r1 q1) he hpl
theorem pe_callTy (hc : CallR X (.type T) r) (hg : Gl X x) (hm : X.mg x = none) (hv : bootBuiltins x = some (.type T)) (ha : PA X (e :: es) t) (hn : x ≠ "__name__" := by decide) (hdb : (x == ("__debug__" : Str)) = false := by decide)
    (he : starEach (e :: es) X.env = (false, eval e X.env) :: starEach es X.env := by rfl) (hpl : (backTo pos (starEach es X.env)).any (·.1) = false := by rfl) : PE X (.Call (.Name x p) (e :: es) [] pos) (tCB r t) := by
  intro pins s σ H Q I h
  refine wpAny_Call_Name_kw (ld_blt I hg hm hv ?_ hn hdb)
  exact PyProof.Rows.callWith_type1 (thn (ha pos pins s σ H _ I h) fun us s1 ⟨vs, H1, I1, r1, q1⟩ => hc pins s1 σ H1 vs us Q I1 r1 q1) he hpl
end
end L2
namespace HT
open PySem PyProof.Rows
def lexLt : List Int → List Int → Bool
  | [], [] => false
  | [], _ :: _ => true
  | _ :: _, [] => false
  | x :: xs, y :: ys => if x = y then lexLt xs ys else decide (x < y)
section
open PySem.SeqAt
open PySem.AutoSeq1 (wpAny_loadPart')
open PySem.MeetsSeq PySem.MeetsSeq2 PySem.MeetsSeq3
end
section
variable {prog : Program} {w : World} {A : Around} {E : Value → Shared → Prop} {s : Shared}
theorem cat_tup {t b : Addr} {vs ws : List Value} {Q : Value → Shared → Prop} (ht : IsTup s.heap t vs.toArray) (hb : IsTup s.heap b ws.toArray) (hv : vs ≠ [])
    (h1 : ws = [] → Q (.ref t) s) (h2 : ws ≠ [] → Q (.ref s.heap.objs.size) { s with heap := s.heap.push { cls := .type "tuple", data := .seq (vs ++ ws).toArray } })
    (hsz : vs.length + ws.length ≤ sizeLine) : wpAny (model prog w) A (binaryOp .Add (.ref t) (.ref b)) Q E s := by
  obtain ⟨⟨cls, dd, data, sl⟩, ho, hc, n, hd⟩ := id ht
  obtain ⟨⟨cls2, dd2, data2, sl2⟩, ho2, hc2, n2, hd2⟩ := id hb
  simp only at hc hd hc2 hd2
  subst hc hd hc2 hd2
  have e : vs.toArray ++ ws.toArray = (vs ++ ws).toArray := by simp
  by_cases hw : ws = []
  · exact concat_meets ⟨_, ho, rfl⟩ ⟨_, ho2, rfl⟩ noFill_tuple_add seq_tuple_add PySem.F.slot_tuple_add PySem.F.entry_tuple_add (PySem.F.args_tuple_add_2 _ _)
      (tuple_addW1 t b vs.toArray ws.toArray n n2 dd dd2 sl sl2 (by simpa using hv) (by simp [hw])) ⟨ho, ho2, h1 hw⟩
  · refine concat_meets ⟨_, ho, rfl⟩ ⟨_, ho2, rfl⟩ noFill_tuple_add seq_tuple_add PySem.F.slot_tuple_add PySem.F.entry_tuple_add (PySem.F.args_tuple_add_2 _ _)
      (tuple_addW2 t b vs.toArray ws.toArray n n2 dd dd2 sl sl2 (by simpa using hv) (by simpa using hw) (by rw [List.size_toArray, List.size_toArray]; exact hsz)) ⟨ho, ho2, ?_⟩
    rw [e]
    exact h2 hw
def sIx (n d : Nat) : Option Int → Nat
  | none => d
  | some v => if v < 0 then (v + (n : Int)).toNat else min v.toNat n
end
end HT
namespace L2
open PySem PySem.Spec PyProof.Rows
abbrev TO := St → Hp → (Option Int → Hp → Prop) → Prop
def PO (X : Cx) (e : Option Expr) (t : TO) : Prop :=
  ∀ (pins : List (Addr × Obj)) (s : Shared) (σ : St) (H : Hp) (Q : Option Int → Hp → Prop), Inv X pins σ H s → t σ H Q →
    wpAny (model X.prog X.w) X.A (evalPart e X.env) (fun u s' => ∃ o H', Inv X pins σ H' s' ∧ IsPart u o ∧ Q o H') X.xe s
def tNoPart : TO := fun _ H Q => Q none H
def tPart (t : TE) : TO := fun σ H Q => t σ H fun x H1 => ∃ i, x = .int i ∧ Q (some i) H1
section
variable {X : Cx} {e : Expr} {te : TE} {lo hi : Option Expr} {tl th : TO} {pos p2 : Pos}
theorem po_none : PO X none tNoPart := by
  intro pins s σ H Q I h
  rw [evalPart_none]
  exact wpAny_pure ⟨none, H, I, .none, h⟩
theorem po_some (h : PE X e te) : PO X (some e) (tPart te) := by
  intro pins s σ H Q I hw
  rw [evalPart_some]
  refine thn (h pins s σ H _ I hw) fun u s1 ⟨x, H1, I1, r1, q1⟩ => ?_
  obtain ⟨i, rfl, q⟩ := q1
  obtain ⟨t, rfl⟩ := r1
  exact ⟨some i, H1, I1, .int i t, q⟩
def SlR (X : Cx) (r : V → Option Int → Option Int → Hp → VK → Prop) : Prop :=
  ∀ (pins : List (Addr × Obj)) (s : Shared) (σ : St) (H : Hp) (x : V) (v vl vu : Value) (lo hi : Option Int) (sl : Addr) (Q : VK), Inv X pins σ H s → RelV x v → s.heap.IsSliceOf sl vl vu .none → IsPart vl lo → IsPart vu hi → r x lo hi H Q →
    ∃ T id, typeLookup (.type T) "__getitem__" = pure (some (.builtin id)) ∧ s.TypeIs v T ∧ wpAny (model X.prog X.w) X.A (getItem v (.ref sl)) (EP X pins σ Q) X.xe s
theorem SlR.or {r r' : V → Option Int → Option Int → Hp → VK → Prop} (h : SlR X r) (h' : SlR X r') : SlR X (fun x lo hi H Q => r x lo hi H Q ∨ r' x lo hi H Q) := by
  intro pins s σ H x v vl vu lo hi sl Q I rx hs pl pu q
  rcases q with q | q
  · exact h pins s σ H x v vl vu lo hi sl Q I rx hs pl pu q
  · exact h' pins s σ H x v vl vu lo hi sl Q I rx hs pl pu q
def tSl (r : V → Option Int → Option Int → Hp → VK → Prop) (te : TE) (tl th : TO) : TE := fun σ H Q => te σ H fun x H1 => tl σ H1 fun l H2 => th σ H2 fun u H3 => r x l u H3 Q
theorem pe_slice {r : V → Option Int → Option Int → Hp → VK → Prop} (hr : SlR X r) (he : PE X e te) (hl : PO X lo tl) (hu : PO X hi th) : PE X (.Subscript e (.Slice lo hi none p2) pos) (tSl r te tl th) := by
  intro pins s σ H Q I h
  refine Subscript_ (thn (he pins s σ H _ I h) fun v s1 ⟨x, H1, I1, r1, q1⟩ => ?_)
  refine wpAny_Slice (thn (hl pins s1 σ H1 _ I1 q1) fun vl s2 ⟨l, H2, I2, pl, q2⟩ => thn (hu pins s2 σ H2 _ I2 q2) fun vu s3 ⟨u, H3, I3, pu, q3⟩ => ?_)
  rw [evalPart_none]
  refine wpAny_pure ?_
  have I4 : Inv X pins σ H3 { s3 with heap := s3.heap.push { cls := .type "slice", data := .fields #[vl, vu, .none] } } := I3.kept (t' := s3.toks) fun b ob q => Heap.get?_push_of_some _ q
  obtain ⟨T, id, hT, ht, hg⟩ := hr pins { s3 with heap := s3.heap.push { cls := .type "slice", data := .fields #[vl, vu, .none] } } σ H3 x v vl vu l u s3.heap.objs.size Q I4 r1 (Heap.IsSliceOf.new ..) pl pu q3
  show wpAny (model X.prog X.w) X.A (subscriptTail e (.Slice lo hi none p2) v (.ref s3.heap.objs.size)) (EP X pins σ Q) X.xe { s3 with heap := s3.heap.push { cls := .type "slice", data := .fields #[vl, vu, .none] } }
  exact tail_any (ops := [.ref s3.heap.objs.size, v]) ht hT hg (by with_unfolding_all rfl)
def cutV (xs : List V) (lo hi : Option Int) : List V := (xs.drop (HT.sIx xs.length 0 lo)).take (HT.sIx xs.length xs.length hi - HT.sIx xs.length 0 lo)
theorem cutV_length (xs : List V) (lo hi : Option Int) : (cutV xs lo hi).length ≤ xs.length := by
  unfold cutV
  rw [List.length_take, List.length_drop]
  omega
def rSlT (K : PySem.W.Frag) : V → Option Int → Option Int → Hp → VK → Prop := fun x lo hi H Q => ∃ a xs, x = .ref a ∧ SqT K H a xs ∧
  ¬ (HT.sIx xs.length 0 lo = 0 ∧ HT.sIx xs.length xs.length hi = xs.length) ∧ ∀ p, H p = none → Q (.ref p) (upd H p (.tup (cutV xs lo hi)))
def rLtT (K : PySem.W.Frag) : R2 := fun x y H Q => ∃ a b ns ms, x = .ref a ∧ y = .ref b ∧ SqT K H a (ns.map V.int) ∧ SqT K H b (ms.map V.int) ∧ Q (.bl (HT.lexLt ns ms)) H
def rCatT (K : PySem.W.Frag) : R2 := fun x y H Q => ∃ a b xs ys, x = .ref a ∧ y = .ref b ∧ SqT K H a xs ∧ SqT K H b ys ∧ xs ≠ [] ∧ xs.length + ys.length ≤ sizeLine ∧
  (ys = [] → Q (.ref a) H) ∧ (ys ≠ [] → ∀ p, H p = none → Q (.ref p) (upd H p (.tup (xs ++ ys))))
theorem Vals.nil_iff {xs : List V} {us : List Value} (r : Vals xs us) : us = [] ↔ xs = [] := by
  cases r with
  | nil => simp
  | cons _ _ => simp
theorem op_catT : OpR X (binaryOp .Add) (rCatT X.K) := by
  intro pins s σ H x y v u Q I rx ry h
  obtain ⟨a, b, xs, ys, rfl, rfl, ha, hb, hx, hz, q1, q2⟩ := h
  cases rx
  cases ry
  obtain ⟨its, r1, p1, _⟩ := I.tuple ha
  obtain ⟨its2, r2, p2, _⟩ := I.tuple hb
  refine HT.cat_tup p1 p2 (fun z => hx (r1.nil_iff.mp z)) (fun z => ⟨.ref a, H, I, rfl, q1 (r2.nil_iff.mp z)⟩) (fun z => ?_) (by rw [← r1.length, ← r2.length]; exact hz)
  refine ⟨.ref s.heap.objs.size, _, I.laid (t' := s.toks) (o := .tup (xs ++ ys)) (fun b ob q => Heap.get?_push_of_some _ q) (Nat.le_refl _) ?_, rfl, q2 (fun w => z (r2.nil_iff.mpr w)) _ (I.hok.fresh (Nat.le_refl _))⟩
  exact ⟨by rw [List.length_append]; exact hz, _, r1.append r2, IsTup.new _ _⟩
end
end L2
namespace L2
open PySem PySem.Spec PyProof.Rows
def ixN (n : Nat) (i : Int) : Option Nat := if 0 ≤ i then (if i < n then some i.toNat else none) else if -(n : Int) ≤ i then some (i + n).toNat else none
def atI {α : Type} (xs : List α) (i : Int) : Option α := (ixN xs.length i).bind fun j => xs[j]?
theorem ixN_seq {n : Nat} {i : Int} {j : Nat} (h : ixN n i = some j) : seqIndex? i n = some j ∧ j < n ∧ -(n : Int) ≤ i ∧ i < n := by
  unfold ixN at h
  by_cases h0 : 0 ≤ i
  · rw [if_pos h0] at h
    by_cases h1 : i < n
    · rw [if_pos h1] at h
      have e : i.toNat = j := Option.some.inj h
      exact ⟨by rw [seqIndex_of h0 h1, e], by omega, by omega, h1⟩
    · rw [if_neg h1] at h; cases h
  · rw [if_neg h0] at h
    by_cases h1 : -(n : Int) ≤ i
    · rw [if_pos h1] at h
      have e : (i + n).toNat = j := Option.some.inj h
      exact ⟨by rw [seqIndex_neg (by omega) h1, e], by omega, h1, by omega⟩
    · rw [if_neg h1] at h; cases h
theorem atI_get {α : Type} {xs : List α} {i : Int} {v : α} (h : atI xs i = some v) : ∃ j, seqIndex? i xs.length = some j ∧ xs[j]? = some v ∧ j < xs.length ∧ -(xs.length : Int) ≤ i ∧ i < xs.length := by
  unfold atI at h
  cases e : ixN xs.length i with
  | none => rw [e] at h; cases h
  | some j =>
    rw [e] at h
    obtain ⟨h1, h2, h3, h4⟩ := ixN_seq e
    exact ⟨j, h1, h, h2, h3, h4⟩
theorem atI_nat {α : Type} {xs : List α} {j : Nat} {v : α} (h : xs[j]? = some v) : atI xs (j : Int) = some v := by
  have hj : j < xs.length := (List.getElem?_eq_some_iff.mp h).1
  have e : ixN xs.length (j : Int) = some j := by
    unfold ixN
    rw [if_pos (by omega), if_pos (by omega)]; simp
  unfold atI; rw [e]; exact h
def PlainIx (b : Expr) : Prop := ∀ o i, subscripted b false o i = operate [o, i] (getItem o i)
def IxR (X : Cx) (r : R2) : Prop :=
  ∀ (value slice : Expr) (pins : List (Addr × Obj)) (s : Shared) (σ : St) (H : Hp) (x y : V) (v u : Value) (Q : VK), Inv X pins σ H s → RelV x v → RelV y u → r x y H Q →
    subscripted slice false v u = operate [v, u] (getItem v u) → wpAny (model X.prog X.w) X.A (subscriptTail value slice v u) (EP X pins σ Q) X.xe s
def MtR (X : Cx) (id : String) (r : V → List V → Hp → VK → Prop) : Prop :=
  ∀ (pins : List (Addr × Obj)) (s : Shared) (σ : St) (H : Hp) (x : V) (xs : List V) (v : Value) (us : List Value) (Q : VK), Inv X pins σ H s → RelV x v → Vals xs us → r x xs H Q →
    wpAny (model X.prog X.w) X.A (call (.builtin id) (v :: us)) (EP X pins σ Q) X.xe s
section
variable {X : Cx} {a b : Expr} {ta tb : TE} {pos : Pos}
theorem IxR.or {r r' : R2} (h : IxR X r) (h' : IxR X r') : IxR X (fun x y H Q => r x y H Q ∨ r' x y H Q) := by
  intro value slice pins s σ H x y v u Q I rx ry q hs
  rcases q with q | q
  · exact h value slice pins s σ H x y v u Q I rx ry q hs
  · exact h' value slice pins s σ H x y v u Q I rx ry q hs
theorem MtR.or {id : String} {r r' : V → List V → Hp → VK → Prop} (h : MtR X id r) (h' : MtR X id r') : MtR X id (fun x xs H Q => r x xs H Q ∨ r' x xs H Q) := by
  intro pins s σ H x xs v us Q I rx rs q
  rcases q with q | q
  · exact h pins s σ H x xs v us Q I rx rs q
  · exact h' pins s σ H x xs v us Q I rx rs q
theorem pe_ix {r : R2} (hr : IxR X r) (ha : PE X a ta) (hb : PE X b tb) (hs : PlainIx b) : PE X (.Subscript a b pos) (tOp r ta tb) := by
  intro pins s σ H Q I h
  exact Subscript_ (binT ha hb I h fun v u s2 x y H2 I2 rx ry q => hr a b pins s2 σ H2 x y v u Q I2 rx ry q (hs _ _))
def rIxL (K : PySem.W.Frag) : R2 := fun x y H Q => ∃ p xs i v, x = .ref p ∧ y = .int i ∧ SqL K H p xs ∧ atI xs i = some v ∧ Q v H
def rIxT (K : PySem.W.Frag) : R2 := fun x y H Q => ∃ p xs i v, x = .ref p ∧ y = .int i ∧ SqT K H p xs ∧ atI xs i = some v ∧ Q v H
def rIxS : R2 := fun x y H Q => ∃ z i c, x = .str z ∧ y = .int i ∧ z.length ≤ sizeLine ∧ atI z.cps.toList i = some c ∧ Q (.str ⟨#[c]⟩) H
theorem ix_list : IxR X (rIxL X.K) := by
  intro value slice pins s σ H x y v u Q I rx ry h hs
  obtain ⟨p, xs, i, z, rfl, rfl, hq, he, q⟩ := h
  cases rx
  obtain ⟨t, rfl⟩ := ry
  obtain ⟨its, r, pl, hz⟩ := I.list hq
  obtain ⟨j, h1, h2, h3, h4, h5⟩ := atI_get he
  obtain ⟨w, ew, rw'⟩ := r.get h2
  have hl := r.length
  have hn := line63
  have fin : EP X pins σ Q w s := ⟨z, H, I, rw', q⟩
  by_cases h0 : 0 ≤ i
  · have hj : i.toNat = j := by
      rw [seqIndex_of h0 h5] at h1
      exact Option.some.inj h1
    exact item_listR pl.isList h0 (by omega) (by rw [hj]; simpa using ew) fin hs
  · have hj : (i + (its.toArray.size : Int)).toNat = j := by
      rw [seqIndex_neg (by omega) h4] at h1
      rw [List.size_toArray, ← hl]
      exact Option.some.inj h1
    exact subscriptTail_builtinR (x := w) pl.isList.typeIs slot_list_getitem.lookup
      (wpAny_getItem_list_neg (Q := fun r s' => r = w ∧ EP X pins σ Q r s') pl.isList (by omega) (by rw [List.size_toArray] <;> omega) (by omega) (by rw [hj]; simpa using ew) ⟨rfl, fin⟩) hs
theorem ix_tup : IxR X (rIxT X.K) := by
  intro value slice pins s σ H x y v u Q I rx ry h hs
  obtain ⟨p, xs, i, z, rfl, rfl, hq, he, q⟩ := h
  cases rx
  obtain ⟨t, rfl⟩ := ry
  obtain ⟨its, r, pl, hz⟩ := I.tuple hq
  obtain ⟨j, h1, h2, h3, h4, h5⟩ := atI_get he
  obtain ⟨w, ew, rw'⟩ := r.get h2
  have hl := r.length
  have hn := line63
  have fin : EP X pins σ Q w s := ⟨z, H, I, rw', q⟩
  exact subscriptTail_builtinR (x := w) pl.typeIs slot_tuple_getitem.lookup
    (getItem_tuple (j := j) (Q := fun r s' => r = w ∧ EP X pins σ Q r s') pl (by omega) (by omega) (by rw [List.size_toArray, ← hl]; exact h1) (by simpa using ew) ⟨rfl, fin⟩) hs
theorem ix_str : IxR X rIxS := by
  intro value slice pins s σ H x y v u Q I rx ry h hs
  obtain ⟨z, i, c, rfl, rfl, hz, he, q⟩ := h
  obtain ⟨t, rfl⟩ := rx
  obtain ⟨t', rfl⟩ := ry
  obtain ⟨j, h1, h2, h3, h4, h5⟩ := atI_get he
  have hl : z.cps.toList.length = z.length := by simp [Str.length]
  rw [hl] at h1 h4 h5
  have hn := line63
  exact tail_any (typeIs_str s z t) slot_str_getitem.lookup (getItem_str (c := c) (by
    have e1 : decide (i < -(2 ^ 63 : Int)) = false := decide_eq_false (by omega)
    have e2 : decide (i ≥ 2 ^ 63) = false := decide_eq_false (by omega)
    rw [e1, e2, Bool.or_false]) (by rw [h1]; simpa using h2) ⟨.str ⟨#[c]⟩, H, I.tok _, ⟨_, rfl⟩, q⟩) hs
def rIx (K : PySem.W.Frag) : R2 := fun x y H Q => rIxL K x y H Q ∨ rIxT K x y H Q ∨ rIxS x y H Q
theorem ix_seq : IxR X (rIx X.K) := ix_list.or (ix_tup.or ix_str)
theorem Inv.lst {pins : List (Addr × Obj)} {σ : St} {H : Hp} {s : Shared} {p : Addr} {xs : List V} (I : Inv X pins σ H s) (h : H p = some (.lst xs)) :
    ∃ (its : List Value) (n : Nat), Vals xs its ∧ s.heap.get? p = some { cls := .type "list", data := .seq its.toArray n } ∧ xs.length ≤ sizeLine := by
  obtain ⟨z, its, n, r, e⟩ := I.hok p _ h
  exact ⟨its, n, r, e, z⟩
def rSetL : V → V → V → Hp → (Hp → Prop) → Prop := fun o i v H Q => ∃ p xs k j, o = .ref p ∧ i = .int k ∧ H p = some (.lst xs) ∧ ixN xs.length k = some j ∧ Q (upd H p (.lst (xs.set j v)))
theorem slice_bounds (lo hi : Option Int) (n : Nat) : (sliceBounds lo hi none n).1 = ((HT.sIx n 0 lo : Nat) : Int) ∧ (sliceBounds lo hi none n).2.1 = ((HT.sIx n n hi : Nat) : Int) ∧ (sliceBounds lo hi none n).2.2 = 1 := by
  refine ⟨?_, ?_, rfl⟩
  · cases lo with
    | none => simp [sliceBounds, HT.sIx]
    | some i =>
      simp only [sliceBounds, HT.sIx, Option.getD_none, show (1 : Int) > 0 by decide, if_true]
      by_cases h : i < 0
      · simp only [h, if_true] <;> omega
      · simp only [h, if_false] <;> omega
  · cases hi with
    | none => simp [sliceBounds, HT.sIx]
    | some i =>
      simp only [sliceBounds, HT.sIx, Option.getD_none, show (1 : Int) > 0 by decide, if_true]
      by_cases h : i < 0
      · simp only [h, if_true] <;> omega
      · simp only [h, if_false] <;> omega
theorem slicePick_cut (its : List Value) (lo hi : Option Int) : slicePick its.toArray lo hi none = ((its.drop (HT.sIx its.length 0 lo)).take (HT.sIx its.length its.length hi - HT.sIx its.length 0 lo)).toArray := by
  obtain ⟨h1, h2, h3⟩ := slice_bounds lo hi its.toArray.size
  unfold slicePick
  rw [h1, h2, h3]
  simp only [sliceRange_one, pick_run, List.size_toArray] <;> rfl
def rSlL (K : PySem.W.Frag) : V → Option Int → Option Int → Hp → VK → Prop := fun x lo hi H Q => ∃ a xs, x = .ref a ∧ SqL K H a xs ∧ ∀ p, H p = none → Q (.ref p) (upd H p (.lst (cutV xs lo hi)))
theorem sl_list : SlR X (rSlL X.K) := by
  intro pins s σ H x v vl vu lo hi sl Q I rx hs pl pu h
  obtain ⟨a, xs, rfl, hx, q⟩ := h
  cases rx
  obtain ⟨its, r, ht, hz⟩ := I.list hx
  have hlen := r.length
  refine ⟨"list", _, slot_list_getitem.lookup, ht.isList.typeIs, ?_⟩
  refine wpAny_getItem_list_slice ht.isList hs pl pu .none (by simp) ?_ (by rw [List.size_toArray] <;> omega)
  rw [slicePick_cut, ← hlen]
  refine ⟨.ref s.heap.objs.size, _, I.laid (t' := s.toks) (o := .lst (cutV xs lo hi)) (fun b ob q => Heap.get?_push_of_some _ q) (Nat.le_refl _) ?_, rfl, q _ (I.hok.fresh (Nat.le_refl _))⟩
  exact ⟨Nat.le_trans (cutV_length xs lo hi) hz, _, 0, (r.drop (HT.sIx xs.length 0 lo)).take (HT.sIx xs.length xs.length hi - HT.sIx xs.length 0 lo), Heap.get?_push_size _ rfl⟩
def flatV : V → Bool
  | .non => true
  | .bl _ => true
  | .int _ => true
  | .str _ => true
  | _ => false
def eqV : V → V → Bool
  | .non, .non => true
  | .bl a, .bl b => a == b
  | .bl a, .int b => (if a then 1 else 0) == b
  | .int a, .bl b => a == (if b then 1 else 0)
  | .int a, .int b => a == b
  | .str a, .str b => a == b
  | _, _ => false
def eqU (x : V) (u : Value) : Bool := match u with
  | .none => eqV .non x
  | .bool b => eqV (.bl b) x
  | .int i _ => eqV (.int i) x
  | .str z _ => eqV (.str z) x
  | _ => false
def inV (x : V) (xs : List V) : Bool := xs.any fun y => eqV y x
def rIn (K : PySem.W.Frag) (neg : Bool) : R2 := fun x y H Q => ∃ p xs, y = .ref p ∧ (SqL K H p xs ∨ SqT K H p xs) ∧ flatV x = true ∧ xs.all flatV = true ∧ Q (.bl (if neg then !inV x xs else inV x xs)) H
theorem call_len_seq : CallR X (.builtin "len") (fun xs H Q => ∃ p ys, xs = [.ref p] ∧ (SqL X.K H p ys ∨ SqT X.K H p ys) ∧ Q (.int ys.length) H) := by
  intro pins s σ H xs us Q I r h
  obtain ⟨p, ys, rfl, hq, q⟩ := h
  obtain ⟨u, rfl, rx⟩ := vals1 r
  cases rx
  have hn := line63
  rcases hq with hq | hq
  · obtain ⟨its, r', pl, hz⟩ := I.list hq
    have hlen := r'.length
    exact Calls.call_len_list pl.isList (by simp only [List.size_toArray] <;> omega) ⟨.int ys.length, H, I.tok _, ⟨s.toks + 1, by rw [List.size_toArray, hlen]⟩, q⟩
  · obtain ⟨its, r', pl, hz⟩ := I.tuple hq
    have hlen := r'.length
    exact len_tuple pl (by simp only [List.size_toArray] <;> omega) ⟨.int ys.length, H, I.tok _, ⟨s.toks + 1, by rw [List.size_toArray, hlen]⟩, q⟩
theorem CallR.or {f : Value} {r r' : List V → Hp → VK → Prop} (h : CallR X f r) (h' : CallR X f r') : CallR X f (fun xs H Q => r xs H Q ∨ r' xs H Q) := by
  intro pins s σ H xs us Q I rs q
  rcases q with q | q
  · exact h pins s σ H xs us Q I rs q
  · exact h' pins s σ H xs us Q I rs q
theorem call_list_of : CallR X (.type "list") (fun xs H Q => ∃ p ys, xs = [.ref p] ∧ (SqL X.K H p ys ∨ SqT X.K H p ys) ∧ ∀ l, H l = none → Q (.ref l) (upd H l (.lst ys))) := by
  intro pins s σ H xs us Q I r h
  obtain ⟨p, ys, rfl, hq, q⟩ := h
  obtain ⟨u, rfl, rx⟩ := vals1 r
  cases rx
  have fin : ∀ (its : List Value), Vals ys its → ys.length ≤ sizeLine → ∀ (h' : Heap) (c' : Nat), (∀ b o', s.heap.get? b = some o' → h'.get? b = some o') →
      h'.get? s.heap.objs.size = some { cls := .type "list", dict := none, data := .seq its.toArray c', slots := #[] } → EP X pins σ Q (.ref s.heap.objs.size) { s with heap := h' } := fun its r' hz h' c' kp e =>
    ⟨.ref s.heap.objs.size, _, I.laid (t' := s.toks) kp (Nat.le_refl _) (show ObjOk X.prog X.w _ h' _ (.lst ys) from ⟨hz, its, c', r', e⟩), rfl, q _ (I.hok.fresh (Nat.le_refl _))⟩
  rcases hq with hq | hq
  · obtain ⟨its, r', pl, hz⟩ := I.list hq
    have hlen := r'.length
    obtain ⟨o, ho, hc, n, hd⟩ := pl.isList
    exact call_list_seq p (.inl rfl) ho hc hd (fun h' c' kp e => fin its r' hz h' c' kp e) (by simp only [List.size_toArray] <;> omega)
  · obtain ⟨its, r', pl, hz⟩ := I.tuple hq
    have hlen := r'.length
    obtain ⟨o, ho, hc, n, hd⟩ := pl
    exact call_list_seq p (.inr rfl) ho hc hd (fun h' c' kp e => fin its r' hz h' c' kp e) (by simp only [List.size_toArray] <;> omega)
def tyV (K : PySem.W.Frag) (T : String) (x : V) (H : Hp) : Prop := match x with
  | .str _ => T = "str"
  | .int _ => T = "int"
  | .ref p => (T = "list" ∧ ∃ xs, SqL K H p xs) ∨ (T = "tuple" ∧ ∃ o, K.lookup p = some o ∧ o.cls = .type "tuple" ∧ o.dict = none) ∨
      (T = "dict" ∧ ((∃ kvs, H p = some (.dK kvs)) ∨ ∃ kvs, H p = some (.dT kvs))) ∨ (T = "set" ∧ ∃ S n, H p = some (.set S n))
  | _ => False
theorem tyV_is {pins : List (Addr × Obj)} {σ : St} {H : Hp} {s : Shared} {T : String} {x : V} {v : Value} (I : Inv X pins σ H s) (r : RelV x v) (ty : tyV X.K T x H) :
    s.TypeIs v T ∧ ∀ a, v = .ref a → ∃ ob, s.heap.get? a = some ob ∧ ob.dict = none := by
  cases x with
  | str z =>
    obtain ⟨t, rfl⟩ := r
    cases (show T = "str" from ty)
    exact ⟨typeIs_str s z t, fun _ e => nomatch e⟩
  | int i =>
    obtain ⟨t, rfl⟩ := r
    cases (show T = "int" from ty)
    exact ⟨typeIs_int s i t, fun _ e => nomatch e⟩
  | ref p =>
    cases r
    rcases ty with ⟨rfl, xs, hq⟩ | ⟨rfl, o, hk, hc, hd⟩ | ⟨rfl, hk⟩ | ⟨rfl, S, n, hk⟩
    · obtain ⟨its, _, pl, _⟩ := I.list hq
      refine ⟨pl.isList.typeIs, fun a e => ?_⟩
      cases e
      obtain ⟨o, n, e, c, hd, _⟩ := pl
      exact ⟨o, e, hd⟩
    · refine ⟨⟨o, I.kIn p o hk, hc⟩, fun a e => ?_⟩
      cases e
      exact ⟨o, I.kIn _ o hk, hd⟩
    · have z : ∃ o, s.heap.get? p = some o ∧ o.ExactDict := by
        rcases hk with ⟨kvs, hk⟩ | ⟨kvs, hk⟩
        · obtain ⟨_, _, _, _, o, _, _, e, ex, _⟩ := I.hok p _ hk
          exact ⟨o, e, ex⟩
        · obtain ⟨_, _, _, _, o, _, _, e, ex, _⟩ := I.hok p _ hk
          exact ⟨o, e, ex⟩
      obtain ⟨o, e, ex⟩ := z
      refine ⟨⟨o, e, ex.1⟩, fun a e2 => ?_⟩
      cases e2
      exact ⟨o, e, ex.2.1⟩
    · obtain ⟨o, _, _, _, e, ex, _⟩ := I.hok p _ hk
      refine ⟨⟨o, e, ex.1⟩, fun a e2 => ?_⟩
      cases e2
      exact ⟨o, e, ex.2.1⟩
  | _ => exact False.elim ty
def tBM0 (K : PySem.W.Frag) (T : String) (r : V → List V → Hp → VK → Prop) (to : TE) : TE := fun σ H Q => to σ H fun x H1 => tyV K T x H1 ∧ r x [] H1 Q
def tBM (K : PySem.W.Frag) (T : String) (r : V → List V → Hp → VK → Prop) (to : TE) (t : TA) : TE := fun σ H Q => to σ H fun x H1 => tyV K T x H1 ∧ t σ H1 fun xs H2 => r x xs H2 Q
variable {o e : Expr} {es : List Expr} {to : TE} {t : TA} {name : Str} {apos cpos : Pos} {T id : String} {r : V → List V → Hp → VK → Prop}
theorem pe_bm (pa : PlainAttrs T) (slot : Slot T name id) (hty : typeOf (.builtin id) = pure (.type "method_descriptor")) (hm : MtR X id r) (ho : PE X o to) (ha : PA X (e :: es) t)
    (hbase : attributeBase o name X.env (eval o X.env) = eval o X.env := by rfl)
    (hfew : ((backTo cpos (starEach (e :: es) X.env)).all (fun x => !x.1) && (backToKw cpos (keywordEach [] X.env)).all (fun x => x.1.isSome)
      && decide ((e :: es).length + ([] : List Keyword).length + (if ([] : List Keyword).isEmpty then 0 else 1) < 30)) = true := by rfl)
    (hline : (apos.endLine == cpos.line) = true := by rfl) (hs : starEach (e :: es) X.env = (false, eval e X.env) :: starEach es X.env := by rfl) (hplain : (backTo cpos (starEach es X.env)).any (·.1) = false := by rfl) :
    PE X (.Call (.Attribute o name apos) (e :: es) [] cpos) (tBM X.K T r to t) := by
  intro pins s σ H Q I h
  refine wpAny_Call_method_late hbase hfew hline rfl (thn (ho pins s σ H _ I h) fun v s1 ⟨x, H1, I1, r1, ty, q1⟩ => ?_)
  obtain ⟨h1, h2⟩ := tyV_is I1 r1 ty
  refine ⟨T, id, pa, slot, hty, h1, h2, ?_⟩
  have hA := ha cpos pins s1 σ H1 _ I1 q1
  rw [hs] at hA ⊢
  refine Calls.callWith_builtin (by show (false || (backTo cpos (starEach es X.env)).any (·.1)) = false; rw [hplain] <;> rfl) (Calls.evalArgs_plain ?_)
  exact thn hA fun us s2 ⟨vs, H2, I2, r2, q2⟩ => hm pins s2 σ H2 x vs v us Q I2 r1 r2 q2
end
end L2
namespace L2
open PySem PySem.Spec PyProof.Rows
def MtM (X : Cx) (id : String) (r : V → List V → Hp → VK → Prop) : Prop :=
  ∀ (pins : List (Addr × Obj)) (s : Shared) (σ : St) (H : Hp) (x : V) (xs : List V) (v : Value) (us : List Value) (Q : VK), Inv X pins σ H s → RelV x v → Vals xs us → r x xs H Q →
    wpAny (model X.prog X.w) X.A (call (.builtin id) (v :: us)) (EP X pins σ Q) X.xe s
theorem Vals.one : ∀ {x : V} {us : List Value}, Vals [x] us → ∃ u, us = [u] ∧ RelV x u
  | _, _, .cons r .nil => ⟨_, rfl, r⟩
theorem Vals.two : ∀ {x y : V} {us : List Value}, Vals [x, y] us → ∃ u v, us = [u, v] ∧ RelV x u ∧ RelV y v
  | _, _, _, .cons r (.cons q .nil) => ⟨_, _, rfl, r, q⟩
theorem Vals.zero : ∀ {us : List Value}, Vals [] us → us = []
  | _, .nil => rfl
theorem Vals.dropLast {xs : List V} {us : List Value} (h : Vals xs us) : Vals xs.dropLast us.dropLast := by
  induction h with
  | nil => exact .nil
  | cons r t ih =>
    cases t with
    | nil => exact .nil
    | cons q t' => exact .cons r ih
theorem Vals.eraseIdx : ∀ {xs : List V} {us : List Value} (i : Nat), Vals xs us → Vals (xs.eraseIdx i) (us.eraseIdx i)
  | _, _, _, .nil => .nil
  | _, _, 0, .cons _ t => t
  | _, _, i + 1, .cons r t => .cons r (Vals.eraseIdx i t)
theorem Vals.reverse {xs : List V} {us : List Value} (h : Vals xs us) : Vals xs.reverse us.reverse := by
  induction h with
  | nil => exact .nil
  | cons r t ih => rw [List.reverse_cons, List.reverse_cons]; exact Vals.append ih (.cons r .nil)
theorem Vals.rep {xs : List V} {us : List Value} (h : Vals xs us) : ∀ k : Nat, Vals (List.replicate k xs).flatten (List.replicate k us).flatten
  | 0 => .nil
  | k + 1 => by
    rw [List.replicate_succ, List.replicate_succ, List.flatten_cons, List.flatten_cons]
    exact Vals.append h (Vals.rep h k)
theorem foldl_rep (its : List Value) : ∀ (k : Nat) (acc : List Value),
    List.foldl (fun x1 x2 => x1 ++ x2) acc.toArray (List.replicate k its.toArray) = (acc ++ (List.replicate k its).flatten).toArray
  | 0, acc => by simp
  | k + 1, acc => by
    have e : acc.toArray ++ its.toArray = (acc ++ its).toArray := by simp
    have e2 : (acc ++ its) ++ (List.replicate k its).flatten = acc ++ (List.replicate (k + 1) its).flatten := by
      rw [List.replicate_succ, List.flatten_cons, List.append_assoc]
    rw [← e2, ← foldl_rep its k (acc ++ its), ← e, List.replicate_succ, List.foldl_cons]
section
variable {X : Cx} {pins : List (Addr × Obj)} {σ : St} {H : Hp} {s : Shared} {l b : Addr} {xs ys zs : List V}
theorem Inv.lset {its its' : List Value} {n : Nat} {f : Array Value → Array Value} {t' : Nat} (I : Inv X pins σ H s) (hH : H l = some (.lst xs))
    (e : s.heap.get? l = some { cls := .type "list", data := .seq its.toArray n }) (hf : f its.toArray = its'.toArray) (hv : Vals ys its') (hz : ys.length ≤ sizeLine) :
    Inv X pins σ (upd H l (.lst ys)) { s with heap := s.heap.update l (Obj.mapSeq f), toks := t' } := by
  have q := PySem.IsL.update e f
  rw [hf] at q
  refine I.write (x := l) (e := l) (by rw [hH]; exact trivial) (.inl rfl) (fun b' u hb hu => (Heap.get?_update_other s.heap (Obj.mapSeq f) (Ne.symm hb)).trans hu) ⟨_, q⟩ ?_
  exact ⟨hz, its', _, hv, q⟩
theorem Inv.lnew {its : List Value} {t' : Nat} (I : Inv X pins σ H s) (hv : Vals ys its) (hz : ys.length ≤ sizeLine) :
    Inv X pins σ (upd H s.heap.objs.size (.lst ys)) { s with heap := s.heap.push { cls := .type "list", data := .seq its.toArray }, toks := t' } :=
  I.laid (fun _ _ q => Heap.get?_push_of_some _ q) (Nat.le_refl _) ⟨hz, its, 0, hv, Heap.get?_push_size _ rfl⟩
theorem Inv.fresh (I : Inv X pins σ H s) : H s.heap.objs.size = none := I.hok.fresh (Nat.le_refl _)
theorem Inv.lstM (I : Inv X pins σ H s) (hH : H l = some (.lst xs)) : xs.length ≤ sizeLine ∧ ∃ (its : List Value) (n : Nat), Vals xs its ∧ xs.length = its.length ∧ s.heap.get? l = some { cls := .type "list", data := .seq its.toArray n } := by
  obtain ⟨z, its, n, r, e⟩ := I.hok l _ hH
  exact ⟨z, its, n, r, r.length, e⟩
theorem notLongL {n : Nat} (h : n ≤ sizeLine) : Builtin.List.listTooLong n = false := by
  unfold Builtin.List.listTooLong
  exact decide_eq_false (by omega)
end
section
variable {X : Cx}
def rAppend : V → List V → Hp → VK → Prop := fun x vs H Q => ∃ l xs y, x = .ref l ∧ vs = [y] ∧ H l = some (.lst xs) ∧ xs.length < sizeLine ∧ Q .non (upd H l (.lst (xs ++ [y])))
theorem mt_append : MtM X "list.append" rAppend := by
  intro pins s σ H x vs v us Q I rx rv h
  obtain ⟨l, xs, y, rfl, rfl, hH, hz, q⟩ := h
  cases rx
  obtain ⟨u, rfl, ru⟩ := rv.one
  obtain ⟨z, its, n, r, hl, e⟩ := I.lstM hH
  refine call_meets F.slot_list_append ⟨_, e, rfl⟩ F.entry_list_append (F.args_list_append_2 _ _) (PySem.list_append l its.toArray n u (by rw [List.size_toArray]; omega)) ⟨e, ?_⟩
  refine ⟨.non, _, I.lset (its' := its ++ [u]) hH e (by simp) (r.append (.cons ru .nil)) ?_, rfl, q⟩
  rw [List.length_append, List.length_singleton]
  omega
def rExtend : V → List V → Hp → VK → Prop := fun x vs H Q => ∃ l b xs zs, x = .ref l ∧ vs = [.ref b] ∧ H l = some (.lst xs) ∧ H b = some (.lst zs) ∧ xs.length + zs.length ≤ sizeLine ∧ Q .non (upd H l (.lst (xs ++ zs)))
def rPop : V → List V → Hp → VK → Prop := fun x vs H Q => ∃ l xs y, x = .ref l ∧ vs = [] ∧ H l = some (.lst xs) ∧ xs[xs.length - 1]? = some y ∧ Q y (upd H l (.lst xs.dropLast))
def rPopAt : V → List V → Hp → VK → Prop := fun x vs H Q => ∃ l xs i k y, x = .ref l ∧ vs = [.int i] ∧ H l = some (.lst xs) ∧ -(2 ^ 63) ≤ i ∧ i < 2 ^ 63 ∧ seqIndex? i xs.length = some k ∧ xs[k]? = some y ∧ Q y (upd H l (.lst (xs.eraseIdx k)))
def rReverse : V → List V → Hp → VK → Prop := fun x vs H Q => ∃ l xs, x = .ref l ∧ vs = [] ∧ H l = some (.lst xs) ∧ Q .non (upd H l (.lst xs.reverse))
def rClear : V → List V → Hp → VK → Prop := fun x vs H Q => ∃ l xs, x = .ref l ∧ vs = [] ∧ H l = some (.lst xs) ∧ Q .non (upd H l (.lst []))
def rCat : R2 := fun x y H Q => ∃ l b xs zs, x = .ref l ∧ y = .ref b ∧ H l = some (.lst xs) ∧ H b = some (.lst zs) ∧ xs.length + zs.length ≤ sizeLine ∧ ∀ p, H p = none → Q (.ref p) (upd H p (.lst (xs ++ zs)))
theorem op_cat : OpR X (binaryOp .Add) rCat := by
  intro pins s σ H x y v u Q I rx ry h
  obtain ⟨l, b, xs, zs, rfl, rfl, hH, hB, hz, q⟩ := h
  cases rx
  cases ry
  obtain ⟨z, its, n, r, hl, e⟩ := I.lstM hH
  obtain ⟨z2, its2, n2, r2, hl2, e2⟩ := I.lstM hB
  refine PySem.P.add_list e e2 ?_ (by rw [List.size_toArray, List.size_toArray]; omega)
  have ea : its.toArray ++ its2.toArray = (its ++ its2).toArray := by simp
  rw [ea]
  exact ⟨.ref _, _, I.lnew (t' := s.toks) (r.append r2) (by rw [List.length_append]; omega), rfl, q _ I.fresh⟩
def rRep : R2 := fun x y H Q => ∃ l k xs, x = .ref l ∧ y = .int k ∧ H l = some (.lst xs) ∧ -(2 ^ 63) ≤ k ∧ k < 2 ^ 63 ∧ xs.length * k.toNat ≤ sizeLine ∧
  ∀ p, H p = none → Q (.ref p) (upd H p (.lst (List.replicate k.toNat xs).flatten))
theorem len_rep {α : Type} (xs : List α) (k : Nat) : (List.replicate k xs).flatten.length = k * xs.length := by
  induction k with
  | zero => simp
  | succ k ih => rw [List.replicate_succ, List.flatten_cons, List.length_append, ih, Nat.succ_mul, Nat.add_comm]
theorem op_rep : OpR X (binaryOp .Mult) rRep := by
  intro pins s σ H x y v u Q I rx ry h
  obtain ⟨l, k, xs, rfl, rfl, hH, h1, h2, hz, q⟩ := h
  cases rx
  obtain ⟨t, rfl⟩ := ry
  obtain ⟨z, its, n, r, hl, e⟩ := I.lstM hH
  have hlen : its.toArray.size * k.toNat ≤ sizeLine := by rw [List.size_toArray, ← hl]; exact hz
  have hcap : ¬ its.toArray.size * k.toNat > (2 ^ 63 - 1) / 8 := by
    have : (sizeLine : Nat) ≤ (2 ^ 63 - 1) / 8 := by decide
    omega
  have hfit : ¬ (!Builtin.List.listFitsIndex k) = true := by
    rw [fitsIndex_both h1 h2]
    exact Bool.false_ne_true
  have hlong : ¬ Builtin.List.listTooLong (its.toArray.size * k.toNat) = true := by
    rw [notLongL hlen]
    exact Bool.false_ne_true
  have hnew : List.foldl (fun x1 x2 => x1 ++ x2) #[] (List.replicate (if its.toArray.isEmpty = true then 0 else k.toNat) its.toArray) = (List.replicate k.toNat its).flatten.toArray := by
    have f0 : ∀ m : Nat, List.foldl (fun x1 x2 => x1 ++ x2) #[] (List.replicate m its.toArray) = (List.replicate m its).flatten.toArray := fun m => by
      have := foldl_rep its m []
      rw [List.nil_append] at this
      exact this
    rw [f0]
    cases its with
    | nil => simp
    | cons a r' => rw [if_neg (by simp)]
  refine wpAny_binaryOp_repeat_ref (T := "list") (U := "int") (by decide) ⟨_, e, rfl⟩ (fun s' => typeIs_int s' k t) noFill_list_mul F.fills_int_mul F.slot_int_rmul repeat_list F.slot_int_index.lookup
    (call_meets F.slot_int_rmul (typeIs_int s k t) F.entry_int_rmul (F.args_int_rmul_2 _ _) (int___rmul___int_list k t l its.toArray n)
      ⟨e, rfl, ⟨_, e, rfl⟩, call_meets F.slot_list_mul ⟨_, e, rfl⟩ F.entry_list_mul (F.args_list_mul_2 _ _) (AutoListH.list___mul___list_int_3 l its.toArray n k t hfit hcap hlong) ⟨e, ?_⟩⟩)
  rw [hnew]
  exact ⟨.ref _, _, I.lnew (t' := s.toks) (r.rep k.toNat) (by rw [len_rep, Nat.mul_comm]; exact hz), rfl, q _ I.fresh⟩
end
section
variable {prog : Program} {w : World} {A : Around} {E : Value → Shared → Prop} {s : Shared}
end
section
variable {X : Cx}
end
end L2
namespace L2
open PySem PySem.Spec PyProof.Rows
section
variable {prog : Program} {w : World} {A : Around} {E : Value → Shared → Prop} {s : Shared} {l : Addr} {its : List Value} {ns : List Int} {Q : Value → Shared → Prop}
end
section
variable {X : Cx}
def rSum (K : PySem.W.Frag) : List V → Hp → VK → Prop := fun vs H Q => ∃ (a : Addr) (ns : List Int), vs = [V.ref a] ∧ SqL K H a (ns.map V.int) ∧ Q (.int ns.sum) H
def rMax (K : PySem.W.Frag) : List V → Hp → VK → Prop := fun vs H Q => ∃ (a : Addr) (ns : List Int), vs = [V.ref a] ∧ SqL K H a (ns.map V.int) ∧ 0 < ns.length ∧ ∀ m, m ∈ ns → (∀ y, y ∈ ns → y ≤ m) → Q (.int m) H
def rMin (K : PySem.W.Frag) : List V → Hp → VK → Prop := fun vs H Q => ∃ (a : Addr) (ns : List Int), vs = [V.ref a] ∧ SqL K H a (ns.map V.int) ∧ 0 < ns.length ∧ ∀ m, m ∈ ns → (∀ y, y ∈ ns → m ≤ y) → Q (.int m) H
def rSorted (K : PySem.W.Frag) : List V → Hp → VK → Prop := fun vs H Q => ∃ (a : Addr) (ns : List Int), vs = [V.ref a] ∧ SqL K H a (ns.map V.int) ∧ ns.length < 64 ∧
  ∀ (ns' : List Int) (p : Addr), ns'.Perm ns → ns'.Pairwise (· ≤ ·) → H p = none → Q (.ref p) (upd H p (.lst (ns'.map V.int)))
def rSortedS (K : PySem.W.Frag) : List V → Hp → VK → Prop := fun vs H Q => ∃ (a : Addr) (xs : List Str), vs = [V.ref a] ∧ SqL K H a (xs.map V.str) ∧ xs.length < 64 ∧
  ∀ (ys : List Str) (p : Addr), ys.Perm xs → sortedS ys = true → H p = none → Q (.ref p) (upd H p (.lst (ys.map V.str)))
def rSort : V → List V → Hp → VK → Prop := fun x xs H Q => ∃ (a : Addr) (ns : List Int), x = V.ref a ∧ xs = [] ∧ H a = some (.lst (ns.map V.int)) ∧ ns.length < 64 ∧
  ∀ ns' : List Int, ns'.Perm ns → ns'.Pairwise (· ≤ ·) → Q .non (upd H a (.lst (ns'.map V.int)))
end
section
variable {X : Cx}
def rIndex (K : PySem.W.Frag) : V → List V → Hp → VK → Prop := fun x xs H Q => ∃ (a : Addr) (ys : List V) (y : V) (j : Nat) (z : V), x = V.ref a ∧ xs = [y] ∧ SqL K H a ys ∧ flatV y = true ∧ ys.all flatV = true ∧ ys[j]? = some z ∧ eqV z y = true ∧
  (∀ (m : Nat) (z' : V), m < j → ys[m]? = some z' → eqV z' y = false) ∧ Q (.int (j : Nat)) H
end
section
variable {X : Cx}
end
section
variable {X : Cx}
def rAny (K : PySem.W.Frag) : List V → Hp → VK → Prop := fun vs H Q => ∃ (a : Addr) (bs : List Bool), vs = [V.ref a] ∧ SqL K H a (bs.map V.bl) ∧ Q (.bl (bs.any id)) H
def rAll (K : PySem.W.Frag) : List V → Hp → VK → Prop := fun vs H Q => ∃ (a : Addr) (bs : List Bool), vs = [V.ref a] ∧ SqL K H a (bs.map V.bl) ∧ Q (.bl (bs.all id)) H
end
mutual
inductive Dp (K : PySem.W.Frag) (H : Hp) : V → PyData → Prop
  | non : Dp K H .non .none
  | bl (b : Bool) : Dp K H (.bl b) (.bool b)
  | int (i : Int) : Dp K H (.int i) (.int i)
  | str (x : Str) : Dp K H (.str x) (.str x)
  | lst {a : Addr} {xs : List V} {ds : List PyData} : SqL K H a xs → DpAll K H xs ds → Dp K H (.ref a) (.list ds)
  | tup {a : Addr} {xs : List V} {ds : List PyData} : SqT K H a xs → DpAll K H xs ds → Dp K H (.ref a) (.tuple ds)
inductive DpAll (K : PySem.W.Frag) (H : Hp) : List V → List PyData → Prop
  | nil : DpAll K H [] []
  | cons {v : V} {vs : List V} {d : PyData} {ds : List PyData} : Dp K H v d → DpAll K H vs ds → DpAll K H (v :: vs) (d :: ds)
end
section
variable {X : Cx} {pins : List (Addr × Obj)} {σ : St} {H : Hp} {s : Shared}
mutual
theorem Dp.reads (I : Inv X pins σ H s) : ∀ (d : PyData) (v : V) (u : Value), Dp X.K H v d → RelV v u → ∃ as, Reads s.heap u d as
  | .none, _, _, h, r => by
    cases h
    cases r
    exact ⟨_, Reads.none⟩
  | .bool b, _, _, h, r => by
    cases h
    cases r
    exact ⟨_, Reads.bool b⟩
  | .int i, _, _, h, r => by
    cases h
    obtain ⟨t, rfl⟩ := r
    exact ⟨_, Reads.int i t⟩
  | .str x, _, _, h, r => by
    cases h
    obtain ⟨t, rfl⟩ := r
    exact ⟨_, Reads.str x t⟩
  | .list ds, _, _, h, r => by
    cases h with
    | lst hs ha =>
      cases r
      obtain ⟨its, rv, ⟨o, n, ho, hc, _, hd⟩, _⟩ := I.list hs
      obtain ⟨as, hr⟩ := Dp.readsAll I ds _ its ha rv
      exact ⟨_, Reads.list ho hc hd hr⟩
  | .tuple ds, _, _, h, r => by
    cases h with
    | tup hs ha =>
      cases r
      obtain ⟨its, rv, ⟨o, ho, hc, n, hd⟩, _⟩ := I.tuple hs
      obtain ⟨as, hr⟩ := Dp.readsAll I ds _ its ha rv
      exact ⟨_, Reads.tuple ho hc hd hr⟩
  | .dict _, _, _, h, _ => by cases h
theorem Dp.readsAll (I : Inv X pins σ H s) : ∀ (ds : List PyData) (vs : List V) (us : List Value), DpAll X.K H vs ds → Vals vs us → ∃ as, ReadsAll s.heap us ds as
  | [], _, _, h, r => by
    cases h
    cases r
    exact ⟨_, ReadsAll.nil⟩
  | d :: ds, _, _, h, r => by
    cases h with
    | cons h1 h2 =>
      cases r with
      | cons r1 r2 =>
        obtain ⟨as, q1⟩ := Dp.reads I d _ _ h1 r1
        obtain ⟨bs, q2⟩ := Dp.readsAll I ds _ _ h2 r2
        exact ⟨_, ReadsAll.cons q1 q2⟩
end
end
section
variable {X : Cx}
def rEqD (K : PySem.W.Frag) : R2 := fun x y H Q => ∃ d e, Dp K H x d ∧ Dp K H y e ∧ SeqAt.shaped d = true ∧ SeqAt.shaped e = true ∧ Q (.bl (PyData.eqv d e)) H
def rNeD (K : PySem.W.Frag) : R2 := fun x y H Q => ∃ d e, Dp K H x d ∧ Dp K H y e ∧ SeqAt.shaped d = true ∧ SeqAt.shaped e = true ∧ Q (.bl (!PyData.eqv d e)) H
theorem op_eqD (hu : X.A.units + 64 < cLine) : OpR X (compareOp .Eq) (rEqD X.K) := by
  intro pins s σ H x y v u Q I rx ry h
  obtain ⟨d, e, hd, he, sd, se, q⟩ := h
  obtain ⟨as, r1⟩ := Dp.reads I d x v hd rx
  obtain ⟨bs, r2⟩ := Dp.reads I e y u he ry
  exact SeqAt.compareEq_shaped r1 r2 sd se hu ⟨.bl _, H, I, rfl, q⟩
theorem op_neD (hu : X.A.units + 64 < cLine) : OpR X (compareOp .NotEq) (rNeD X.K) := by
  intro pins s σ H x y v u Q I rx ry h
  obtain ⟨d, e, hd, he, sd, se, q⟩ := h
  obtain ⟨as, r1⟩ := Dp.reads I d x v hd rx
  obtain ⟨bs, r2⟩ := Dp.reads I e y u he ry
  exact SeqAt.compareNe_shaped r1 r2 sd se hu ⟨.bl _, H, I, rfl, q⟩
end
end L2
namespace L2
open PySem PySem.Spec PyProof.Rows
abbrev CellAt (h : Heap) (c : Addr) (v : Option Value) : Prop := h.IsCell c v
def relS (scope sc : Scope) : Scope :=
  { scope with names := scope.names.map fun (n, k) => if (k == .free && sc.kind == .function && sc.names.lookup n == some .cell) then (n, .cell) else (n, k) }
def cloFrom (cells : List (Str × Addr)) : List (Str × NameKind) → List (Str × Addr) → List (Str × Addr)
  | [], acc => acc
  | (n, k) :: r, acc => if k == .free then cloFrom cells r ((n, (cells.lookup n).getD 0) :: acc) else cloFrom cells r acc
structure BlkOk (N : List Str) (sc scope : Scope) (own : List (Str × Nat)) : Prop where
  kind : scope.kind = .function
  uniq : ∀ y ∈ scope.names, scope.names.lookup y.1 = some y.2
  ix : ∀ p ∈ own, N[p.2]? = some p.1
  free : ∀ y ∈ scope.names, y.2 = .free → sc.names.lookup y.1 = some .cell ∨ sc.names.lookup y.1 = some .free
  own : ∀ y ∈ scope.names, y.2 = .local ∨ y.2 = .cell → y.1 ∈ own.map (·.1) ∨ y.1 ∉ N
def wipe (σ : St) : List Nat → St
  | [] => σ
  | v :: vs => (wipe σ vs).set v none
abbrev Cx.blk (X : Cx) (s : Shared) (H : Hp) (scope : Scope) (cenv : Env) (fp : List Addr) : Cx := { X with s_0 := s, H_0 := H, env := cenv, outer := X.stack, ex := fp, fn := fun x => scope.names.lookup x == some .cell, pn := [], xe := fun _ _ => False }
section
variable {X : Cx} {pins : List (Addr × Obj)} {σ : St} {H : Hp} {s : Shared}
def PTs (X : Cx) (ifs : List Expr) (t : TT) : Prop :=
  ∀ (pins : List (Addr × Obj)) (s : Shared) (σ : St) (H : Hp) (Q : Bool → Hp → Prop), Inv X pins σ H s → t σ H Q →
    wpAny (model X.prog X.w) X.A (forIn ifs true fun c r => if r = true then do let ok ← isTrue c X.env (eval c X.env); pure (ForInStep.yield ok) else pure (ForInStep.yield r)) (TP X pins σ Q) X.xe s
def tYes : TT := fun _ H Q => Q true H
end
section
variable {X : Cx}
def tLc (wi : TI) (g : TG) (tt : TT) (te : TE) (vs : List Nat) : TE := fun σ H Q => wi σ H fun J H1 => ∀ D, H1 D = none → ∃ W : Nat → Nat → Hp → Prop, (∃ m, W 0 m (upd H1 D (.lst []))) ∧ ∀ i m H, W i m H →
  (J.stop i H ∧ Q (.ref D) H) ∨ (J.go i H ∧ ∃ Nx : Hp → Prop, (∀ H', Nx H' → ∃ m', m' < m ∧ W (i + 1) m' H') ∧ ∀ x H', J.yld i H x H' → g x (wipe σ vs) H' fun σ2 H2 => wipe σ2 vs = wipe σ vs ∧ tt σ2 H2 fun b H3 =>
    if b = true then te σ2 H3 fun y H4 => ∃ acc, H4 D = some (.lst acc) ∧ acc.length < sizeLine ∧ Nx (upd H4 D (.lst (acc ++ [y]))) else Nx H3)
end
def blkC (N : List Str) (sc scope : Scope) (own : List (Str × Nat)) : Bool :=
  (match scope.kind with | .function => true | _ => false) && (scope.names.all fun y => decide (scope.names.lookup y.1 = some y.2)) && (own.all fun p => decide (N[p.2]? = some p.1)) &&
    (scope.names.all fun y => match y.2 with
      | .free => (match sc.names.lookup y.1 with | some .cell => true | some .free => true | _ => false)
      | .local => decide (y.1 ∈ own.map (·.1)) || decide (y.1 ∉ N)
      | .cell => decide (y.1 ∈ own.map (·.1)) || decide (y.1 ∉ N)
      | _ => true)
end L2
namespace L2
open PySem PySem.Spec PyProof.Rows
section
variable {prog : Program} {w : World} {A : Around} {R : Result → Shared → Prop} {s : Shared} {elt t0 i0 t1 i1 : Expr} {ifs0 ifs1 : List Expr} {scope : Scope} {pos : Pos} {it acc : Value} {env : Env}
end
section
variable {X : Cx}
def tLc2 (wi : TI) (g : TG) (tt : TT) (wi1 : TI) (g1 : TG) (tt1 : TT) (te : TE) (vs vs1 : List Nat) : TE := fun σ H Q => wi σ H fun J H1 => ∀ D, H1 D = none → ∃ W : Nat → Nat → Hp → Prop, (∃ m, W 0 m (upd H1 D (.lst []))) ∧ ∀ i m H, W i m H →
  (J.stop i H ∧ Q (.ref D) H) ∨ (J.go i H ∧ ∃ Nx : Hp → Prop, (∀ H', Nx H' → ∃ m', m' < m ∧ W (i + 1) m' H') ∧ ∀ x H', J.yld i H x H' → g x (wipe σ vs) H' fun σ2 H2 => wipe σ2 vs = wipe σ vs ∧ tt σ2 H2 fun b H3 =>
    if b = true then wi1 σ2 H3 fun J1 H4 => ∃ W1 : Nat → Nat → Hp → Prop, (∃ m, W1 0 m H4) ∧ ∀ j k H, W1 j k H →
      (J1.stop j H ∧ Nx H) ∨ (J1.go j H ∧ ∃ Nx1 : Hp → Prop, (∀ H', Nx1 H' → ∃ k', k' < k ∧ W1 (j + 1) k' H') ∧ ∀ x H', J1.yld j H x H' → g1 x (wipe σ2 vs1) H' fun σ3 H5 => wipe σ3 vs1 = wipe σ2 vs1 ∧ tt1 σ3 H5 fun b H6 =>
        if b = true then te σ3 H6 fun y H7 => ∃ acc, H7 D = some (.lst acc) ∧ acc.length < sizeLine ∧ Nx1 (upd H7 D (.lst (acc ++ [y]))) else Nx1 H6)
    else Nx H3)
end
end L2
namespace L2
open PySem PySem.Spec PyProof.Rows
section
variable {κ : Type} [DecidableEq κ]
def valV (kvs : List (κ × V)) (k : κ) : Option V := (kvs.find? fun kv => decide (kv.1 = k)).map (·.2)
def putK (kvs : List (κ × V)) (k : κ) (v : V) : List (κ × V) :=
  if (kvs.any fun kv => decide (kv.1 = k)) = true then kvs.map (fun kv => if kv.1 = k then (kv.1, v) else kv) else kvs ++ [(k, v)]
def dropK (kvs : List (κ × V)) (k : κ) : List (κ × V) := kvs.filter fun kv => decide (kv.1 ≠ k)
theorem valV_pos {p : κ × V} {r : List (κ × V)} {k : κ} (e : p.1 = k) : valV (p :: r) k = some p.2 := by simp [valV, List.find?_cons, e]
theorem valV_neg {p : κ × V} {r : List (κ × V)} {k : κ} (e : ¬ p.1 = k) : valV (p :: r) k = valV r k := by simp [valV, List.find?_cons, e]
theorem valV_any (k : κ) : ∀ kvs : List (κ × V), (kvs.any fun kv => decide (kv.1 = k)) = (valV kvs k).isSome
  | [] => rfl
  | p :: r => by
    rw [List.any_cons]
    by_cases e : p.1 = k
    · simp only [valV_pos e, decide_eq_true e, Bool.true_or, Option.isSome_some]
    · rw [valV_neg e, decide_eq_false e, Bool.false_or]; exact valV_any k r
theorem length_putK (kvs : List (κ × V)) (k : κ) (v : V) : (putK kvs k v).length ≤ kvs.length + 1 := by
  unfold putK
  split
  · rw [List.length_map]; omega
  · rw [List.length_append, List.length_cons, List.length_nil]; omega
theorem putK_new {kvs : List (κ × V)} {k : κ} (v : V) (h : valV kvs k = none) : putK kvs k v = kvs ++ [(k, v)] := by
  unfold putK
  rw [valV_any, h]
  exact if_neg (by decide)
theorem RelO.isSome_eq {o : Option V} {u : Option Value} (r : RelO o u) : o.isSome = u.isSome := by
  cases o with
  | none => cases u with
    | none => rfl
    | some _ => exact (show False from r).elim
  | some _ => cases u with
    | none => exact (show False from r).elim
    | some _ => rfl
theorem RelO.getD {o : Option V} {u : Option Value} {d : V} {d' : Value} (r : RelO o u) (rd : RelV d d') : RelV (o.getD d) (u.getD d') := by
  cases o with
  | none => cases u with
    | none => exact rd
    | some _ => exact (show False from r).elim
  | some _ => cases u with
    | none => exact (show False from r).elim
    | some _ => exact r
theorem KV.val {kvs : List (κ × V)} {vs : List (κ × Value)} (r : KV kvs vs) (k : κ) : RelO (valV kvs k) (valueAt vs k) := by
  unfold KV at r
  induction r with
  | nil => exact True.intro
  | @cons p q ps qs h t ih =>
    obtain ⟨h1, h2⟩ := h
    by_cases e : p.1 = k
    · have e' : q.1 = k := h1.symm.trans e
      have b : valueAt (q :: qs) k = some q.2 := by simp [valueAt, List.find?_cons, e']
      rw [valV_pos e, b]; exact h2
    · have e' : ¬ q.1 = k := fun z => e (h1.trans z)
      have b : valueAt (q :: qs) k = valueAt qs k := by simp [valueAt, List.find?_cons, e']
      rw [valV_neg e, b]; exact ih
theorem KV.any {kvs : List (κ × V)} {vs : List (κ × Value)} (r : KV kvs vs) (k : κ) : (kvs.any fun kv => decide (kv.1 = k)) = vs.any fun kv => decide (kv.1 = k) := by
  unfold KV at r
  induction r with
  | nil => rfl
  | cons h t ih => rw [List.any_cons, List.any_cons, ih, h.1]
theorem KV.repl {kvs : List (κ × V)} {vs : List (κ × Value)} (r : KV kvs vs) (k : κ) {y : V} {u : Value} (ry : RelV y u) :
    KV (kvs.map fun kv => if kv.1 = k then (kv.1, y) else kv) (vs.map fun kv => if kv.1 = k then (kv.1, u) else kv) := by
  unfold KV at r ⊢
  induction r with
  | nil => exact .nil
  | @cons p q ps qs h t ih =>
    rw [List.map_cons, List.map_cons]
    refine .cons ?_ ih
    obtain ⟨h1, h2⟩ := h
    by_cases e : p.1 = k
    · rw [if_pos e, if_pos (h1.symm.trans e)]; exact ⟨h1, ry⟩
    · rw [if_neg e, if_neg (fun z => e (h1.trans z))]; exact ⟨h1, h2⟩
theorem KV.put {kvs : List (κ × V)} {vs : List (κ × Value)} (r : KV kvs vs) (k : κ) {y : V} {u : Value} (ry : RelV y u) : KV (putK kvs k y) (stored vs k u) := by
  unfold putK stored
  rw [r.any k]
  by_cases e : (vs.any fun kv => decide (kv.1 = k)) = true
  · rw [if_pos e, if_pos e]; exact r.repl k ry
  · rw [if_neg e, if_neg e]; exact Paired.snoc r ⟨rfl, ry⟩
theorem KV.drop {kvs : List (κ × V)} {vs : List (κ × Value)} (r : KV kvs vs) (k : κ) : KV (dropK kvs k) (without vs k) := by
  unfold KV at r ⊢
  unfold dropK without
  induction r with
  | nil => exact .nil
  | @cons p q ps qs h t ih =>
    obtain ⟨h1, h2⟩ := h
    rw [List.filter_cons, List.filter_cons]
    by_cases e : p.1 = k
    · have a : ¬ decide (p.1 ≠ k) = true := by simp [e]
      have b : ¬ decide (q.1 ≠ k) = true := by simp [h1.symm.trans e]
      rw [if_neg a, if_neg b]; exact ih
    · have e' : ¬ q.1 = k := fun z => e (h1.trans z)
      have a : decide (p.1 ≠ k) = true := by simp [e]
      have b : decide (q.1 ≠ k) = true := by simp [e']
      rw [if_pos a, if_pos b]; exact .cons ⟨h1, h2⟩ ih
theorem KV.keys {kvs : List (κ × V)} {vs : List (κ × Value)} (r : KV kvs vs) : kvs.map (·.1) = vs.map (·.1) := by
  unfold KV at r
  induction r with
  | nil => rfl
  | cons h t ih => rw [List.map_cons, List.map_cons, ih, h.1]
theorem KV.length {kvs : List (κ × V)} {vs : List (κ × Value)} (r : KV kvs vs) : kvs.length = vs.length := Paired.length r
end
theorem kV_is {P : Program} {w : World} {k : Key} {u : Value} (r : RelV (kV k) u) : (mixKind P w).is k u = true := by
  cases k with
  | inl i => obtain ⟨t, e⟩ := (show ∃ t, u = Value.int i t from r); subst e; exact mixKind_int P w i t
  | inr x => obtain ⟨t, e⟩ := (show ∃ t, u = Value.str x t from r); subst e; exact mixKind_str P w x t
theorem items_are {P : Program} {w : World} : ∀ {ks : List Key} {us : List Value}, Vals (ks.map kV) us → ItemsAre (mixKind P w) ks us
  | [], _, r => by rw [List.map_nil] at r; cases r; exact .nil
  | k :: ks, _, r => by
    rw [List.map_cons] at r
    cases r with
    | cons h t => exact .cons (kV_is h) (items_are t)
abbrev KT (H : Hp) : List (List Key × V) → List (List Key × Addr × Value) → Prop := Paired fun p q => p.1 = q.1 ∧ H q.2.1 = some (.tup (p.1.map kV)) ∧ RelV p.2 q.2.2
theorem KT.val {H : Hp} {kvs : List (List Key × V)} {xs : List (List Key × Addr × Value)} (r : KT H kvs xs) (k : List Key) : RelO (valV kvs k) ((atKey xs k).map (·.2)) := by
  induction r with
  | nil => exact True.intro
  | @cons p q ps qs h t ih =>
    obtain ⟨h1, _, h2⟩ := h
    by_cases e : p.1 = k
    · have e' : q.1 = k := h1.symm.trans e
      have b : atKey (q :: qs) k = some q.2 := by simp [atKey, List.find?_cons, e']
      rw [valV_pos e, b]; exact h2
    · have e' : ¬ q.1 = k := fun z => e (h1.trans z)
      have b : atKey (q :: qs) k = atKey qs k := by simp [atKey, List.find?_cons, e']
      rw [valV_neg e, b]; exact ih
theorem KT.repl {H : Hp} {kvs : List (List Key × V)} {xs : List (List Key × Addr × Value)} (r : KT H kvs xs) (k : List Key) {y : V} {u : Value} (ry : RelV y u) :
    KT H (kvs.map fun kv => if kv.1 = k then (kv.1, y) else kv) (xs.map (putAt k u)) := by
  induction r with
  | nil => exact .nil
  | @cons p q ps qs h t ih =>
    rw [List.map_cons, List.map_cons]
    refine .cons ?_ ih
    obtain ⟨h1, h2, h3⟩ := h
    unfold putAt
    by_cases e : p.1 = k
    · rw [if_pos e, if_pos (h1.symm.trans e)]; exact ⟨h1, h2, ry⟩
    · rw [if_neg e, if_neg (fun z => e (h1.trans z))]; exact ⟨h1, h2, h3⟩
theorem KT.put {H : Hp} {kvs : List (List Key × V)} {xs : List (List Key × Addr × Value)} (r : KT H kvs xs) (k : List Key) {b : Addr} {y : V} {u : Value} (hb : H b = some (.tup (k.map kV))) (ry : RelV y u) :
    KT H (putK kvs k y) (storedH xs k b u) := by
  have e : (kvs.any fun kv => decide (kv.1 = k)) = (atKey xs k).isSome := by
    rw [valV_any, (r.val k).isSome_eq, Option.isSome_map]
  unfold putK storedH
  rw [e]
  by_cases q : (atKey xs k).isSome = true
  · rw [if_pos q, if_pos q]; exact r.repl k ry
  · rw [if_neg q, if_neg q]; exact Paired.snoc r ⟨rfl, hb, ry⟩
theorem KT.keeps {H H' : Hp} {kvs : List (List Key × V)} {xs : List (List Key × Addr × Value)} (r : KT H kvs xs) (ht : ∀ b ys, H b = some (.tup ys) → H' b = some (.tup ys)) : KT H' kvs xs :=
  Paired.mapP r fun _ _ z => ⟨z.1, ht _ _ z.2.1, z.2.2⟩
section
variable {P : Program} {w : World} {H : Hp} {h : Heap} {a : Addr}
theorem rd_of {u : HO} (ok : HOk P w H h) (e : Rd H a u) : ObjOk P w H h a u := e.ok ok
theorem dk_rd {kvs : List (Key × V)} (ok : HOk P w H h) (e : Rd H a (.dK kvs)) : kvs.length ≤ sizeLine ∧ (a == sysModules) = false ∧ ∃ vs, KV kvs vs ∧ h.DictOf (mixKind P w) a vs :=
  show ObjOk P w H h a (.dK kvs) from rd_of ok e
theorem dk_of {kvs : List (Key × V)} (ok : HOk P w H h) (e : H a = some (.dK kvs)) : kvs.length ≤ sizeLine ∧ (a == sysModules) = false ∧ ∃ vs, KV kvs vs ∧ h.DictOf (mixKind P w) a vs := dk_rd ok (.inl e)
theorem key_of {ks : List Key} (ok : HOk P w H h) (e : H a = some (.tup (ks.map kV))) : (tupleKind (mixKind P w)).is h ks a := by
  obtain ⟨_, its, r, o, h1, h2, n, h3⟩ := (show ObjOk P w H h a (.tup (ks.map kV)) from ok a _ e)
  exact ⟨o, its.toArray, n, h1, h2, h3, by simpa using items_are r⟩
theorem dt_rd {kvs : List (List Key × V)} (ok : HOk P w H h) (e : Rd H a (.dT kvs)) : kvs.length ≤ sizeLine ∧ (a == sysModules) = false ∧
    ∃ xs, KT H kvs xs ∧ h.DictOfH (tupleKind (mixKind P w)) a xs := by
  obtain ⟨z, y, xs, r, o, es, ep, h1, h2, h3, h4, h5⟩ := (show ObjOk P w H h a (.dT kvs) from rd_of ok e)
  refine ⟨z, y, xs, r, o, es, ep, h1, h2, h3, h4, fun x hx => ?_, h5⟩
  have all : ∀ {l : List (List Key × V)} {m : List (List Key × Addr × Value)}, KT H l m → ∀ x ∈ m, (tupleKind (mixKind P w)).is h x.1 x.2.1 := by
    intro l m q
    induction q with
    | nil => intro x hx; exact nomatch hx
    | @cons p q ps qs hq t ih =>
      intro x hx
      rcases List.mem_cons.mp hx with e | hx
      · subst e
        exact key_of ok (by rw [← hq.1]; exact hq.2.1)
      · exact ih x hx
  exact all r x hx
theorem dt_of {kvs : List (List Key × V)} (ok : HOk P w H h) (e : H a = some (.dT kvs)) : kvs.length ≤ sizeLine ∧ (a == sysModules) = false ∧
    ∃ xs, KT H kvs xs ∧ h.DictOfH (tupleKind (mixKind P w)) a xs := dt_rd ok (.inl e)
end
def DGet (H : Hp) (a : Addr) (y : V) (r : Option V) : Prop :=
  (∃ kvs k, Rd H a (.dK kvs) ∧ y = kV k ∧ r = valV kvs k) ∨ ∃ kvs k b, Rd H a (.dT kvs) ∧ y = .ref b ∧ H b = some (.tup (k.map kV)) ∧ r = valV kvs k
def DPut (H : Hp) (a : Addr) (y v : V) (H' : Hp) : Prop :=
  (∃ kvs k, H a = some (.dK kvs) ∧ y = kV k ∧ kvs.length < sizeLine ∧ H' = upd H a (.dK (putK kvs k v))) ∨
  ∃ kvs k b, H a = some (.dT kvs) ∧ y = .ref b ∧ H b = some (.tup (k.map kV)) ∧ kvs.length < sizeLine ∧ H' = upd H a (.dT (putK kvs k v))
theorem DGet.k {H : Hp} {a : Addr} {kvs : List (Key × V)} {k : Key} (e : H a = some (.dK kvs)) : DGet H a (kV k) (valV kvs k) := .inl ⟨kvs, k, .inl e, rfl, rfl⟩
theorem DGet.t {H : Hp} {a b : Addr} {kvs : List (List Key × V)} {k : List Key} (e : H a = some (.dT kvs)) (eb : H b = some (.tup (k.map kV))) : DGet H a (.ref b) (valV kvs k) := .inr ⟨kvs, k, b, .inl e, rfl, eb, rfl⟩
theorem DPut.k {H : Hp} {a : Addr} {kvs : List (Key × V)} {k : Key} {v : V} (e : H a = some (.dK kvs)) (hl : kvs.length < sizeLine) : DPut H a (kV k) v (upd H a (.dK (putK kvs k v))) := .inl ⟨kvs, k, e, rfl, hl, rfl⟩
theorem DPut.t {H : Hp} {a b : Addr} {kvs : List (List Key × V)} {k : List Key} {v : V} (e : H a = some (.dT kvs)) (eb : H b = some (.tup (k.map kV))) (hl : kvs.length < sizeLine) :
    DPut H a (.ref b) v (upd H a (.dT (putK kvs k v))) := .inr ⟨kvs, k, b, e, rfl, eb, hl, rfl⟩
section
variable {X : Cx} {pins : List (Addr × Obj)} {σ : St} {H : Hp} {s : Shared} {a : Addr} {y v : V} {u r : Value} {o : Option V} {A : Around} {E : Value → Shared → Prop}
theorem Inv.big (I : Inv X pins σ H s) : sysModules < s.heap.objs.size := by
  have h : mainGlobals < s.heap.objs.size := (I.mod.glob.keeps I.bk).lt
  exact Nat.lt_trans (by decide) h
theorem d_getItem {Q : Value → Shared → Prop} (hu : A.units + 1 < cLine) (I : Inv X pins σ H s) (g : DGet H a y (some v)) (ry : RelV y u) (h : ∀ w' s', Inv X pins σ H s' → RelV v w' → Q w' s') :
    wpAny (model X.prog X.w) A (getItem (.ref a) u) Q E s := by
  rcases g with ⟨kvs, k, e, ey, l⟩ | ⟨kvs, k, b, e, ey, eb, l⟩
  · subst ey
    obtain ⟨z, hd, vs, rel, dd⟩ := dk_rd I.hok e
    obtain ⟨w', hw, rw'⟩ := RelO.some_of (v := v) (o := valueAt vs k) (by rw [l]; exact rel.val k)
    exact wpAny_getItem_of (kV_is ry) dd.mapOf hw (h w' _ (I.tok _) rw')
  · subst ey
    cases (show u = Value.ref b from ry)
    obtain ⟨z, hd, xs, rel, dd⟩ := dt_rd I.hok e
    obtain ⟨w', hw, rw'⟩ := RelO.some_of (v := v) (o := (atKey xs k).map (·.2)) (by rw [l]; exact rel.val k)
    obtain ⟨p, hp, hp2⟩ := Option.map_eq_some_iff.mp hw
    refine wpAny_getItem_heap (tupleKind_room_in1 hu) (key_of I.hok eb) dd hp ?_
    rw [hp2]
    exact h w' _ (I.tok _) rw'
theorem d_write {h' : Heap} {t' : Nat} {ob : HO} (I : Inv X pins σ H s) (mu : Mut (H a)) (hs : Heap.SameBut a s.heap h') (he : ∃ q, h'.get? a = some q) (new : ObjOk X.prog X.w (upd H a ob) h' a ob) :
    Inv X pins σ (upd H a ob) { s with heap := h', toks := t' } :=
  I.write (x := a) (e := a) mu (.inl rfl) (fun b q hb z => (hs.2 b hb).trans z) he new
theorem dk_new {P : Program} {w : World} {H' : Hp} {h' : Heap} {kvs : List (Key × V)} {vs : List (Key × Value)} (z : kvs.length ≤ sizeLine) (hd : (a == sysModules) = false) (rel : KV kvs vs) (dd : h'.DictOf (mixKind P w) a vs) :
    ObjOk P w H' h' a (.dK kvs) := ⟨z, hd, vs, rel, dd⟩
theorem d_setItem {H' : Hp} {Q : Unit → Shared → Prop} (hu : A.units + 1 < cLine) (I : Inv X pins σ H s) (g : DPut H a y v H') (ry : RelV y u) (rv : RelV v r) (h : ∀ s', Inv X pins σ H' s' → Q () s') :
    wpAny (model X.prog X.w) A (setItem (.ref a) u r) Q E s := by
  rcases g with ⟨kvs, k, e, ey, l, eH⟩ | ⟨kvs, k, b, e, ey, eb, l, eH⟩
  · subst ey eH
    obtain ⟨z, hd, vs, rel, dd⟩ := dk_of I.hok e
    have hz : vs.length ≤ sizeLine := by rw [← rel.length]; exact z
    have hl : (putK kvs k v).length ≤ sizeLine := by have := length_putK kvs k v; omega
    refine wpAny_setItem_pairs (hsz := hz) (kV_is ry) dd fun h' dd' hs => h _ ?_
    have he : ∃ q, h'.get? a = some q := let ⟨q, _, _, hq, _⟩ := dd'; ⟨q, hq⟩
    exact d_write I (by rw [e]; exact True.intro) hs he (dk_new hl hd (rel.put k rv) dd')
  · subst ey eH
    cases (show u = Value.ref b from ry)
    obtain ⟨z, hd, xs, rel, dd⟩ := dt_of I.hok e
    have hz : xs.length ≤ sizeLine := by rw [← Paired.length rel]; exact z
    have hl : (putK kvs k v).length ≤ sizeLine := by have := length_putK kvs k v; omega
    refine wpAny_setItem_heap (hsz := hz) (tupleKind_room_in1 hu) (key_of I.hok eb) dd fun h' dd' hs => h _ ?_
    obtain ⟨q, es, ep, hq, h2, h3, h4, _, h5⟩ := dd'
    refine d_write I (by rw [e]; exact True.intro) hs ⟨q, hq⟩ ⟨hl, hd, _, (rel.put k eb rv).keeps fun c ys ec => ?_, q, es, ep, hq, h2, h3, h4, h5⟩
    rw [upd_ne (ne_of ec e (fun z => nomatch z))]
    exact ec
end
section
variable {X : Cx} {pins : List (Addr × Obj)} {σ : St} {H : Hp} {s : Shared} {a : Addr} {kvs : List (Key × V)} {k : Key} {u : Value} {A : Around} {E : Value → Shared → Prop}
end
def NoSl (i : Expr) : Prop := ∀ ov iv, subscripted i false ov iv = operate [ov, iv] (getItem ov iv)
theorem subD_of {prog : Program} {w : World} {A : Around} {E : Value → Shared → Prop} {s : Shared} {env : Env} {value slice : Expr} {pos : Pos} {T id : String} {Q : Value → Shared → Prop}
    (hl : typeLookup (.type T) "__getitem__" = pure (some (.builtin id))) (hs : NoSl slice)
    (h : wpAny (model prog w) A (eval value env) (fun o s₁ => wpAny (model prog w) A (eval slice env) (fun i s₂ => s₂.TypeIs o T ∧ wpAny (model prog w) A (getItem o i) Q E s₂) E s₁) E s) :
    wpAny (model prog w) A (eval (.Subscript value slice pos) env) Q E s := by
  refine Subscript_ (wpAny_mono h (fun o s₁ h₁ => wpAny_mono h₁ (fun i s₂ h₂ => ?_) fun _ _ x => x) fun _ _ x => x)
  obtain ⟨hT, h₂⟩ := h₂
  unfold subscriptTail
  refine wpAny_bind ?_
  rw [getitemInPython_of_ne hT.not_modules]
  refine wpAny_bind (wpAny_specialOf hT hl ?_)
  have fin : wpAny (model prog w) A (subscripted slice false o i) (fun r s₃ => wpAny (model prog w) A (letTemporaryGo value o r >>= fun _ => pure r) Q E s₃) E s₂ := by
    rw [hs o i]
    exact wpAny_operating (wpAny_mono h₂ (fun r s₃ h₃ => wpAny_bind (wpAny_letTemporaryGo (wpAny_pure h₃))) fun _ _ x => x)
  first
    | exact wpAny_pure (wpAny_bind fin)
    | exact wpAny_bind (wpAny_pure (wpAny_bind fin))
    | exact wpAny_bind fin
theorem dict_typeIs {X : Cx} {pins : List (Addr × Obj)} {σ : St} {H : Hp} {s : Shared} {a : Addr} {y : V} {o : Option V} (I : Inv X pins σ H s) (g : DGet H a y o) : s.TypeIs (.ref a) "dict" := by
  rcases g with ⟨kvs, k, e, _, _⟩ | ⟨kvs, k, b, e, _, _, _⟩
  · obtain ⟨_, _, vs, _, dd⟩ := dk_rd I.hok e
    exact dd.typeIs
  · obtain ⟨_, _, xs, _, dd⟩ := dt_rd I.hok e
    exact dd.typeIs
def tDGet (td ty : TE) : TE := fun σ H Q => td σ H fun x H1 => ty σ H1 fun y H2 => ∃ a v, x = .ref a ∧ DGet H2 a y (some v) ∧ Q v H2
def tDIn (ty td : TE) : TE := fun σ H Q => ty σ H fun y H1 => td σ H1 fun x H2 => ∃ a o, x = .ref a ∧ DGet H2 a y o ∧ Q (.bl o.isSome) H2
def tDNotIn (ty td : TE) : TE := fun σ H Q => ty σ H fun y H1 => td σ H1 fun x H2 => ∃ a o, x = .ref a ∧ DGet H2 a y o ∧ Q (.bl (!o.isSome)) H2
def sDPut (td ty tv : TE) : TS := fun D σ H => tv σ H fun v H1 => td σ H1 fun x H2 => ty σ H2 fun y H3 => ∃ a H4, x = .ref a ∧ DPut H3 a y v H4 ∧ D.nx σ H4
def sDAug (td ty tv : TE) (rd : V → V → Hp → VK → Prop) : TS := fun D σ H => td σ H fun x H1 => ty σ H1 fun y H2 => ∃ a v, x = .ref a ∧ DGet H2 a y (some v) ∧
  tv σ H2 fun y2 H3 => rd v y2 H3 fun z H4 => ∃ H5, DPut H4 a y z H5 ∧ D.nx σ H5
def sDDel (td ty : TE) : TS := fun D σ H => td σ H fun x H1 => ty σ H1 fun y H2 => ∃ a kvs k, x = .ref a ∧ H2 a = some (.dK kvs) ∧ y = kV k ∧ (valV kvs k).isSome = true ∧ D.nx σ (upd H2 a (.dK (dropK kvs k)))
section
variable {X : Cx} {o i e value : Expr} {pos pos' tpos : Pos} {td ty tv : TE}
theorem pe_dget (hu : X.A.units + 1 < cLine) (ho : PE X o td) (hi : PE X i ty) (hs : NoSl i) : PE X (.Subscript o i pos) (tDGet td ty) := by
  intro pins s σ H Q I h
  refine subD_of PySem.F.slot_dict_getitem.lookup hs (thn (ho pins s σ H _ I h) fun u s1 ⟨x, H1, I1, rx, q1⟩ => thn (hi pins s1 σ H1 _ I1 q1) fun iv s2 ⟨y, H2, I2, ry, a, v, ex, g, q2⟩ => ?_)
  subst ex
  obtain rfl : u = Value.ref a := rx
  exact ⟨dict_typeIs I2 g, d_getItem hu I2 g ry fun w' s3 I3 rw' => ⟨v, H2, I3, rw', q2⟩⟩
theorem ps_dput (hu : X.A.units + 1 < cLine) (ho : PE X o td) (hi : PE X i ty) (hv : PE X value tv) (hs : swapsWith value (some (.Subscript o i pos')) pos.line X.env = pure false) :
    PS X (.Assign [.Subscript o i pos'] value pos) (sDPut td ty tv) := by
  intro pins s σ H D I h
  refine wpAny_Assign_Subscript (thn (hv pins s σ H _ I h) fun r s1 ⟨v, H1, I1, rv, q1⟩ => thn (ho pins s1 σ H1 _ I1 q1) fun u s2 ⟨x, H2, I2, rx, q2⟩ => thn (hi pins s2 σ H2 _ I2 q2) fun iv s3 ⟨y, H3, I3, ry, a, H4, ex, g, q3⟩ => ?_) hs
  subst ex
  obtain rfl : u = Value.ref a := rx
  exact d_setItem hu I3 g ry rv fun s4 I4 => ⟨σ, H4, I4, q3⟩
end
theorem dk_empty {P : Program} {w : World} {H : Hp} (h : Heap) (hb : sysModules < h.objs.size) : ObjOk P w H (h.push { cls := .type "dict", data := .dict #[] }) h.objs.size (.dK []) :=
  ⟨Nat.zero_le _, beq_eq_false_iff_ne.mpr (Ne.symm (Nat.ne_of_lt hb)), [], .nil, Heap.DictOf.new h⟩
def tDNewK : TE := fun _ H Q => ∀ p, H p = none → Q (.ref p) (upd H p (.dK []))
def tDNewT : TE := fun _ H Q => ∀ p, H p = none → Q (.ref p) (upd H p (.dT []))
section
variable {X : Cx} {pos : Pos}
end
def tPairs : List (TE × TE) → St → Hp → (List (V × V) → Hp → Prop) → Prop
  | [], _, H, Q => Q [] H
  | (tk, tv) :: r, σ, H, Q => tk σ H fun x H1 => tv σ H1 fun y H2 => tPairs r σ H2 fun ps H3 => Q ((x, y) :: ps) H3
abbrev VV : List (V × V) → List (Value × Value) → Prop := Paired fun p q => RelV p.1 q.1 ∧ RelV p.2 q.2
def PPs (X : Cx) (pos : Pos) (keys : List (Option Expr)) (values : List Expr) (trs : List (TE × TE)) : Prop :=
  ∀ (pins : List (Addr × Obj)) (s : Shared) (σ : St) (H : Hp) (Q : List (V × V) → Hp → Prop), Inv X pins σ H s → tPairs trs σ H Q →
    wpAny (model X.prog X.w) X.A (evalPairs (pairTrees keys values X.env pos)) (fun vs s' => ∃ ps H', Inv X pins σ H' s' ∧ VV ps vs ∧ Q ps H') X.xe s
theorem pps_nil {X : Cx} {pos : Pos} : PPs X pos [] [] [] := fun pins s σ H Q I h => pairTrees_nil_walk ⟨[], H, I, .nil, h⟩
theorem pps_cons {X : Cx} {pos : Pos} {k v : Expr} {ks : List (Option Expr)} {vs : List Expr} {tk tv : TE} {trs : List (TE × TE)} (hk : PE X k tk) (hv : PE X v tv) (hr : PPs X pos ks vs trs) :
    PPs X pos (some k :: ks) (v :: vs) ((tk, tv) :: trs) := fun pins s σ H Q I h =>
  pairTrees_cons_walk (thn (hk pins s σ H _ I h) fun u s1 ⟨x, H1, I1, rx, q1⟩ => thn (hv pins s1 σ H1 _ I1 q1) fun w2 s2 ⟨y, H2, I2, ry, q2⟩ =>
    thn (hr pins s2 σ H2 _ I2 q2) fun ws s3 ⟨ps, H3, I3, rel, q3⟩ => ⟨(x, y) :: ps, H3, I3, .cons ⟨rx, ry⟩ rel, q3⟩)
def mergeK (kvs more : List (Key × V)) : List (Key × V) := more.foldl (fun acc kv => putK acc kv.1 kv.2) kvs
theorem KV.merge : ∀ {more : List (Key × V)} {rs : List (Key × Value)} {kvs : List (Key × V)} {vs : List (Key × Value)}, KV more rs → KV kvs vs → KV (mergeK kvs more) (merged vs rs) := by
  intro more rs kvs vs r
  unfold KV at r
  induction r generalizing kvs vs with
  | nil => intro q; exact q
  | @cons p q ps qs h t ih =>
    intro r0
    have e : KV (putK kvs p.1 p.2) (stored vs q.1 q.2) := by
      have := r0.put p.1 h.2
      rw [← h.1]; exact this
    exact ih e
theorem length_mergeK : ∀ (more kvs : List (Key × V)), (mergeK kvs more).length ≤ kvs.length + more.length
  | [], kvs => by show kvs.length ≤ kvs.length + 0; omega
  | p :: r, kvs => by
    have h1 := length_mergeK r (putK kvs p.1 p.2)
    have h2 := length_putK kvs p.1 p.2
    show (mergeK (putK kvs p.1 p.2) r).length ≤ _
    rw [List.length_cons]; omega
theorem carries_of {P : Program} {w : World} : ∀ {kvs : List (Key × V)} {ws : List (Value × Value)}, VV (kvs.map fun kv => (kV kv.1, kv.2)) ws → ∃ rs, Carries (mixKind P w) ws rs ∧ KV kvs rs
  | [], _, r => by rw [List.map_nil] at r; cases r; exact ⟨[], True.intro, .nil⟩
  | p :: kvs, _, r => by
    rw [List.map_cons] at r
    cases r with
    | @cons a b as bs h t =>
      obtain ⟨rs, c, q⟩ := carries_of (P := P) (w := w) t
      obtain ⟨b1, b2⟩ := b
      exact ⟨(p.1, b2) :: rs, ⟨kV_is h.1, rfl, c⟩, .cons ⟨rfl, h.2⟩ q⟩
def tDisp (trs : List (TE × TE)) : TE := fun σ H Q => ∀ p, H p = none → tPairs trs σ (upd H p (.dK [])) fun ps H2 => H2 p = some (.dK []) ∧ ∃ kvs : List (Key × V), ps = kvs.map (fun kv => (kV kv.1, kv.2)) ∧ kvs.length ≤ 15 ∧ Q (.ref p) (upd H2 p (.dK (mergeK [] kvs)))
theorem pe_disp {X : Cx} {pos : Pos} {keys : List (Option Expr)} {values : List Expr} {trs : List (TE × TE)} (h : PPs X pos keys values trs) (hall : keys.all (·.isSome) = true) (hl : keys.length = values.length) (h0 : keys ≠ [])
    (h15 : keys.length ≤ 15) : PE X (.Dict keys values pos) (tDisp trs) := by
  intro pins s σ H Q I q
  have hn := I.hok.fresh (Nat.le_refl s.heap.objs.size)
  have I1 := I.laid (a := s.heap.objs.size) (o := .dK []) (h' := s.heap.push { cls := .type "dict", data := .dict #[] }) (t' := s.toks) (fun _ _ q => Heap.get?_push_of_some _ q) (Nat.le_refl _) (dk_empty s.heap I.big)
  refine wpAny_Dict_walk (knd := mixKind X.prog X.w) hall hl h0 h15 (thn (h pins _ σ _ _ I1 (q _ hn)) fun ws s2 ⟨ps, H2, I2, rel, e, kvs, ep, lk, q2⟩ => ?_)
  subst ep
  obtain ⟨rs, c, rk⟩ := carries_of (P := X.prog) (w := X.w) rel
  obtain ⟨z, hd, vs0, r0, dd⟩ := dk_of I2.hok e
  cases r0
  refine ⟨rs, c, dd, fun h' dd' hs => ⟨.ref s.heap.objs.size, _, ?_, rfl, q2⟩⟩
  have hz : (mergeK [] kvs).length ≤ sizeLine := by
    have h1 := length_mergeK kvs []
    rw [List.length_nil] at h1
    rw [sizeLine_eq]; omega
  have he : ∃ q, h'.get? s.heap.objs.size = some q := let ⟨q, _, _, hq, _⟩ := dd'; ⟨q, hq⟩
  exact d_write I2 (by rw [e]; exact True.intro) hs he (dk_new hz hd (rk.merge .nil) dd')
structure M1 (X : Cx) (o : Expr) (m : Str) (apos : Pos) (e : Expr) (cpos : Pos) : Prop where
  base : attributeBase o m X.env (eval o X.env) = eval o X.env
  few : ((backTo cpos (starEach [e] X.env)).all (fun x => !x.1) && (backToKw cpos (keywordEach [] X.env)).all (fun x => x.1.isSome)
    && decide (([e] : List Expr).length + ([] : List Keyword).length + (if ([] : List Keyword).isEmpty then 0 else 1) < 30)) = true
  line : (apos.endLine == cpos.line) = true
  trees : backTo cpos (starEach [e] X.env) = [(false, eval e X.env)]
structure M2 (X : Cx) (o : Expr) (m : Str) (apos : Pos) (e f : Expr) (cpos : Pos) : Prop where
  base : attributeBase o m X.env (eval o X.env) = eval o X.env
  few : ((backTo cpos (starEach [e, f] X.env)).all (fun x => !x.1) && (backToKw cpos (keywordEach [] X.env)).all (fun x => x.1.isSome)
    && decide (([e, f] : List Expr).length + ([] : List Keyword).length + (if ([] : List Keyword).isEmpty then 0 else 1) < 30)) = true
  line : (apos.endLine == cpos.line) = true
  trees : backTo cpos (starEach [e, f] X.env) = [(false, eval e X.env), (false, eval f X.env)]
def IsD (H : Hp) (a : Addr) : Prop := (∃ kvs, Rd H a (.dK kvs)) ∨ ∃ kvs, Rd H a (.dT kvs)
section
variable {X : Cx} {pins : List (Addr × Obj)} {σ : St} {H : Hp} {s : Shared} {a : Addr} {y d : V} {u r : Value} {o : Option V} {A : Around} {E : Value → Shared → Prop}
end
def tDGet1 (td ty : TE) : TE := fun σ H Q => td σ H fun x H1 => ∃ a, x = .ref a ∧ IsD H1 a ∧ ty σ H1 fun y H2 => ∃ o, DGet H2 a y o ∧ Q (o.getD .non) H2
def tDGet2 (td ty tx : TE) : TE := fun σ H Q => td σ H fun x H1 => ∃ a, x = .ref a ∧ IsD H1 a ∧ ty σ H1 fun y H2 => tx σ H2 fun z H3 => ∃ o, DGet H3 a y o ∧ Q (o.getD z) H3
def tDPop1 (td ty : TE) : TE := fun σ H Q => td σ H fun x H1 => ∃ a, x = .ref a ∧ IsD H1 a ∧ ty σ H1 fun y H2 => ∃ kvs k v, H2 a = some (.dK kvs) ∧ y = kV k ∧ valV kvs k = some v ∧ Q v (upd H2 a (.dK (dropK kvs k)))
def tDPop2 (td ty tx : TE) : TE := fun σ H Q => td σ H fun x H1 => ∃ a, x = .ref a ∧ IsD H1 a ∧ ty σ H1 fun y H2 => tx σ H2 fun z H3 => ∃ kvs k, H3 a = some (.dK kvs) ∧ y = kV k ∧
  (∀ v, valV kvs k = some v → Q v (upd H3 a (.dK (dropK kvs k)))) ∧ (valV kvs k = none → Q z H3)
section
variable {X : Cx} {o e f : Expr} {apos cpos : Pos} {td ty tx : TE}
end
section
variable {X : Cx} {pins : List (Addr × Obj)} {σ : St} {H : Hp} {s : Shared} {a : Addr} {kvs : List (Key × V)} {A : Around} {E : Value → Shared → Prop}
end
section
variable {X : Cx} {pins : List (Addr × Obj)} {σ : St} {H : Hp} {s : Shared} {a : Addr} {y : V} {u : Value} {A : Around} {E : Value → Shared → Prop}
end
end L2
namespace L2
open PySem PySem.Spec PyProof.Rows
section
variable {prog : Program} {w : World} {A : Around} {E : Value → Shared → Prop}
end
section
variable {X : Cx}
end
end L2
namespace L2
open PySem PySem.Spec PyProof.Rows
section
variable {X : Cx} {pins : List (Addr × Obj)} {σ : St} {H : Hp} {s : Shared} {h' : Heap}
theorem Inv.turnedL {t' : Nat} {ch : List Addr} (I : Inv X pins σ H s) (k : ∀ b o, b ∉ ch → s.heap.get? b = some o → h'.get? b = some o) (hf : ∀ b ∈ ch, FpOk X pins H b) : Inv X pins σ H { s with heap := h', toks := t' } := by
  have nit : ∀ b u, H b = some u → b ∉ ch := fun b u e z => by
    have q := (hf b z).1
    rw [q] at e; cases e
  refine I.step (g' := s.gens) (d' := s.drawn) (ch := ch) (fun b hb => ⟨(hf b hb).2.2.2.1, (hf b hb).2.1, (hf b hb).2.2.2.2.1, (hf b hb).2.2.2.2.2⟩) (fun b o _ _ hc e _ => k b o hc e) (fun b o _ _ hc e _ => ⟨o.slots, k b o hc e⟩)
    (fun _ _ _ _ n => n) (fun b o hc e => ⟨o, k b o hc e⟩) (fun _ _ e => e) (fun _ _ _ e => e) (fun b ps e => ⟨#[], by rw [e]; simp⟩) (fun m hm => ?_) (fun b u e => ?_) I.bare
  · obtain ⟨o, es, ep, ho, r⟩ := hm
    exact ⟨o, es, ep, k _ o (fun z => (hf _ z).2.1 rfl) ho, r⟩
  · refine (I.hok b u e).stay (fun c v hc q => k c v ?_ q) (fun _ q => q) fun _ _ q => q
    rcases hc with z | z
    · rw [z]; exact nit b u e
    · exact nit c _ z
theorem Inv.turnedNew {t' : Nat} {ch : List Addr} {T : Addr} {ob : HO} (I : Inv X pins σ H s) (k : ∀ b o, b ∉ ch → s.heap.get? b = some o → h'.get? b = some o) (hf : ∀ b ∈ ch, FpOk X pins H b) (hT : s.heap.objs.size ≤ T)
    (new : ObjOk X.prog X.w (upd H T ob) h' T ob) : Inv X pins σ (upd H T ob) { s with heap := h', toks := t' } := by
  have hn : H T = none := I.hok.fresh hT
  have nit : ∀ b u, H b = some u → b ∉ ch := fun b u e z => by
    have q := (hf b z).1
    rw [q] at e; cases e
  refine I.step (g' := s.gens) (d' := s.drawn) (ch := ch) (fun b hb => ⟨(hf b hb).2.2.2.1, (hf b hb).2.1, (hf b hb).2.2.2.2.1, (hf b hb).2.2.2.2.2⟩) (fun b o _ _ hc e _ => k b o hc e) (fun b o _ _ hc e _ => ⟨o.slots, k b o hc e⟩)
    (fun b o _ e n => ?_) (fun b o hc e => ⟨o, k b o hc e⟩) (fun b xs e => ?_) (fun b o u e => ?_) (fun b ps e => ⟨#[], ?_⟩) (fun m hm => ?_) (fun b u e => ?_) I.bare
  · rw [upd_ne (Nat.ne_of_lt (Nat.lt_of_lt_of_le (Heap.lt_size e) hT))]; exact n
  · rw [upd_ne (ne_of_none e hn)]; exact e
  · rw [upd_ne (ne_of_none e hn)]; exact e
  · rw [upd_ne (ne_of_none e hn), e]; simp
  · obtain ⟨o, es, ep, ho, r⟩ := hm
    exact ⟨o, es, ep, k _ o (fun z => (hf _ z).2.1 rfl) ho, r⟩
  · by_cases hb : b = T
    · subst hb
      rw [upd_same] at e
      cases e
      exact new
    · rw [upd_ne hb] at e
      refine (I.hok b u e).stay (fun c v hc q => k c v ?_ q) (fun c q => by rw [upd_ne (ne_of_none q hn)]; exact q) fun c xs q => by rw [upd_ne (ne_of_none q hn)]; exact q
      rcases hc with z | z
      · rw [z]; exact nit b u e
      · exact nit c _ z
end
def tLock (t : TS) : TS := fun D σ H => ∃ d u, H d = some u ∧ Mut (some u) ∧ ∀ od, t ⟨fun σ' H' => H' d = some (.frz od u) ∧ D.nx σ' (upd H' d u), fun v H' => H' d = some (.frz od u) ∧ D.rt v (upd H' d u), fun σ' H' => H' d = some (.frz od u) ∧ D.bk σ' (upd H' d u), fun σ' H' => H' d = some (.frz od u) ∧ D.ct σ' (upd H' d u)⟩ σ (upd H d (.frz od u))
def tLockE (t : TE) : TE := fun σ H Q => ∃ d u, H d = some u ∧ Mut (some u) ∧ ∀ od, t σ (upd H d (.frz od u)) fun v H' => H' d = some (.frz od u) ∧ Q v (upd H' d u)
section
variable {X : Cx}
end
def Itc (lo c : Int) (n : Nat) : It := ⟨fun i _ => i < n, fun i H x H' => H' = H ∧ x = .int (lo + (i : Nat) * c), fun i _ => n ≤ i⟩
def RgC (i j c : Int) (n : Nat) : Prop := c ≠ 0 ∧ c.natAbs < 1073741824 ∧ Builtin.Range.small i j c = true ∧ Builtin.Range.rangeSize i j c = n
theorem RgC.neg {i j : Int} (ha : -(2 ^ 62) ≤ i) (ha' : i < 2 ^ 62) (hb : -(2 ^ 62) ≤ j) (hb' : j < 2 ^ 62) : RgC i j (-1) (i - j).toNat :=
  ⟨by decide, by decide, PySem.W.small_down ha ha' hb hb', PySem.W.rangeSize_downNat i j⟩
def iRng3 (ta : TA) : TI := fun σ H R => ta σ H fun vs H1 => ∃ (i j c : Int) (n : Nat), vs = [.int i, .int j, .int c] ∧ RgC i j c n ∧ R (Itc i c n) H1
section
variable {X : Cx} {tg : Expr}
end
def Itv (K : PySem.W.Frag) (a : Addr) (n : Nat) : It :=
  ⟨fun i H => i < n ∧ ∃ (xs : List V) (x : V), SqL K H a xs ∧ xs[n - 1 - i]? = some x, fun i H x H' => H' = H ∧ ∀ xs, SqL K H a xs → xs[n - 1 - i]? = some x, fun i _ => n ≤ i⟩
def iRev (K : PySem.W.Frag) (ta : TA) : TI := fun σ H R => ta σ H fun vs H1 => ∃ (a : Addr) (xs : List V), vs = [.ref a] ∧ SqL K H1 a xs ∧ R (Itv K a xs.length) H1
section
variable {X : Cx} {tg : Expr}
end
def Its (x : Str) : It := ⟨fun i _ => i < x.cps.size, fun i H v H' => H' = H ∧ ∃ c, x.cps[i]? = some c ∧ v = .str ⟨#[c]⟩, fun i _ => x.cps.size ≤ i⟩
def iStr (te : TE) : TI := fun σ H R => te σ H fun v H1 => ∃ x, v = .str x ∧ R (Its x) H1
section
variable {prog : Program} {w : World} {A : Around} {E : Value → Shared → Prop} {s : Shared}
end
section
variable {X : Cx} {pins : List (Addr × Obj)} {σ : St} {H : Hp} {s : Shared} {d : Addr} {o : Obj}
end
def Itk (d : Addr) (o : Obj) (kvs : List (Key × V)) : It :=
  ⟨fun i H => H d = some (.frz o (.dK kvs)) ∧ i < kvs.length, fun i H x H' => H' = H ∧ ∃ k v, kvs[i]? = some (k, v) ∧ x = kV k, fun i H => H d = some (.frz o (.dK kvs)) ∧ kvs.length ≤ i⟩
def Itkt (d : Addr) (o : Obj) (kvs : List (List Key × V)) : It :=
  ⟨fun i H => H d = some (.frz o (.dT kvs)) ∧ i < kvs.length, fun i H x H' => H' = H ∧ ∃ (k : List Key) (v : V) (q : Addr), kvs[i]? = some (k, v) ∧ x = .ref q ∧ H q = some (.tup (k.map kV)), fun i H => H d = some (.frz o (.dT kvs)) ∧ kvs.length ≤ i⟩
def Itd (d : Addr) (o : Obj) (kvs : List (Key × V)) : It :=
  ⟨fun i H => H d = some (.frz o (.dK kvs)) ∧ i < kvs.length, fun i H x H' => H' = H ∧ ∃ k, kvs[i]? = some (k, x), fun i H => H d = some (.frz o (.dK kvs)) ∧ kvs.length ≤ i⟩
def Iti (d : Addr) (o : Obj) (kvs : List (Key × V)) : It :=
  ⟨fun i H => H d = some (.frz o (.dK kvs)) ∧ i < kvs.length, fun i H x H' => ∃ T k v, kvs[i]? = some (k, v) ∧ x = .ref T ∧ H T = none ∧ H' = upd H T (.tup [kV k, v]), fun i H => H d = some (.frz o (.dK kvs)) ∧ kvs.length ≤ i⟩
section
variable {P : Program} {w : World} {K : PySem.W.Frag} {tg : Expr} {d : Addr} {o : Obj} {es : Array DictEntry} {ep : Nat}
end
def iKeys (td : TE) : TI := fun σ H R => td σ H fun x H1 => ∃ d o, x = .ref d ∧ ((∃ kvs, H1 d = some (.frz o (.dK kvs)) ∧ R (Itk d o kvs) H1) ∨ ∃ kvs, H1 d = some (.frz o (.dT kvs)) ∧ R (Itkt d o kvs) H1)
def iVals (td : TE) : TI := fun σ H R => td σ H fun x H1 => ∃ d o kvs, x = .ref d ∧ H1 d = some (.frz o (.dK kvs)) ∧ R (Itd d o kvs) H1
def iItems (td : TE) : TI := fun σ H R => td σ H fun x H1 => ∃ d o kvs, x = .ref d ∧ H1 d = some (.frz o (.dK kvs)) ∧ R (Iti d o kvs) H1
def iKeysM (td : TE) : TI := fun σ H R => td σ H fun x H1 => ∃ d o kvs, x = .ref d ∧ H1 d = some (.frz o (.dK kvs)) ∧ R (Itk d o kvs) H1
section
variable {X : Cx} {tg e : Expr} {td : TE} {apos cpos : Pos}
end
def Ite (K : PySem.W.Frag) (a : Addr) : It :=
  ⟨fun i H => ∃ (xs : List V) (x : V), SqL K H a xs ∧ xs[i]? = some x, fun i H v H' => ∃ T x, v = .ref T ∧ H T = none ∧ H' = upd H T (.tup [.int (i : Nat), x]) ∧ ∀ xs, SqL K H a xs → xs[i]? = some x, fun i H => ∃ xs : List V, SqL K H a xs ∧ xs.length ≤ i⟩
def iEnum (K : PySem.W.Frag) (ta : TA) : TI := fun σ H R => ta σ H fun vs H1 => ∃ a xs, vs = [.ref a] ∧ SqL K H1 a xs ∧ R (Ite K a) H1
def Itz (K : PySem.W.Frag) (a b : Addr) : It :=
  ⟨fun i H => ∃ (xs ys : List V) (x y : V), SqL K H a xs ∧ SqL K H b ys ∧ xs[i]? = some x ∧ ys[i]? = some y,
    fun i H v H' => ∃ T x y, v = .ref T ∧ H T = none ∧ H' = upd H T (.tup [x, y]) ∧ (∀ xs, SqL K H a xs → xs[i]? = some x) ∧ ∀ ys, SqL K H b ys → ys[i]? = some y,
    fun i H => ∃ xs ys : List V, SqL K H a xs ∧ SqL K H b ys ∧ (xs.length ≤ i ∨ ys.length ≤ i)⟩
def iZip (K : PySem.W.Frag) (ta : TA) : TI := fun σ H R => ta σ H fun vs H1 => ∃ a b xs ys, vs = [.ref a, .ref b] ∧ SqL K H1 a xs ∧ SqL K H1 b ys ∧ R (Itz K a b) H1
end L2
section 
namespace Bits
open PySem PyProof.Rows
end Bits
end 
section 
namespace TL
open PySem PySem.Builtin PySem.Builtin.Str PySem.StrLaws
abbrev tl (x : Str) : List Nat := x.cps.toList
def pre (S l : List Nat) : Bool := l.take S.length == S
def spl (S : List Nat) : Nat → List Nat → List Nat → List (List Nat)
  | _, acc, [] => [acc]
  | 0, acc, c :: r => if pre S (c :: r) = true then acc :: spl S (S.length - 1) [] r else spl S 0 (acc ++ [c]) r
  | k + 1, acc, _ :: r => spl S k acc r
def par (S : List Nat) : List Nat → List Nat → Option (List Nat × List Nat)
  | _, [] => none
  | acc, c :: r => if pre S (c :: r) = true then some (acc, (c :: r).drop S.length) else par S (acc ++ [c]) r
def joinL (S : List Nat) : List (List Nat) → List Nat
  | [] => []
  | [p] => p
  | p :: q :: r => p ++ (S ++ joinL S (q :: r))
def numL (n : Nat) : List Nat := (Nat.toDigits 10 n).map Char.toNat
def wstep (st : List (List Nat) × List Nat) (c : Nat) : List (List Nat) × List Nat :=
  if Unicode.isSpace c = true then (if st.2 = [] then st else (st.1 ++ [st.2], [])) else (st.1, st.2 ++ [c])
def wfin (st : List (List Nat) × List Nat) : List (List Nat) := if st.2 = [] then st.1 else st.1 ++ [st.2]
end TL
end 
namespace L2
open PySem PySem.Spec PyProof.Rows
def rNewStrs (ys : List Str) : Hp → VK → Prop := fun H Q => ∀ p, H p = none → Q (.ref p) (upd H p (.lst (ys.map V.str)))
section
variable {X : Cx} {pins : List (Addr × Obj)} {σ : St} {H : Hp} {s : Shared} {Q : VK}
end
section
variable {X : Cx}
end
section
variable {X : Cx} {o e : Expr} {to te : TE}
def tM0 (r : V → List V → Hp → VK → Prop) (to : TE) : TE := fun σ H Q => to σ H fun x H1 => (∃ a, x = .str a) ∧ r x [] H1 Q
def tM1 (r : V → List V → Hp → VK → Prop) (to te : TE) : TE := fun σ H Q => to σ H fun x H1 => (∃ a, x = .str a) ∧ te σ H1 fun y H2 => r x [y] H2 Q
end
end L2
namespace L2
open PySem PySem.Spec PyProof.Rows
section
variable {X : Cx}
end
def clipS (n d : Nat) : Option Int → Int
  | none => (d : Int)
  | some i => max 0 (min (if i < 0 then i + (n : Int) else i) (n : Int))
def cutS (z : Str) (lo hi : Option Int) : Str :=
  ⟨((z.cps.toList.drop (HT.sIx z.length 0 lo)).take (HT.sIx z.length z.length hi - HT.sIx z.length 0 lo)).toArray⟩
def rSlS : V → Option Int → Option Int → Hp → VK → Prop := fun x lo hi H Q => ∃ z, x = .str z ∧ z.length ≤ sizeLine ∧ Q (.str (cutS z lo hi)) H
end L2
namespace Att
open PySem PySem.W PySem.Calls PyProof.Rows
theorem ints_of_wellAll {P : Params} {h : Heap} : ∀ (ns : List Int) (vs : List Value), WellAll P h vs (ns.map WData.int) → IntsAre vs ns := by
  intro ns
  induction ns with
  | nil =>
    intro vs w
    rw [List.map_nil] at w
    cases w
    exact .nil
  | cons n ns ih =>
    intro vs w
    rw [List.map_cons] at w
    cases w with
    | cons a b =>
      cases a
      exact .cons _ _ (ih _ b)
theorem script_of {l : OpenLaw} {n : Nat} (hn : l.most = some n) {P : Params} {h : Heap} {args : List WData} {vals : List Value}
    (hpre : l.row.toRowW.claim.pre args = true) (hwl : WellAll P h vals args) :
    ∃ a vs ns, vals = [Value.ref a] ∧ args = [WData.list (ns.map WData.int)] ∧ h.get? a = some { cls := .type "list", data := .seq vs.toArray } ∧ IntsAre vs ns ∧ ns.length ≤ n := by
  have hsh : WShape.hasAll [] args [.list .int] = true := (pre_splitW hpre).1
  have hc : l.pre.holds [] { args := args } = true := (pre_splitW hpre).2
  obtain ⟨d, r, rfl, h1, h2⟩ := hasAllW_cons hsh
  obtain rfl := hasAllW_nil h2
  obtain ⟨xs, rfl, h3⟩ := hasW_list h1
  obtain ⟨ns, rfl⟩ := items_int h3
  have hlen : ns.length ≤ n := by
    unfold OpenLaw.pre at hc
    have h4 : (WTm.not (.lt (.lit (.int (n : Int))) (.len (.arg 0)))).holds [] { args := [.list (ns.map .int)] } = true := by
      have h4 := (holds_andW hc).1
      rw [hn] at h4
      exact h4
    have h5 := condW_of h4 (w_not (w_lt w_lit (w_len_list (w_arg rfl))))
    rw [List.length_map] at h5
    refine Nat.le_of_not_lt fun q => ?_
    have q' : (n : Int) < ((ns.length : Nat) : Int) := by omega
    first
      | (rw [decide_eq_true q'] at h5; exact absurd h5 (by decide))
      | (simp at h5; omega)
  cases hwl with
  | cons w1 w2 =>
    cases w2
    cases w1 with
    | list ho hall => exact ⟨_, _, ns, rfl, rfl, ho, ints_of_wellAll ns _ hall, hlen⟩
theorem post_true (l : OpenLaw) (args : List WData) : l.row.toRowW.claim.post args (.bool true) args = true :=
  postW_of (r := l.row.toRowW) (X := (true == true))
    (show WShape.has [] (.bool true) .bool = true by first | rfl | decide | simp [WShape.has, WShape.arms, WShape.armsAll])
    (show (WTm.eq .res (.lit (.bool true))).value [] { args := args, res := some (.bool true), after := args } = some (.bool (true == true)) from w_eq_bool (w_res rfl) w_lit) rfl
theorem attach_call {l : OpenLaw} {n : Nat} {q : Program} {loose : List Str} {XP : (Str → Option Value) → Heap → Prop} {YP : World → Heap → Prop} {d : DefRec}
    (hn : l.most = some n) (hdf : d.params.defaults = [])
    (call : ∀ (w : World) (s₀ s₁ : Shared) (mg mb : Str → Option Value) (fa : Addr) (o : Obj) (pm cd doc : Value) (a : Addr) (vs : List Value) (ns : List Int),
      Ground q loose [] XP w s₀ mg mb s₁.heap → YP w s₁.heap →
      s₁.heap.get? fa = some o → o.data = .func (docDef d.name d.params d.body d.scope pm cd doc) → s₁.heap.CodeRec cd d.name → mg d.name = some (.ref fa) →
      s₁.heap.get? a = some { cls := .type "list", data := .seq vs.toArray } → IntsAre vs ns → ns.length ≤ n → s₁.gens = #[] →
      codeAny (model l.prog w) callerA (.call (.ref fa) ⟨[.ref a], []⟩) (fun r s' => r = .ok (.ret (.bool true)) ∧ OldK s₁.heap s'.heap ∧ s'.os = s₁.os ∧ AllBare s'.gens) s₁) :
    WalkO q loose XP YP l.row.toRowW d [] (fun f vs => PySem.call f vs) := by
  intro w s₀ s₁ mg mb G Y fa o pm cd doc dV kV ho hd hcd hD hmg hg args vals as hpre hlay hrd hwl hlo
  obtain rfl : dV = .none := Dflts.none hD hdf
  obtain rfl : kV = .none := Dflts.noKw hD
  obtain ⟨a, vs, ns, rfl, rfl, hobj, hints, hlen⟩ := script_of hn hpre hwl
  refine enter_call (codeAny_mono (call w s₀ s₁ mg mb fa o pm cd doc a vs ns G Y ho (fd_plain hd) hcd hmg hobj hints hlen hg) fun r s' hq => ?_)
  obtain ⟨rfl, h2, h3, h4⟩ := hq
  exact ⟨.inl ⟨.bool true, .bool true, [], rfl, fun _ => rfl, .bool true, post_true l _, fun _ => ⟨List.Pairwise.nil, fun _ hm => (nomatch hm)⟩⟩, h2, h3, h4⟩
section
variable {prog : Program} {w : World} {A : Around} {E : Value → Shared → Prop} {s : Shared} {K : Frag}
def noObjs (h : Heap) : Heap := { h with objs := #[] }
def ledger (h : Heap) (L d : Addr) : List (Addr × Obj) := (List.range h.objs.size).filterMap fun a => if a = L ∨ a = d then none else (h.get? a).map fun o => (a, o)
end
end Att
namespace L2
open PySem PySem.Spec PyProof.Rows
theorem vals_ints : ∀ {vs : List Value} {ns : List Int}, IntsAre vs ns → Vals (ns.map V.int) vs
  | _, _, .nil => .nil
  | _, _, .cons n t h => .cons ⟨t, rfl⟩ (vals_ints h)
def Only (H : Hp) : Prop := ∀ b, H b = none ∨ ∃ o xs, H b = some (.frz o (.lst xs))
end L2
namespace L2
open PySem PySem.Spec PyProof.Rows
abbrev KOf {K : PySem.W.Frag} {h : Heap} (_ : K.In h) : PySem.W.Frag := K
end L2
namespace L2
open PySem PySem.Spec PyProof.Rows
def inClass (s : Stmt) (j : Nat) : Stmt := match s with
  | .ClassDef _ _ _ body _ _ _ _ _ _ _ => body.getD j (.Pass ⟨0, 0, 0, 0⟩)
  | _ => .Pass ⟨0, 0, 0, 0⟩
def defArgs (s : Stmt) : Arguments := match s with
  | .FunctionDef _ a _ _ _ _ _ _ _ _ => a
  | _ => { posonlyargs := [], args := [], vararg := none, kwonlyargs := [], kw_defaults := [], kwarg := none, defaults := [] }
def defBody (s : Stmt) : List Stmt := match s with
  | .FunctionDef _ _ b _ _ _ _ _ _ _ => b
  | _ => []
def defScope (s : Stmt) : Scope := match s with
  | .FunctionDef _ _ _ _ _ _ sc _ _ _ => sc
  | _ => { kind := .function, names := [], isGenerator := false, isCoroutine := false }
abbrev CX0 : CXT := fun _ _ _ _ _ _ => False
abbrev E0 : XK := fun _ _ _ => False
theorem pass0 {X : Cx} : Passes CX0 X E0 := fun _ _ _ _ _ _ _ h => h.elim
structure Fun (K : PySem.W.Frag) (x qual : Str) (st : Stmt) (f : Addr) (fd : FuncData) : Prop where
  ex : ∃ (oc : Value) (od : Option Addr) (kV doc pm : Value) (an : Option Addr) (cdv ct : Value) (osl : Array (Option Value)),
    fd = PySem.W.fnOf x qual (defArgs st) (defBody st) (defScope st) .none kV doc pm an cdv ct ∧ K.lookup f = some ⟨oc, od, .func fd, osl⟩ ∧ PySem.W.codeIn K cdv qual = true
  kp : PySem.W.keepIn K (.ref f) = true
section
variable {P : Program} {w : World} {K : PySem.W.Frag} {mg : Str → Option Value} {base : Heap}
theorem Fun.ok {x qual : Str} {st : Stmt} {f : Addr} {fd : FuncData} {N ps : List Str} {k : Nat} {sp : Sp} (F : Fun K x qual st f fd) (S : FnScope N ps (defScope st)) (len : ∀ vs H Q E, sp vs H Q E → vs.length = ps.length)
    (hbody : ∀ (cdv : Value) (A : Around) (outer : List Env) (s : Shared) (H : Hp) (vs : List V) (Q : VK) (E : XK), Room k (A.deeper (envOfC qual (defScope st) s.heap.objs.size f cdv)) → sp vs H Q E →
      ∃ t, PSs (cxOf CX0 P w K mg base N qual (defScope st) f cdv A outer s H E).nox (defBody st) t ∧ t { nx := fun _ H' => Q .non H', rt := Q } (start N vs) H) : FnOk P w K mg base CX0 (k + 1) f fd ps sp := by
  obtain ⟨oc, od, kV, doc, pm, an, cdv, ct, osl, rfl, lk, hcd⟩ := F.ex
  refine fn_of lk hcd S len fun A outer s H vs Q E hr hsp => ?_
  obtain ⟨t, h, q⟩ := hbody cdv A outer s H vs Q E hr hsp
  exact ⟨t, h.nox, q⟩
theorem Fun.binds {x qual : Str} {st : Stmt} {f : Addr} {fd : FuncData} {ps : List Str} (F : Fun K x qual st f fd)
    (h : ∀ (kV doc pm : Value) (an : Option Addr) (cdv ct : Value) (us : List Value), us.length = ps.length → bindArgs (PySem.W.fnOf x qual (defArgs st) (defBody st) (defScope st) .none kV doc pm an cdv ct) ⟨us, []⟩ = pure (ps.zip us)) : Binds K fd ps [] := by
  obtain ⟨oc, od, kV, doc, pm, an, cdv, ct, osl, rfl, lk, hcd⟩ := F.ex
  exact .all (h kV doc pm an cdv ct)
theorem fun_mk {x qual : Str} {st : Stmt} {f : Addr} {oc : Value} {od an : Option Addr} {osl : Array (Option Value)} {kV doc pm cdv ct : Value} (l : K.lookup f = some ⟨oc, od, .func (PySem.W.fnOf x qual (defArgs st) (defBody st) (defScope st) .none kV doc pm an cdv ct), osl⟩)
    (c : PySem.W.codeIn K cdv qual = true) (k : PySem.W.keepIn K (.ref f) = true) : Fun K x qual st f (PySem.W.fnOf x qual (defArgs st) (defBody st) (defScope st) .none kV doc pm an cdv ct) := ⟨⟨oc, od, kV, doc, pm, an, cdv, ct, osl, rfl, l, c⟩, k⟩
end
theorem hu_of {A : Around} {k : Nat} (hr : Room k A) : A.units + 1 < cLine := Nat.lt_of_le_of_lt (Nat.add_le_add_left (by decide : 1 ≤ 64) _) hr.units
theorem small1000 {n : Nat} (h : n ≤ 1000) : n < sizeLine := Nat.lt_of_le_of_lt h (by decide)
section
variable {X : Cx}
theorem pv (i : Nat) {x : Str} {pos : Pos} (hN : X.N[i]? = some x := by rfl) (hv : Vis X.env.scope x := by first | exact Or.inl rfl | exact Or.inr (Or.inl rfl) | exact Or.inr (Or.inr rfl)) (hd : (x == ("__debug__" : Str)) = false := by decide)
    (hcd : (x == ("__classdict__" : Str)) = false := by decide) : PE X (.Name x pos) (tVar i) := pe_var hN hv hd hcd
end
theorem iteF {A B : Prop} (h : B) : if false = true then A else B := by
  rw [if_neg Bool.false_ne_true]
  exact h
theorem ite2 {c A B : Prop} [Decidable c] (h1 : c → A) (h2 : ¬ c → B) : if c then A else B := by
  by_cases h : c
  · rw [if_pos h]
    exact h1 h
  · rw [if_neg h]
    exact h2 h
def Same (H H' : Hp) : Prop := ∀ b o, H b = some o → H' b = some o
theorem Same.refl (H : Hp) : Same H H := fun _ _ h => h
theorem Same.trans {H H1 H2 : Hp} (a : Same H H1) (b : Same H1 H2) : Same H H2 := fun c o h => b c o (a c o h)
theorem Same.free {H H' : Hp} (e : Same H H') {l : Addr} (h : H' l = Option.none) : H l = Option.none := by
  cases q : H l with
  | none => rfl
  | some o =>
    rw [e l o q] at h
    cases h
theorem Same.seq {K : PySem.W.Frag} {H H' : Hp} {a : Addr} {xs : List V} (e : Same H H') (h : SqL K H a xs) : SqL K H' a xs := by
  rcases h with (h | ⟨o, h⟩) | h
  · exact .inl (.inl (e _ _ h))
  · exact .inl (.inr ⟨o, e _ _ h⟩)
  · exact .inr h
section
variable {κ : Type} [DecidableEq κ]
end
theorem at_of {xs : List V} {z : Int} {j : Nat} {v : V} (e : z = (j : Int)) (h : xs[j]? = some v) : atI xs z = some v := by
  rw [e]
  exact atI_nat h
end L2
namespace L2
open PySem PySem.Spec PyProof.Rows
theorem Same.rd {H H' : Hp} {a : Addr} {u : HO} (e : Same H H') (h : Rd H a u) : Rd H' a u := by
  rcases h with h | ⟨o, h⟩
  · exact .inl (e _ _ h)
  · exact .inr ⟨o, e _ _ h⟩
theorem Same.seqT {K : PySem.W.Frag} {H H' : Hp} {a : Addr} {xs : List V} (e : Same H H') (h : SqT K H a xs) : SqT K H' a xs := by
  rcases h with h | h
  · exact .inl (e.rd h)
  · exact .inr h
theorem Same.upd {H : Hp} {p : Addr} {o : HO} (h : H p = none) : Same H (upd H p o) := fun b u e => by
  rw [upd_ne (ne_of_none e h)]
  exact e
mutual
theorem Dp.same {K : PySem.W.Frag} {H H' : Hp} (e : Same H H') : ∀ {d : PyData} {v : V}, Dp K H v d → Dp K H' v d
  | .none, _, h => by cases h; exact .non
  | .bool b, _, h => by cases h; exact .bl b
  | .int i, _, h => by cases h; exact .int i
  | .str x, _, h => by cases h; exact .str x
  | .list ds, _, h => by
    cases h with
    | lst hs ha => exact .lst (e.seq hs) (DpAll.same e ha)
  | .tuple ds, _, h => by
    cases h with
    | tup hs ha => exact .tup (e.seqT hs) (DpAll.same e ha)
  | .dict _, _, h => by cases h
theorem DpAll.same {K : PySem.W.Frag} {H H' : Hp} (e : Same H H') : ∀ {ds : List PyData} {vs : List V}, DpAll K H vs ds → DpAll K H' vs ds
  | [], _, h => by cases h; exact .nil
  | d :: ds, _, h => by
    cases h with
    | cons h1 h2 => exact .cons (Dp.same e h1) (DpAll.same e h2)
end
mutual
theorem Dp.nodict {K : PySem.W.Frag} {H : Hp} : ∀ {d : PyData} {v : V}, Dp K H v d → d.hasDict = false
  | .none, _, _ => by simp only [PyData.hasDict]
  | .bool b, _, _ => by simp only [PyData.hasDict]
  | .int i, _, _ => by simp only [PyData.hasDict]
  | .str x, _, _ => by simp only [PyData.hasDict]
  | .list ds, _, h => by
    cases h with
    | lst hs ha => simp only [PyData.hasDict]; exact DpAll.nodict ha
  | .tuple ds, _, h => by
    cases h with
    | tup hs ha => simp only [PyData.hasDict]; exact DpAll.nodict ha
  | .dict _, _, h => by cases h
theorem DpAll.nodict {K : PySem.W.Frag} {H : Hp} : ∀ {ds : List PyData} {vs : List V}, DpAll K H vs ds → PyData.hasDictAll ds = false
  | [], _, _ => by simp only [PyData.hasDictAll]
  | d :: ds, _, h => by
    cases h with
    | cons h1 h2 => simp only [PyData.hasDictAll, Dp.nodict h1, DpAll.nodict h2, Bool.or_self]
end
section
variable {X : Cx}
def CMulB (i j : Int) : Prop := i.natAbs.log2 + j.natAbs.log2 < 100000000
theorem bits_le (i : Int) : Builtin.Int.intBits i ≤ i.natAbs.log2 + 1 := by
  unfold Builtin.Int.intBits
  split <;> omega
theorem CMulB.ok {i j : Int} (h : CMulB i j) : IntMulOk i j := by
  have h1 := bits_le i
  have h2 := bits_le j
  have h' : i.natAbs.log2 + j.natAbs.log2 < 100000000 := h
  unfold IntMulOk
  intro e
  simp only [Bool.and_eq_true, decide_eq_true_eq] at e
  have e3 := e.2
  unfold Builtin.Int.intTooBig at e3
  have e4 : ((Builtin.Int.intBits i : Int) + (Builtin.Int.intBits j : Int)) > bitsLine := of_decide_eq_true e3
  have e5 : (bitsLine : Int) = 134217728 := rfl
  omega
theorem log2_le {n k : Nat} (h : n < 2 ^ (k + 1)) : n.log2 ≤ k := by
  rcases Nat.eq_zero_or_pos n with h0 | hp
  · subst h0; simp
  · exact Nat.le_of_lt_succ ((Nat.log2_lt (Nat.ne_of_gt hp)).mpr h)
theorem op_mulB : OpR X (binaryOp .Mult) (rI CMulB fun i j => .int (i * j)) := opI fun _ _ _ _ _ _ _ hc q => mul_int q hc.ok
theorem op_fdivB : OpR X (binaryOp .FloorDiv) (rI (fun _ j => j ≠ 0 ∧ j.natAbs.log2 < 9000) fun i j => .int (i.fdiv j)) := opI fun _ _ _ _ _ _ _ hc q => floordiv_int hc.1 q (.inl (PyProof.noPylong_of_log2 hc.2))
theorem op_fdivR {k : Nat} (hr : Room k X.A) (ht : X.prog.given.tree = none) (hst : X.stack = X.env :: X.outer := by rfl) (hgen : X.env.scope.isGenerator = false := by rfl) (hco : X.env.scope.isCoroutine = false := by rfl) :
    OpR X (binaryOp .FloorDiv) (rI (fun _ j => j ≠ 0) fun i j => .int (i.fdiv j)) := by
  intro pins s σ H x y v u Q I rx ry h
  obtain ⟨i, j, rfl, rfl, hc, q⟩ := h
  obtain ⟨t, rfl⟩ := rx
  obtain ⟨t', rfl⟩ := ry
  have hd : X.A.depth + Builtin.pylongFrames < recursionLimit := by
    have := hr.dp
    show X.A.depth + 100 < _
    omega
  have se : SeerAt (model X.prog X.w) X.A s.heap := SeerAt.of (I.ok.mod.seer.keeps I.bk) ht (by rw [I.ok.frames, hst]) hgen hco I.ok.blt I.ok.glob
  exact floordiv_int hc ⟨.int (i.fdiv j), H, I.tok _, ⟨_, rfl⟩, q⟩ (.inr (PylongRoom.of I.nolimit hd se))
def rRepr (K : PySem.W.Frag) : List V → Hp → VK → Prop := fun xs H Q => ∃ v d, xs = [v] ∧ Dp K H v d ∧ d.showable = true ∧ d.depth ≤ 60 ∧ d.shown.length ≤ sizeLine ∧ Q (.str d.shown) H
end
theorem str_app_len (a b : Str) : (a ++ b).length = a.length + b.length := by
  show (a.cps ++ b.cps).size = _
  rw [Array.size_append]
  rfl
theorem textFrom_ub : ∀ (ts : List Str) (k : Nat) (acc : Str), (textFrom k acc ts).length ≤ acc.length + piled ts
  | [], k, acc => by show acc.length ≤ _; omega
  | t :: r, k, acc => by
    have ih := textFrom_ub r (k + 1) (acc ++ (if k > 0 then ", " else "" : String) ++ t)
    have e : (Str.ofString (if k > 0 then ", " else "")).length ≤ 2 := by split <;> decide
    rw [str_app_len, str_app_len] at ih
    rw [piled_cons]
    show (textFrom (k + 1) (acc ++ (if k > 0 then ", " else "" : String) ++ t) r).length ≤ _
    omega
theorem listText_ub (ts : List Str) : (listText ts).length ≤ piled ts + 2 := by
  have h := textFrom_ub ts 0 "["
  have e1 : (Str.ofString "[").length = 1 := by decide
  have e2 : (Str.ofString "]").length = 1 := by decide
  unfold listText
  rw [str_app_len]
  omega
theorem tupleText_ub (ts : List Str) : (tupleText ts).length ≤ piled ts + 3 := by
  have e1 : (Str.ofString "(").length = 1 := by decide
  have e2 : (Str.ofString (if ts.length == 1 then ",)" else ")")).length ≤ 2 := by split <;> decide
  have e3 : (Str.join ", " ts).length ≤ piled ts := by
    cases ts with
    | nil => decide
    | cons t r => have := join_length_add (t :: r) (by simp); omega
  unfold tupleText
  rw [str_app_len, str_app_len]
  omega
structure Def (K : PySem.W.Frag) (mg : Str → Option Value) (x : Str) (st : Stmt) : Prop where
  ex : ∃ f fd, Fun K x x st f fd ∧ mg x = some (.ref f)
structure FnIs (P : Program) (w : World) (K : PySem.W.Frag) (mg : Str → Option Value) (base : Heap) (k : Nat) (x : Str) (ps : List Str) (sp : Sp) : Prop where
  ex : ∃ f fd, FnOk P w K mg base CX0 k f fd ps sp ∧ mg x = some (.ref f) ∧ PySem.W.keepIn K (.ref f) = true ∧ Binds K fd ps []
section
variable {P : Program} {w : World} {K : PySem.W.Frag} {mg : Str → Option Value} {base : Heap}
theorem Def.ok {x : Str} {st : Stmt} {N ps : List Str} {k : Nat} {sp : Sp} (F : Def K mg x st) (S : FnScope N ps (defScope st))
    (hb : ∀ (kV doc pm : Value) (an : Option Addr) (cdv ct : Value) (us : List Value), us.length = ps.length → bindArgs (PySem.W.fnOf x x (defArgs st) (defBody st) (defScope st) .none kV doc pm an cdv ct) ⟨us, []⟩ = pure (ps.zip us))
    (len : ∀ vs H Q E, sp vs H Q E → vs.length = ps.length)
    (hbody : ∀ (f : Addr) (cdv : Value) (A : Around) (outer : List Env) (s : Shared) (H : Hp) (vs : List V) (Q : VK) (E : XK), Room k (A.deeper (envOfC x (defScope st) s.heap.objs.size f cdv)) → sp vs H Q E →
      ∃ t, PSs (cxOf CX0 P w K mg base N x (defScope st) f cdv A outer s H E).nox (defBody st) t ∧ t { nx := fun _ H' => Q .non H', rt := Q } (start N vs) H) : FnIs P w K mg base (k + 1) x ps sp := by
  obtain ⟨f, fd, F1, hm⟩ := F.ex
  exact ⟨f, fd, F1.ok S len (hbody f), hm, F1.kp, F1.binds hb⟩
theorem FnIs.mono {x : Str} {ps : List Str} {j k : Nat} {sp : Sp} (F : FnIs P w K mg base j x ps sp) (h : j ≤ k) : FnIs P w K mg base k x ps sp := by
  obtain ⟨f, fd, a, b⟩ := F.ex
  exact ⟨f, fd, a.mono h, b⟩
theorem FnIs.imp {x : Str} {ps : List Str} {k : Nat} {sp sp' : Sp} (F : FnIs P w K mg base k x ps sp) (h : ∀ vs H Q E, sp' vs H Q E → sp vs H Q E) : FnIs P w K mg base k x ps sp' := by
  obtain ⟨f, fd, a, b⟩ := F.ex
  exact ⟨f, fd, a.imp h, b⟩
end
theorem pe_callI {X : Cx} {j k : Nat} {x : Str} {ps : List Str} {sp : Sp} {p pos : Pos} {e : Expr} {es : List Expr} {t : TA} (F : FnIs X.prog X.w X.K X.mg X.base j x ps sp) (hr : Room k X.A) (ha : PA X (e :: es) t) (hj : j ≤ k := by decide) (hg : Gl X x := by rfl)
    (hd : (x == ("__debug__" : Str)) = false := by decide) (he : starEach (e :: es) X.env = (false, eval e X.env) :: starEach es X.env := by rfl) (hpl : (backTo pos (starEach es X.env)).any (·.1) = false := by rfl) :
    PE X (.Call (.Name x p) (e :: es) [] pos) (tCall sp [] E0 t) := by
  obtain ⟨f, fd, G, hm, kp, b⟩ := F.ex
  exact pe_call G (hr.mono hj) hg hm kp b .nil pass0 ha hd he hpl
theorem def_mk {K : PySem.W.Frag} {h : Heap} {mg : Str → Option Value} {x : Str} {st : Stmt} {f : Addr} {oc : Value} {od an : Option Addr} {sl : Array (Option Value)} {kV dc pm cd ct : Value} (X : K.In h) (G : h.Ns mainGlobals mg)
    (a : PySem.W.nsIn K mainGlobals x = some (some (.ref f))) (l : K.lookup f = some ⟨oc, od, .func (PySem.W.fnOf x x (defArgs st) (defBody st) (defScope st) .none kV dc pm an cd ct), sl⟩) (c : PySem.W.codeIn K cd x = true) (k : PySem.W.keepIn K (.ref f) = true) :
    Def K mg x st := ⟨f, _, fun_mk l c k, PySem.W.mg_of X G a⟩
end L2
namespace GB
open PySem PyProof.Rows
mutual
def okB : PyData → Bool
  | .none => true
  | .bool _ => true
  | .str _ => true
  | .int i => decide (i.natAbs.log2 < 12900)
  | .list xs => okBAll xs
  | .tuple xs => okBAll xs
  | .dict _ => false
def okBAll : List PyData → Bool
  | [] => true
  | x :: xs => okB x && okBAll xs
end
theorem lt4300 {a : Int} (h : a.natAbs.log2 < 12900) : a.natAbs < 10 ^ 4300 := by
  have h1 : a.natAbs < 2 ^ 12900 := lt_of_log2 h
  exact Nat.lt_of_lt_of_le h1 pow_lo
section
variable {prog : Program} {w : World} {A : Around} {E : Value → Shared → Prop} {s : Shared}
theorem call_int_reprB {a : Int} {t : Tok} {Q : Value → Shared → Prop} (ha : a.natAbs.log2 < 12900) (hn : s.heap.NoDigits) (h : Q (.str (toString a) s.toks) { s with toks := s.toks + 1 }) :
    wpAny (model prog w) A (call (.builtin "int.__repr__") [.int a t]) Q E s := by
  refine wpAny_call_entry F.slot_int_repr (typeIs_int s a t) F.entry_int_repr ?_ (F.args_int_repr_1 _)
  unfold Builtin.«int.__repr__»
  show wpAny _ _ (do let r ← Builtin.overDigitLimit? a; _) _ _ s
  have hl := lt4300 ha
  refine wpAny_bind (overDigitLimit_any hn (fun hlt => ?_) (fun hge => absurd hl (Nat.not_lt.mpr hge)))
  exact wpAny_bind (wpAny_mkStr (wpAny_pure ⟨_, rfl, h⟩) (int_text_fits10 hl))
theorem reprObjB {a : Int} {t : Tok} {Q : Value → Shared → Prop} (hu : A.units < cLine) (ha : a.natAbs.log2 < 12900) (hn : s.heap.NoDigits) (h : Q (.str (toString a) s.toks) { s with toks := s.toks + 1 }) :
    wpAny (model prog w) A (pyReprObj (.int a t)) Q E s :=
  wpAny_pyReprObj_slot hu (typeIs_int s a t) F.slot_int_repr.toG (call_int_reprB ha hn ⟨_, _, rfl, h⟩)
end
section
variable {prog : Program} {w : World} {g₀ : Heap}
theorem reprK_int {a : Int} {t : Tok} (ha : a.natAbs.log2 < 12900) (hn : g₀.NoDigits) (as : List Addr) (d : Nat) : ReprK prog w as g₀ d (.int a t) (toString a) := by
  intro base hb A g E s Q hg hcl hu hk0 hQ
  have hb' : base ≤ sizeLine := by omega
  rw [pyReprUnder_leaf (v := .int a t) hb' (fun _ e => nomatch e)]
  unfold pyRepr
  exact wpAny_bind (reprObjB (by omega) ha (hn.keeps hk0) (wpAny_pure (hQ s.heap _ fun _ _ e => e)))
mutual
theorem reprK_of (hn : g₀.NoDigits) : ∀ {v : Value} {d : PyData} {as : List Addr}, Reads g₀ v d as → okB d = true → d.shown.length ≤ sizeLine → ∃ bs, ReadAtMost g₀ d.depth bs ∧ ReprK prog w bs g₀ d.depth v d.shown
  | _, _, _, .none, _, _ => ⟨[], (fun _ h => nomatch h), by simp only [PyData.shown]; exact .of_is ReprIs.none _ _ _⟩
  | _, _, _, .bool b, _, _ => ⟨[], (fun _ h => nomatch h), by simp only [PyData.shown]; exact .of_is (ReprIs.bool b) _ _ _⟩
  | _, _, _, .int i t, hs, _ => ⟨[], (fun _ h => nomatch h), by simp only [PyData.shown]; exact reprK_int (by simpa [okB] using hs) hn _ _⟩
  | _, _, _, .str x t, _, hz => ⟨[], (fun _ h => nomatch h), by simp only [PyData.shown]; exact .of_is (ReprIs.str x t (by simpa only [PyData.shown] using hz)) _ _ _⟩
  | _, _, _, .list (a := a) (vs := vs) (xs := xs) h1 h2 h3 h4, hs, hz => by
    have hz2 : (listText (PyData.shownAll xs)).length ≤ sizeLine := by simpa only [PyData.shown] using hz
    obtain ⟨bs, hb, hk⟩ := reprK_all hn h4 (by simpa [okB] using hs) (fun t ht => Nat.le_trans (listText_mem_le ht) hz2)
    have r : Reads g₀ (.ref a) (.list xs) _ := .list h1 h2 h3 h4
    have nin : a ∉ bs := not_mem_of_deeper r (by simp only [PyData.depth]; omega) hb
    refine ⟨a :: bs, ReadAtMost.cons r (by simp only [PyData.depth]; omega) hb, ?_⟩
    simp only [PyData.depth, PyData.shown]
    obtain ⟨l⟩ := vs
    cases l with
    | nil =>
      have h5 : ReadsAll g₀ [] xs _ := h4
      cases h5
      simp only [PyData.shownAll, listText_nil]
      exact ReprK.listEmpty h1 h2 h3
    | cons x l => exact ReprK.list h1 h2 h3 nin (by simpa using hk.length_eq) (fun i y e => hk.item i y (by simpa using e))
  | _, _, _, .tuple (a := a) (xs := xs) h1 h2 h3 h4, hs, hz => by
    have hz2 : (tupleText (PyData.shownAll xs)).length ≤ sizeLine := by simpa only [PyData.shown] using hz
    obtain ⟨bs, hb, hk⟩ := reprK_all hn h4 (by simpa [okB] using hs) (fun t ht => Nat.le_trans (tupleText_mem_le ht) hz2)
    have r : Reads g₀ (.ref a) (.tuple xs) _ := .tuple h1 h2 h3 h4
    have nin : a ∉ bs := not_mem_of_deeper r (by simp only [PyData.depth]; omega) hb
    refine ⟨a :: bs, ReadAtMost.cons r (by simp only [PyData.depth]; omega) hb, ?_⟩
    simp only [PyData.depth, PyData.shown]
    exact ReprK.tuple h1 h2 h3 nin hk
  | _, _, _, .dict h1 h2 h3 h4 h5, hs, hz => by simp [okB] at hs
theorem reprK_all (hn : g₀.NoDigits) : ∀ {vs : List Value} {ds : List PyData} {as : List Addr}, ReadsAll g₀ vs ds as → okBAll ds = true → (∀ t ∈ PyData.shownAll ds, t.length ≤ sizeLine) →
    ∃ bs, ReadAtMost g₀ (PyData.depthAll ds) bs ∧ ReprAllK prog w bs g₀ (PyData.depthAll ds) vs (PyData.shownAll ds)
  | _, _, _, .nil, _, _ => ⟨[], (fun _ h => nomatch h), by simp only [PyData.shownAll]; exact .nil⟩
  | _, _, _, .cons (d := d) (ds := ds) r rs, hs, hz => by
    have hs2 : okB d = true ∧ okBAll ds = true := by simpa [okBAll] using hs
    obtain ⟨b1, hb1, k1⟩ := reprK_of hn r hs2.1 (hz _ (by simp only [PyData.shownAll]; exact List.mem_cons_self ..))
    obtain ⟨b2, hb2, k2⟩ := reprK_all hn rs hs2.2 (fun t ht => hz t (by simp only [PyData.shownAll]; exact List.mem_cons_of_mem _ ht))
    refine ⟨b1 ++ b2, ?_, ?_⟩
    · simp only [PyData.depthAll]
      exact (hb1.mono (Nat.le_max_left _ _)).append (hb2.mono (Nat.le_max_right _ _))
    · simp only [PyData.depthAll, PyData.shownAll]
      exact .cons ((k1.more fun b hb => List.mem_append_left _ hb).level_le (Nat.le_max_left _ _)) (k2.more_le (fun b hb => List.mem_append_right _ hb) (Nat.le_max_right _ _))
end
end
end GB
namespace L2
open PySem PySem.Spec PyProof.Rows GB
section
variable {X : Cx}
theorem Inv.nodigits {pins : List (Addr × Obj)} {σ : St} {H : Hp} {s : Shared} (I : Inv X pins σ H s) : s.heap.NoDigits := I.ok.mod.digits.keeps I.bk
def rReprB (K : PySem.W.Frag) : List V → Hp → VK → Prop := fun xs H Q => ∃ v d, xs = [v] ∧ Dp K H v d ∧ okB d = true ∧ d.depth ≤ 60 ∧ d.shown.length ≤ sizeLine ∧ Q (.str d.shown) H
end
end L2
namespace HT
open PySem PySem.Spec PyProof.Rows
section
variable {prog : Program} {w : World} {A : Around} {E : Value → Shared → Prop} {s : Shared}
theorem cat_tup0 {t b : Addr} {vs ws : List Value} {Q : Value → Shared → Prop} (ht : IsTup s.heap t vs.toArray) (hb : IsTup s.heap b ws.toArray) (hv : vs = []) (h1 : Q (.ref b) s) : wpAny (model prog w) A (binaryOp .Add (.ref t) (.ref b)) Q E s := by
  obtain ⟨⟨c1, d1, e1, l1⟩, ho, hc, n, hd⟩ := id ht
  obtain ⟨⟨c2, d2, e2, l2⟩, ho2, hc2, n2, hd2⟩ := id hb
  simp only at hc hd hc2 hd2
  subst hc hd hc2 hd2
  exact concat_meets ⟨_, ho, rfl⟩ ⟨_, ho2, rfl⟩ noFill_tuple_add seq_tuple_add PySem.F.slot_tuple_add PySem.F.entry_tuple_add (PySem.F.args_tuple_add_2 _ _) (tuple_addW0 t b vs.toArray ws.toArray n n2 d1 d2 l1 l2 (by simp [hv])) ⟨ho, ho2, h1⟩
end
end HT
namespace L2
open PySem PySem.Spec PyProof.Rows
section
variable {X : Cx}
def rCatG : R2 := fun x y H Q => ∃ a b xs ys, x = .ref a ∧ y = .ref b ∧ H a = some (.tup xs) ∧ H b = some (.tup ys) ∧ xs.length + ys.length ≤ sizeLine ∧ ∀ p H', Same H H' → H' p = some (.tup (xs ++ ys)) → Q (.ref p) H'
def rSlG : V → Option Int → Option Int → Hp → VK → Prop := fun x lo hi H Q => ∃ a xs, x = .ref a ∧ H a = some (.tup xs) ∧ ∀ p H', Same H H' → H' p = some (.tup (cutV xs lo hi)) → Q (.ref p) H'
def tRev (te : TE) : TE := fun σ H Q => te σ H fun x H1 => ∃ a xs, x = .ref a ∧ H1 a = some (.tup xs) ∧ ∀ p H', Same H1 H' → H' p = some (.tup xs.reverse) → Q (.ref p) H'
end
end L2
namespace GB
open PySem L2 PyProof.Rows
mutual
inductive Dx (H : Hp) : V → PyData → Prop
  | non : Dx H .non .none
  | bl (b : Bool) : Dx H (.bl b) (.bool b)
  | int (i : Int) : Dx H (.int i) (.int i)
  | str (x : Str) : Dx H (.str x) (.str x)
  | lst {a : Addr} {xs : List V} {ds : List PyData} : H a = some (.lst xs) → DxAll H xs ds → Dx H (.ref a) (.list ds)
  | tup {a : Addr} {xs : List V} {ds : List PyData} : H a = some (.tup xs) → DxAll H xs ds → Dx H (.ref a) (.tuple ds)
  | dct {a : Addr} {kvs : List (Key × V)} {ds : List (PyData × PyData)} : H a = some (.dK kvs) → DxKv H kvs ds → Dx H (.ref a) (.dict ds)
inductive DxAll (H : Hp) : List V → List PyData → Prop
  | nil : DxAll H [] []
  | cons {v : V} {vs : List V} {d : PyData} {ds : List PyData} : Dx H v d → DxAll H vs ds → DxAll H (v :: vs) (d :: ds)
inductive DxKv (H : Hp) : List (Key × V) → List (PyData × PyData) → Prop
  | nil : DxKv H [] []
  | cons {k : Int} {v : V} {d : PyData} {kvs : List (Key × V)} {ds : List (PyData × PyData)} : Dx H v d → DxKv H kvs ds → DxKv H ((.inl k, v) :: kvs) ((.int k, d) :: ds)
end
mutual
theorem Dx.same {H H' : Hp} (e : Same H H') : ∀ {d : PyData} {v : V}, Dx H v d → Dx H' v d
  | .none, _, h => by cases h; exact .non
  | .bool b, _, h => by cases h; exact .bl b
  | .int i, _, h => by cases h; exact .int i
  | .str x, _, h => by cases h; exact .str x
  | .list ds, _, h => by
    cases h with
    | lst hs ha => exact .lst (e _ _ hs) (DxAll.same e ha)
  | .tuple ds, _, h => by
    cases h with
    | tup hs ha => exact .tup (e _ _ hs) (DxAll.same e ha)
  | .dict ds, _, h => by
    cases h with
    | dct hs ha => exact .dct (e _ _ hs) (DxKv.same e ha)
theorem DxAll.same {H H' : Hp} (e : Same H H') : ∀ {ds : List PyData} {vs : List V}, DxAll H vs ds → DxAll H' vs ds
  | [], _, h => by cases h; exact .nil
  | d :: ds, _, h => by
    cases h with
    | cons h1 h2 => exact .cons (Dx.same e h1) (DxAll.same e h2)
theorem DxKv.same {H H' : Hp} (e : Same H H') : ∀ {ds : List (PyData × PyData)} {kvs : List (Key × V)}, DxKv H kvs ds → DxKv H' kvs ds
  | [], _, h => by cases h; exact .nil
  | (_, d) :: ds, _, h => by
    cases h with
    | cons h1 h2 => exact .cons (Dx.same e h1) (DxKv.same e h2)
end
mutual
def okX : PyData → Bool
  | .none => true
  | .bool _ => true
  | .str _ => true
  | .int i => decide (i.natAbs.log2 < 12900)
  | .list xs => okXAll xs
  | .tuple xs => okXAll xs
  | .dict kvs => okXKv kvs
def okXAll : List PyData → Bool
  | [] => true
  | x :: xs => okX x && okXAll xs
def okXKv : List (PyData × PyData) → Bool
  | [] => true
  | (k, v) :: r => okX k && okX v && okXKv r
end
theorem okXKv_split : ∀ kvs : List (PyData × PyData), okXKv kvs = true → okXAll (kvs.map (·.1)) = true ∧ okXAll (kvs.map (·.2)) = true
  | [], _ => ⟨rfl, rfl⟩
  | (k, v) :: r, h => by
    have h' : (okX k = true ∧ okX v = true) ∧ okXKv r = true := by simpa [okXKv] using h
    obtain ⟨a, b⟩ := okXKv_split r h'.2
    exact ⟨by simp [okXAll, h'.1.1, a], by simp [okXAll, h'.1.2, b]⟩
section
variable {X : Cx} {pins : List (Addr × Obj)} {σ : L2.St} {H : Hp} {s : Shared}
theorem kv_vals {kvs : List (Key × V)} {vs : List (Key × Value)} (r : KV kvs vs) : Vals (kvs.map (·.2)) (vs.map (·.2)) := by
  unfold KV at r
  induction r with
  | nil => exact .nil
  | cons h t ih => exact .cons h.2 ih
inductive KeysAre : List Value → List PyData → Prop
  | nil : KeysAre [] []
  | cons {k : Int} {t : Tok} {us : List Value} {ds : List PyData} : KeysAre us ds → KeysAre (.int k t :: us) (.int k :: ds)
theorem keysX {P : Program} {w : World} : ∀ {ds : List (PyData × PyData)} {kvs : List (Key × V)} {vs : List (Key × Value)} {es : List DictEntry}, DxKv H kvs ds → KV kvs vs → Pairs (mixKind P w) es vs →
    ∃ _ : True, KeysAre (es.map (·.key)) (ds.map (·.1)) ∧ es.map (·.val) = vs.map (·.2)
  | [], _, _, _, h, r, p => by
    cases h
    cases r
    cases p
    exact ⟨trivial, .nil, rfl⟩
  | (_, d) :: ds, _, _, _, h, r, p => by
    cases h with
    | @cons k v _ kvs _ h1 h2 =>
      cases r with
      | cons r1 r2 =>
        cases p with
        | cons p1 p2 p3 =>
          obtain ⟨_, e1, e2⟩ := keysX h2 r2 p3
          rw [← r1.1] at p1
          rcases keyIs_shape (k := Sum.inl k) p1 with ⟨i, t, f1, f2⟩ | ⟨x, t, f1, f2⟩
          · cases f1
            refine ⟨trivial, ?_, ?_⟩
            · rw [List.map_cons, List.map_cons, f2]
              exact .cons e1
            · rw [List.map_cons, List.map_cons, p2, e2]
          · cases f1
theorem keysR (I : Inv X pins σ H s) : ∀ {us : List Value} {ds : List PyData}, KeysAre us ds → okXAll ds = true → (∀ t ∈ PyData.shownAll ds, t.length ≤ sizeLine) →
    ∃ bs, ReadAtMost s.heap (PyData.depthAll ds) bs ∧ ReadsAll s.heap us ds [] ∧ ReprAllK X.prog X.w bs s.heap (PyData.depthAll ds) us (PyData.shownAll ds)
  | _, _, .nil, _, _ => ⟨[], (fun _ h => nomatch h), .nil, by simp only [PyData.shownAll]; exact .nil⟩
  | _, _, .cons (k := k) (t := t) (us := us) (ds := ds) r, hs, hz => by
    have hs2 : k.natAbs.log2 < 12900 ∧ okXAll ds = true := by simpa [okXAll, okX] using hs
    obtain ⟨bs, hb, q, kk⟩ := keysR I r hs2.2 (fun t ht => hz t (by simp only [PyData.shownAll]; exact List.mem_cons_of_mem _ ht))
    refine ⟨bs, hb.mono (by simp only [PyData.depthAll]; omega), .cons (as := []) (.int k t) q, ?_⟩
    simp only [PyData.depthAll, PyData.shownAll, PyData.shown]
    exact .cons (reprK_int hs2.1 I.nodigits _ _) (kk.more_le (fun b hb => hb) (by omega))
mutual
theorem reprX (I : Inv X pins σ H s) : ∀ (d : PyData) (v : V) (u : Value), Dx H v d → RelV v u → okX d = true → d.shown.length ≤ sizeLine → ∃ as bs, Reads s.heap u d as ∧ ReadAtMost s.heap d.depth bs ∧ ReprK X.prog X.w bs s.heap d.depth u d.shown
  | .none, _, _, h, r, _, _ => by
    cases h
    cases r
    exact ⟨_, [], .none, (fun _ h => nomatch h), by simp only [PyData.shown]; exact .of_is ReprIs.none _ _ _⟩
  | .bool b, _, _, h, r, _, _ => by
    cases h
    cases r
    exact ⟨_, [], .bool b, (fun _ h => nomatch h), by simp only [PyData.shown]; exact .of_is (ReprIs.bool b) _ _ _⟩
  | .int i, _, _, h, r, hs, _ => by
    cases h
    obtain ⟨t, rfl⟩ := r
    exact ⟨_, [], .int i t, (fun _ h => nomatch h), by simp only [PyData.shown]; exact reprK_int (by simpa [okX] using hs) I.nodigits _ _⟩
  | .str x, _, _, h, r, _, hz => by
    cases h
    obtain ⟨t, rfl⟩ := r
    exact ⟨_, [], .str x t, (fun _ h => nomatch h), by simp only [PyData.shown]; exact .of_is (ReprIs.str x t (by simpa only [PyData.shown] using hz)) _ _ _⟩
  | .list ds, _, _, h, r, hs, hz => by
    cases h with
    | @lst a xs _ ha hd =>
      cases r
      obtain ⟨its, rv, ⟨o, n, ho, hc, _, hdt⟩, _⟩ := I.list (SqL.of ha)
      have hz2 : (listText (PyData.shownAll ds)).length ≤ sizeLine := by simpa only [PyData.shown] using hz
      obtain ⟨as, bs, hr, hb, hk⟩ := reprXAll I ds _ its hd rv (by simpa [okX] using hs) (fun t ht => Nat.le_trans (listText_mem_le ht) hz2)
      have rd : Reads s.heap (.ref a) (.list ds) _ := .list ho hc hdt hr
      have nin : a ∉ bs := not_mem_of_deeper rd (by simp only [PyData.depth]; omega) hb
      refine ⟨_, a :: bs, rd, ReadAtMost.cons rd (by simp only [PyData.depth]; omega) hb, ?_⟩
      simp only [PyData.depth, PyData.shown]
      cases its with
      | nil =>
        cases hr
        simp only [PyData.shownAll, listText_nil]
        exact ReprK.listEmpty ho hc hdt
      | cons x l => exact ReprK.list ho hc hdt nin (by simpa using hk.length_eq) (fun i y e => hk.item i y (by simpa using e))
  | .tuple ds, _, _, h, r, hs, hz => by
    cases h with
    | @tup a xs _ ha hd =>
      cases r
      obtain ⟨its, rv, ⟨o, ho, hc, n, hdt⟩, _⟩ := I.tuple (SqT.of ha)
      have hz2 : (tupleText (PyData.shownAll ds)).length ≤ sizeLine := by simpa only [PyData.shown] using hz
      obtain ⟨as, bs, hr, hb, hk⟩ := reprXAll I ds _ its hd rv (by simpa [okX] using hs) (fun t ht => Nat.le_trans (tupleText_mem_le ht) hz2)
      have rd : Reads s.heap (.ref a) (.tuple ds) _ := .tuple ho hc hdt hr
      have nin : a ∉ bs := not_mem_of_deeper rd (by simp only [PyData.depth]; omega) hb
      refine ⟨_, a :: bs, rd, ReadAtMost.cons rd (by simp only [PyData.depth]; omega) hb, ?_⟩
      simp only [PyData.depth, PyData.shown]
      exact ReprK.tuple ho hc hdt nin (by simpa using hk)
  | .dict ds, _, _, h, r, hs, hz => by
    cases h with
    | @dct a kvs _ ha hd =>
      cases r
      obtain ⟨_, hsys, vs, kv, o, es, ep, ho, hc, hdt, hes⟩ := (show ObjOk X.prog X.w H s.heap a (.dK kvs) from I.hok a _ ha)
      have hz2 : (dictText (PyData.shownKv ds)).length ≤ sizeLine := by simpa only [PyData.shown] using hz
      obtain ⟨ok1, ok2⟩ := okXKv_split ds (by simpa [okX] using hs)
      obtain ⟨hks, hps, hnd⟩ := hes
      obtain ⟨ks, e1, e2⟩ := keysX hd kv hps
      obtain ⟨b1, hb1, rk1, k1⟩ := keysR (X := X) (s := s) I e1 ok1 (fun t ht => let ⟨p, hp, hl⟩ := PyData.shownKv_key_le ds t ht; Nat.le_trans hl (Nat.le_trans (dictText_mem_le hp) hz2))
      obtain ⟨a2, b2, q2, hb2, k2⟩ := reprXKv I ds _ _ hd (kv_vals kv) ok2 (fun t ht => let ⟨p, hp, hl⟩ := PyData.shownKv_val_le ds t ht; Nat.le_trans hl (Nat.le_trans (dictText_mem_le hp) hz2))
      rw [← e2] at q2 k2
      have rd : Reads s.heap (.ref a) (.dict ds) _ := .dict ho hc.1 hdt rk1 q2
      have hb : ReadAtMost s.heap (PyData.depthKv ds) (b1 ++ b2) := (hb1.mono (PyData.depthAll_keys_le ds)).append (hb2.mono (PyData.depthAll_vals_le ds))
      have nin : a ∉ b1 ++ b2 := not_mem_of_deeper rd (by simp only [PyData.depth]; omega) hb
      refine ⟨_, a :: (b1 ++ b2), rd, ReadAtMost.cons rd (by simp only [PyData.depth]; omega) hb, ?_⟩
      simp only [PyData.depth, PyData.shown, PyData.shownKv_eq]
      exact ReprK.dict ho hc.1 hdt hsys nin (ReprEntriesK.of_two es.toList _ _ (k1.more_le (fun b hb => List.mem_append_left _ hb) (PyData.depthAll_keys_le ds)) (k2.more_le (fun b hb => List.mem_append_right _ hb) (PyData.depthAll_vals_le ds)))
theorem reprXKv (I : Inv X pins σ H s) : ∀ (ds : List (PyData × PyData)) (kvs : List (Key × V)) (us : List Value), DxKv H kvs ds → Vals (kvs.map (·.2)) us → okXAll (ds.map (·.2)) = true → (∀ t ∈ PyData.shownAll (ds.map (·.2)), t.length ≤ sizeLine) →
    ∃ as bs, ReadsAll s.heap us (ds.map (·.2)) as ∧ ReadAtMost s.heap (PyData.depthAll (ds.map (·.2))) bs ∧ ReprAllK X.prog X.w bs s.heap (PyData.depthAll (ds.map (·.2))) us (PyData.shownAll (ds.map (·.2)))
  | [], _, _, h, r, _, _ => by
    cases h
    cases r
    exact ⟨_, [], .nil, (fun _ h => nomatch h), by simp only [List.map_nil, PyData.shownAll]; exact .nil⟩
  | (_, d) :: ds, _, _, h, r, hs, hz => by
    cases h with
    | cons h1 h2 =>
      cases r with
      | cons r1 r2 =>
        have hs2 : okX d = true ∧ okXAll (ds.map (·.2)) = true := by simpa [okXAll] using hs
        obtain ⟨a1, b1, q1, hb1, k1⟩ := reprX I d _ _ h1 r1 hs2.1 (hz _ (by simp only [List.map_cons, PyData.shownAll]; exact List.mem_cons_self ..))
        obtain ⟨a2, b2, q2, hb2, k2⟩ := reprXKv I ds _ _ h2 r2 hs2.2 (fun t ht => hz t (by simp only [List.map_cons, PyData.shownAll]; exact List.mem_cons_of_mem _ ht))
        refine ⟨_, b1 ++ b2, .cons q1 q2, ?_, ?_⟩
        · simp only [List.map_cons, PyData.depthAll]
          exact (hb1.mono (Nat.le_max_left _ _)).append (hb2.mono (Nat.le_max_right _ _))
        · simp only [List.map_cons, PyData.depthAll, PyData.shownAll]
          exact .cons ((k1.more fun b hb => List.mem_append_left _ hb).level_le (Nat.le_max_left _ _)) (k2.more_le (fun b hb => List.mem_append_right _ hb) (Nat.le_max_right _ _))
theorem reprXAll (I : Inv X pins σ H s) : ∀ (ds : List PyData) (vs : List V) (us : List Value), DxAll H vs ds → Vals vs us → okXAll ds = true → (∀ t ∈ PyData.shownAll ds, t.length ≤ sizeLine) →
    ∃ as bs, ReadsAll s.heap us ds as ∧ ReadAtMost s.heap (PyData.depthAll ds) bs ∧ ReprAllK X.prog X.w bs s.heap (PyData.depthAll ds) us (PyData.shownAll ds)
  | [], _, _, h, r, _, _ => by
    cases h
    cases r
    exact ⟨_, [], .nil, (fun _ h => nomatch h), by simp only [PyData.shownAll]; exact .nil⟩
  | d :: ds, _, _, h, r, hs, hz => by
    cases h with
    | cons h1 h2 =>
      cases r with
      | cons r1 r2 =>
        have hs2 : okX d = true ∧ okXAll ds = true := by simpa [okXAll] using hs
        obtain ⟨a1, b1, q1, hb1, k1⟩ := reprX I d _ _ h1 r1 hs2.1 (hz _ (by simp only [PyData.shownAll]; exact List.mem_cons_self ..))
        obtain ⟨a2, b2, q2, hb2, k2⟩ := reprXAll I ds _ _ h2 r2 hs2.2 (fun t ht => hz t (by simp only [PyData.shownAll]; exact List.mem_cons_of_mem _ ht))
        refine ⟨_, b1 ++ b2, .cons q1 q2, ?_, ?_⟩
        · simp only [PyData.depthAll]
          exact (hb1.mono (Nat.le_max_left _ _)).append (hb2.mono (Nat.le_max_right _ _))
        · simp only [PyData.depthAll, PyData.shownAll]
          exact .cons ((k1.more fun b hb => List.mem_append_left _ hb).level_le (Nat.le_max_left _ _)) (k2.more_le (fun b hb => List.mem_append_right _ hb) (Nat.le_max_right _ _))
end
def rReprX : List V → Hp → VK → Prop := fun xs H Q => ∃ v d, xs = [v] ∧ Dx H v d ∧ okX d = true ∧ d.depth ≤ 60 ∧ d.shown.length ≤ sizeLine ∧ Q (.str d.shown) H
end
end GB
namespace L2
open PySem PySem.Spec PyProof.Rows
end L2
namespace GB
open PySem L2
def tyN : PyData → String
  | .none => "NoneType"
  | .bool _ => "bool"
  | .int _ => "int"
  | .str _ => "str"
  | .list _ => "list"
  | .tuple _ => "tuple"
  | .dict _ => "dict"
def isTup : PyData → Bool
  | .tuple _ => true
  | _ => false
def isInt : PyData → Bool
  | .int _ => true
  | .bool _ => true
  | _ => false
def isBool : PyData → Bool
  | .bool _ => true
  | _ => false
end GB
namespace PySem
open Sem (wp)
open AutoSeq1 (wpAny_loadPart')
section
variable {prog : Program} {w : World} {A : Around} {E : Value → Shared → Prop} {s : Shared}
theorem nextOfT_item {jt tp : Addr} {i : Nat} {itms : Array Value} {y : Value} {Q : Value → Shared → Prop} (hj : s.heap.IsTupleIter jt tp i) (ht : s.heap.IsTuple tp itms) (hy : itms[i]? = some y)
    (hQ : ∀ h', h'.IsTupleIter jt tp (i + 1) → Heap.SameBut jt s.heap h' → Q y { s with heap := h' }) : wpAny (model prog w) A (Builtin.SmallTypes.nextOf (.ref jt)) Q E s := by
  obtain ⟨ob, hob, hcl, hdt⟩ := id hj
  obtain ⟨ot, hot, _, nt, hdt2⟩ := ht
  unfold Builtin.SmallTypes.nextOf
  refine wpAny_bind (wpAny_callSpecial?_slot (name := Str.ofString "__next__") hj.typeIs F.slot_tuple_iterator_next (wpAny_call_entry F.slot_tuple_iterator_next hj.typeIs F.entry_tuple_iterator_next ?_ (F.args_tuple_iterator_next_1 _)))
  show wpAny _ _ (field (.ref jt) 0 >>= _) _ _ s
  refine wpAny_bind (wpAny_field hob hdt (x := .ref tp) rfl ?_)
  show wpAny _ _ (if (Value.ref tp == Value.none) = true then _ else _) _ _ s
  rw [if_neg (show ¬ ((Value.ref tp == Value.none) = true) from Bool.false_ne_true)]
  show wpAny _ _ (field (.ref jt) 1 >>= _) _ _ s
  refine wpAny_bind (wpAny_field hob hdt (x := .int i 0) rfl ?_)
  show wpAny _ _ (seqItems? (.ref tp) >>= _) _ _ s
  refine wpAny_bind (wpAny_seqItems hot hdt2 ?_)
  simp only [Int.toNat_natCast, hy]
  refine wpAny_bind (wpAny_setField hob hdt (by simp) (wpAny_pure ⟨y, rfl, wpAny_pure (hQ _ ?_ (Heap.SameBut.update ..))⟩))
  refine ⟨_, Heap.get?_update_self _ hob (Obj.isFreed_of_fields (Obj.data_mapFields hdt _)), (Obj.cls_mapFields ..).trans hcl, ?_⟩
  rw [Obj.data_mapFields hdt]
  simp [rawInt]
theorem nextOfT_end {jt tp : Addr} {i : Nat} {itms : Array Value} {Q : Value → Shared → Prop} (hA : A.handled = none) (hj : s.heap.IsTupleIter jt tp i) (ht : s.heap.IsTuple tp itms) (hy : itms[i]? = none)
    (hE : ∀ h' e, Heap.ExtBut jt s.heap h' → (∃ o, h'.get? e = some o ∧ o.cls = .type "StopIteration") → E (.ref e) { s with heap := h' }) : wpAny (model prog w) A (Builtin.SmallTypes.nextOf (.ref jt)) Q E s := by
  obtain ⟨ob, hob, hcl, hdt⟩ := id hj
  obtain ⟨ot, hot, _, nt, hdt2⟩ := ht
  unfold Builtin.SmallTypes.nextOf
  refine wpAny_bind (wpAny_callSpecial?_slot (name := Str.ofString "__next__") hj.typeIs F.slot_tuple_iterator_next (wpAny_call_entry F.slot_tuple_iterator_next hj.typeIs F.entry_tuple_iterator_next ?_ (F.args_tuple_iterator_next_1 _)))
  show wpAny _ _ (field (.ref jt) 0 >>= _) _ _ s
  refine wpAny_bind (wpAny_field hob hdt (x := .ref tp) rfl ?_)
  show wpAny _ _ (if (Value.ref tp == Value.none) = true then _ else _) _ _ s
  rw [if_neg (show ¬ ((Value.ref tp == Value.none) = true) from Bool.false_ne_true)]
  show wpAny _ _ (field (.ref jt) 1 >>= _) _ _ s
  refine wpAny_bind (wpAny_field hob hdt (x := .int i 0) rfl ?_)
  show wpAny _ _ (seqItems? (.ref tp) >>= _) _ _ s
  refine wpAny_bind (wpAny_seqItems hot hdt2 ?_)
  simp only [Int.toNat_natCast, hy]
  refine wpAny_bind (wpAny_rule (wpAny_bind (wpAny_setField hob hdt (by simp) ?_)))
  show wpAny _ _ (newExc (Value.type "StopIteration") [] >>= _) _ _ _
  refine wpAny_bind ?_
  simp only [newExc, newTuple]
  refine wpAny_bind (wpAny_newObj_type ?_ (by size_fits))
  refine wpAny_bind (m := firstArgMember _ _) (wpAny_of_eq (a := Value.none) (by first | rfl | (simp only [firstArgMember] ; rfl)) ?_)
  refine wpAny_newObj_type ?_ (by size_fits)
  simp only [raiseNew]
  refine wpAny_bind (wpAny_handled ?_)
  first | rw [show A.in1.handled = none from hA] | rw [hA]
  refine wpAny_bind (wpAny_pure (wpAny_throw ?_))
  exact hE _ _ (((Heap.SameBut.update ..).extBut.push _).push _) ⟨_, Heap.get?_push_size _ rfl, rfl⟩
end
end PySem
namespace L2
open PySem PySem.Spec PyProof.Rows
def IteT (K : PySem.W.Frag) (a : Addr) : It :=
  ⟨fun i H => ∃ (xs : List V) (x : V), SqT K H a xs ∧ xs[i]? = some x, fun i H v H' => ∃ T x, v = .ref T ∧ H T = none ∧ H' = upd H T (.tup [.int (i : Nat), x]) ∧ ∀ xs, SqT K H a xs → xs[i]? = some x, fun i H => ∃ xs : List V, SqT K H a xs ∧ xs.length ≤ i⟩
def iEnumT (K : PySem.W.Frag) (ta : TA) : TI := fun σ H R => ta σ H fun vs H1 => ∃ a xs, vs = [.ref a] ∧ SqT K H1 a xs ∧ R (IteT K a) H1
end L2
namespace GB
theorem den_ne (r : Rat) : (r.den : Rat) ≠ 0 := by
  have := r.den_nz
  simpa using this
theorem num_eq (r : Rat) : (r.num : Rat) = r * (r.den : Rat) := by
  have h := Rat.num_divInt_den r
  rw [Rat.divInt_eq_div] at h
  have d := den_ne r
  have e : ((r.den : Int) : Rat) = (r.den : Rat) := Rat.intCast_natCast _
  rw [e] at h
  grind
theorem rat_of {n d : Int} {r : Rat} (hd : 0 < d) (hg : Int.gcd n d = 1) (e : (n : Rat) = r * (d : Rat)) : r.num = n ∧ (r.den : Int) = d := by
  have hd0 : (d : Rat) ≠ 0 := by
    intro z
    have : d = 0 := by simpa using z
    omega
  have hr : r = (n : Rat) / (d : Rat) := by grind
  have nz : d.toNat ≠ 0 := by omega
  have hc : n.natAbs.Coprime d.toNat := by
    have : d.toNat = d.natAbs := by omega
    rw [this]
    exact hg
  have h2 : (Rat.mk' n d.toNat nz hc) = r := by
    rw [Rat.mk_eq_divInt, Rat.divInt_eq_div, hr]
    have : ((d.toNat : Int)) = d := by omega
    rw [this]
  rw [← h2]
  exact ⟨rfl, by show ((d.toNat : Int)) = d; omega⟩
def sg (t b : Int) : Int := if b < 0 then -(Int.gcd t b : Int) else Int.gcd t b
def lo1 (t b : Int) : Int := t.fdiv (sg t b)
def lo2 (t b : Int) : Int := b.fdiv (sg t b)
theorem sg_ne {t b : Int} (h : b ≠ 0) : sg t b ≠ 0 := by
  have h1 : Int.gcd t b ≠ 0 := fun z => h (Int.gcd_eq_zero_iff.mp z).2
  unfold sg
  split <;> omega
theorem sg_dvd1 (t b : Int) : sg t b ∣ t := by
  unfold sg
  split
  · exact (Int.neg_dvd).mpr (Int.gcd_dvd_left ..)
  · exact Int.gcd_dvd_left ..
theorem sg_dvd2 (t b : Int) : sg t b ∣ b := by
  unfold sg
  split
  · exact (Int.neg_dvd).mpr (Int.gcd_dvd_right ..)
  · exact Int.gcd_dvd_right ..
theorem fdiv_mul {x s : Int} (h : s ∣ x) : x.fdiv s * s = x := by
  rw [Int.fdiv_eq_ediv_of_dvd h]
  exact Int.ediv_mul_cancel h
theorem lo1_mul (t b : Int) : lo1 t b * sg t b = t := fdiv_mul (sg_dvd1 t b)
theorem lo2_mul (t b : Int) : lo2 t b * sg t b = b := fdiv_mul (sg_dvd2 t b)
theorem abs_le_of_mul {x s t : Int} (e : x * s = t) (hs : s ≠ 0) : x.natAbs ≤ t.natAbs := by
  rw [← e, Int.natAbs_mul]
  exact Nat.le_mul_of_pos_right _ (Int.natAbs_pos.mpr hs)
theorem lo1_le {t b : Int} (h : b ≠ 0) : (lo1 t b).natAbs ≤ t.natAbs := abs_le_of_mul (lo1_mul t b) (sg_ne h)
theorem lo2_le {t b : Int} (h : b ≠ 0) : (lo2 t b).natAbs ≤ b.natAbs := abs_le_of_mul (lo2_mul t b) (sg_ne h)
theorem lo2_ne {t b : Int} (h : b ≠ 0) : lo2 t b ≠ 0 := fun z => h (by rw [← lo2_mul t b, z, Int.zero_mul])
theorem sg_abs (t b : Int) : (sg t b).natAbs = Int.gcd t b := by
  unfold sg
  split <;> simp
theorem gcd_step {a b : Int} (hb : 0 < b) : Int.gcd b (a % b) = Int.gcd a b := by
  rw [Int.gcd_comm b (a % b), Int.emod_def]
  simp
theorem cancel_gcd {x y s : Int} (hs : s ≠ 0) (h : Int.gcd (x * s) (y * s) = s.natAbs) : Int.gcd x y = 1 := by
  rw [Int.gcd_mul_right] at h
  have : 0 < s.natAbs := Int.natAbs_pos.mpr hs
  exact Nat.eq_of_mul_eq_mul_right this (by rw [h]; simp)
theorem lo_gcd {t b : Int} (h : b ≠ 0) : Int.gcd (lo1 t b) (lo2 t b) = 1 := by
  refine cancel_gcd (sg_ne (t := t) h) ?_
  rw [lo1_mul, lo2_mul, sg_abs]
theorem lo2_pos {t b : Int} (h : b ≠ 0) : 0 < lo2 t b := by
  have e := lo2_mul t b
  have hg : 0 < (Int.gcd t b : Int) := by
    have h1 : Int.gcd t b ≠ 0 := fun z => h (Int.gcd_eq_zero_iff.mp z).2
    omega
  rcases Int.lt_or_le (lo2 t b) 1 with h1 | h1
  · exfalso
    unfold sg at e
    by_cases hb : b < 0
    · rw [if_pos hb] at e
      have : 0 ≤ lo2 t b * -(Int.gcd t b : Int) := Int.mul_nonneg_of_nonpos_of_nonpos (by omega) (by omega)
      omega
    · rw [if_neg hb] at e
      have : lo2 t b * (Int.gcd t b : Int) ≤ 0 := Int.mul_nonpos_of_nonpos_of_nonneg (by omega) (by omega)
      omega
  · omega
theorem int_ne {b : Int} (h : b ≠ 0) : (b : Rat) ≠ 0 := fun z => h (by simpa using z)
theorem low_rat {t b : Int} (h : b ≠ 0) : ((t : Rat) / (b : Rat)).num = lo1 t b ∧ ((((t : Rat) / (b : Rat)).den : Nat) : Int) = lo2 t b := by
  refine rat_of (lo2_pos h) (lo_gcd h) ?_
  have e1 : (t : Rat) = (lo1 t b : Rat) * (sg t b : Rat) := by rw [← Rat.intCast_mul, lo1_mul]
  have e2 : (b : Rat) = (lo2 t b : Rat) * (sg t b : Rat) := by rw [← Rat.intCast_mul, lo2_mul]
  have hs := int_ne (sg_ne (t := t) h)
  have hb := int_ne h
  have h2 := int_ne (lo2_ne (t := t) h)
  grind
theorem cop (r : Rat) : Int.gcd r.num (r.den : Int) = 1 := by
  have := r.reduced
  simpa [Int.gcd] using this
theorem pos_den (r : Rat) : (0 : Int) < (r.den : Int) := by
  have := r.den_nz
  omega
theorem ic_mulR {x y z : Int} (h : Int.gcd x y = 1) (g : Int.gcd x z = 1) : Int.gcd x (y * z) = 1 := by
  unfold Int.gcd at *
  rw [Int.natAbs_mul]
  exact Nat.Coprime.mul_right h g
theorem ic_comm {x y : Int} (h : Int.gcd x y = 1) : Int.gcd y x = 1 := by rw [Int.gcd_comm]; exact h
theorem ic_mulL {x y z : Int} (h : Int.gcd x z = 1) (g : Int.gcd y z = 1) : Int.gcd (x * y) z = 1 := ic_comm (ic_mulR (ic_comm h) (ic_comm g))
theorem ic_dvdL {x k y : Int} (h : x ∣ k) (g : Int.gcd k y = 1) : Int.gcd x y = 1 := by
  unfold Int.gcd at *
  exact Nat.Coprime.coprime_dvd_left (Int.natAbs_dvd_natAbs.mpr h) g
theorem ic_dvdR {x k y : Int} (h : y ∣ k) (g : Int.gcd x k = 1) : Int.gcd x y = 1 := ic_comm (ic_dvdL h (ic_comm g))
theorem plus_rat (r s : Rat) : 
    let g : Int := Int.gcd (r.den : Int) (s.den : Int)
    let part := (r.den : Int).fdiv g
    let n := r.num * (s.den : Int).fdiv g + s.num * part
    let rest : Int := Int.gcd n g
    (r + s).num = n.fdiv rest ∧ ((r + s).den : Int) = part * (s.den : Int).fdiv rest := by
  intro g part n rest
  have hb := pos_den r
  have hd := pos_den s
  have hg0 : 0 < g := by
    have h1 : Int.gcd (r.den : Int) (s.den : Int) ≠ 0 := fun z => by have := (Int.gcd_eq_zero_iff.mp z).2; omega
    show (0 : Int) < (Int.gcd (r.den : Int) (s.den : Int) : Nat)
    omega
  have hr0 : 0 < rest := by
    have h1 : Int.gcd n g ≠ 0 := fun z => by have := (Int.gcd_eq_zero_iff.mp z).2; omega
    show (0 : Int) < (Int.gcd n g : Nat)
    omega
  have db : g ∣ (r.den : Int) := Int.gcd_dvd_left ..
  have dd : g ∣ (s.den : Int) := Int.gcd_dvd_right ..
  have dn : rest ∣ n := Int.gcd_dvd_left ..
  have dg : rest ∣ g := Int.gcd_dvd_right ..
  have drd : rest ∣ (s.den : Int) := Int.dvd_trans dg dd
  have eb : part * g = (r.den : Int) := fdiv_mul db
  have ed : (s.den : Int).fdiv g * g = (s.den : Int) := fdiv_mul dd
  have en : n.fdiv rest * rest = n := fdiv_mul dn
  have eg : g.fdiv rest * rest = g := fdiv_mul dg
  have er : (s.den : Int).fdiv rest * rest = (s.den : Int) := fdiv_mul drd
  have hn : n = r.num * (s.den : Int).fdiv g + s.num * part := rfl
  have hrest : Int.gcd n g = rest.natAbs := by show Int.gcd n g = (Int.gcd n g : Int).natAbs; simp
  clear_value n rest part
  generalize hd' : (s.den : Int).fdiv g = d' at *
  generalize hn' : n.fdiv rest = n' at *
  generalize hg' : g.fdiv rest = g' at *
  generalize hq : (s.den : Int).fdiv rest = q at *
  have q_eq : q = g' * d' := by
    have : q * rest = g' * d' * rest := by
      rw [er, ← ed, ← eg]
      grind
    exact Int.eq_of_mul_eq_mul_right (by omega) this
  have c1 : Int.gcd n' g' = 1 := cancel_gcd (s := rest) (by omega) (by rw [en, eg]; exact hrest)
  have c2 : Int.gcd part d' = 1 := cancel_gcd (s := g) (by omega) (by rw [eb, ed]; show Int.gcd _ _ = (Int.gcd _ _ : Int).natAbs; simp)
  have ca : Int.gcd r.num part = 1 := ic_dvdR ⟨g, eb.symm⟩ (cop r)
  have cc : Int.gcd s.num d' = 1 := ic_dvdR ⟨g, ed.symm⟩ (cop s)
  have nn : n' ∣ n := ⟨rest, en.symm⟩
  have k1 : Int.gcd n' part = 1 := ic_dvdL nn (by rw [hn, Int.gcd_add_mul_right_left]; exact ic_mulL ca (ic_comm c2))
  have k2 : Int.gcd n' d' = 1 := ic_dvdL nn (by rw [hn, Int.add_comm, Int.gcd_add_mul_right_left]; exact ic_mulL cc c2)
  have hq0 : 0 < q := by
    rcases Int.lt_or_le q 1 with h | h
    · have : q * rest ≤ 0 := Int.mul_nonpos_of_nonpos_of_nonneg (by omega) (by omega)
      omega
    · omega
  have hp0 : 0 < part := by
    rcases Int.lt_or_le part 1 with h | h
    · have : part * g ≤ 0 := Int.mul_nonpos_of_nonpos_of_nonneg (by omega) (by omega)
      omega
    · omega
  refine rat_of (Int.mul_pos hp0 hq0) (ic_mulR k1 (by rw [q_eq]; exact ic_mulR c1 k2)) ?_
  have f1 := num_eq r
  have f2 := num_eq s
  have z1 : ((r.den : Int) : Rat) = (part : Rat) * (g : Rat) := by rw [← Rat.intCast_mul, eb]
  have z2 : ((s.den : Int) : Rat) = (d' : Rat) * (g : Rat) := by rw [← Rat.intCast_mul, ed]
  have z3 : (n : Rat) = (n' : Rat) * (rest : Rat) := by rw [← Rat.intCast_mul, en]
  have z4 : ((s.den : Int) : Rat) = (q : Rat) * (rest : Rat) := by rw [← Rat.intCast_mul, er]
  have z5 : (n : Rat) = (r.num : Rat) * (d' : Rat) + (s.num : Rat) * (part : Rat) := by rw [hn, Rat.intCast_add, Rat.intCast_mul, Rat.intCast_mul]
  rw [Rat.intCast_natCast] at z1 z2 z4
  rw [f1, f2] at z5
  have y1 := int_ne (show rest ≠ 0 by omega)
  have y2 := int_ne (show g ≠ 0 by omega)
  rw [Rat.intCast_mul]
  generalize (part : Rat) = P at *
  generalize (g : Rat) = G at *
  generalize (d' : Rat) = D at *
  generalize (n' : Rat) = N at *
  generalize (rest : Rat) = R at *
  generalize (q : Rat) = Z at *
  generalize (n : Rat) = M at *
  generalize (r.den : Rat) = X at *
  generalize (s.den : Rat) = Y at *
  grind
theorem times_rat (r s : Rat) :
    let f : Int := Int.gcd r.num (s.den : Int)
    let e : Int := Int.gcd s.num (r.den : Int)
    (r * s).num = r.num.fdiv f * s.num.fdiv e ∧ ((r * s).den : Int) = (r.den : Int).fdiv e * (s.den : Int).fdiv f := by
  intro f e
  have hb := pos_den r
  have hd := pos_den s
  have hf0 : 0 < f := by
    have h1 : Int.gcd r.num (s.den : Int) ≠ 0 := fun z => by have := (Int.gcd_eq_zero_iff.mp z).2; omega
    show (0 : Int) < (Int.gcd r.num (s.den : Int) : Nat)
    omega
  have he0 : 0 < e := by
    have h1 : Int.gcd s.num (r.den : Int) ≠ 0 := fun z => by have := (Int.gcd_eq_zero_iff.mp z).2; omega
    show (0 : Int) < (Int.gcd s.num (r.den : Int) : Nat)
    omega
  have e1 : r.num.fdiv f * f = r.num := fdiv_mul (Int.gcd_dvd_left ..)
  have e2 : (s.den : Int).fdiv f * f = (s.den : Int) := fdiv_mul (Int.gcd_dvd_right ..)
  have e3 : s.num.fdiv e * e = s.num := fdiv_mul (Int.gcd_dvd_left ..)
  have e4 : (r.den : Int).fdiv e * e = (r.den : Int) := fdiv_mul (Int.gcd_dvd_right ..)
  generalize r.num.fdiv f = a at *
  generalize (s.den : Int).fdiv f = d at *
  generalize s.num.fdiv e = c at *
  generalize (r.den : Int).fdiv e = b at *
  have k1 : Int.gcd a d = 1 := cancel_gcd (s := f) (by omega) (by rw [e1, e2]; show Int.gcd _ _ = (Int.gcd _ _ : Int).natAbs; simp)
  have k2 : Int.gcd c b = 1 := cancel_gcd (s := e) (by omega) (by rw [e3, e4]; show Int.gcd _ _ = (Int.gcd _ _ : Int).natAbs; simp)
  have k3 : Int.gcd a b = 1 := ic_dvdL ⟨f, e1.symm⟩ (ic_dvdR ⟨e, e4.symm⟩ (cop r))
  have k4 : Int.gcd c d = 1 := ic_dvdL ⟨e, e3.symm⟩ (ic_dvdR ⟨f, e2.symm⟩ (cop s))
  have hb0 : 0 < b := by
    rcases Int.lt_or_le b 1 with h | h
    · have : b * e ≤ 0 := Int.mul_nonpos_of_nonpos_of_nonneg (by omega) (by omega)
      omega
    · omega
  have hd0 : 0 < d := by
    rcases Int.lt_or_le d 1 with h | h
    · have : d * f ≤ 0 := Int.mul_nonpos_of_nonpos_of_nonneg (by omega) (by omega)
      omega
    · omega
  refine rat_of (Int.mul_pos hb0 hd0) (ic_mulL (ic_mulR k3 k1) (ic_mulR k2 k4)) ?_
  have f1 := num_eq r
  have f2 := num_eq s
  have z1 : (r.num : Rat) = (a : Rat) * (f : Rat) := by rw [← Rat.intCast_mul, e1]
  have z2 : ((s.den : Int) : Rat) = (d : Rat) * (f : Rat) := by rw [← Rat.intCast_mul, e2]
  have z3 : (s.num : Rat) = (c : Rat) * (e : Rat) := by rw [← Rat.intCast_mul, e3]
  have z4 : ((r.den : Int) : Rat) = (b : Rat) * (e : Rat) := by rw [← Rat.intCast_mul, e4]
  rw [Rat.intCast_natCast] at z2 z4
  have y1 := int_ne (show f ≠ 0 by omega)
  have y2 := int_ne (show e ≠ 0 by omega)
  rw [Rat.intCast_mul, Rat.intCast_mul]
  generalize (a : Rat) = A at *
  generalize (b : Rat) = B at *
  generalize (c : Rat) = C at *
  generalize (d : Rat) = D at *
  generalize (f : Rat) = F at *
  generalize (e : Rat) = E at *
  generalize (r.den : Rat) = X at *
  generalize (s.den : Rat) = Y at *
  generalize (r.num : Rat) = U at *
  generalize (s.num : Rat) = W at *
  grind
theorem neg_rat (r : Rat) : (-r).num = -r.num ∧ ((-r).den : Int) = (r.den : Int) := ⟨Rat.neg_num r, by rw [Rat.neg_den]⟩
theorem lplus_rat (r s : Rat) : ((r.num * (s.den : Int) + s.num * (r.den : Int) : Int) : Rat) / (((r.den : Int) * (s.den : Int) : Int) : Rat) = r + s := by
  have f1 := num_eq r
  have f2 := num_eq s
  have d1 := den_ne r
  have d2 := den_ne s
  rw [Rat.intCast_add, Rat.intCast_mul, Rat.intCast_mul, Rat.intCast_mul, Rat.intCast_natCast, Rat.intCast_natCast, f1, f2]
  generalize (r.den : Rat) = X at *
  generalize (s.den : Rat) = Y at *
  grind
theorem ltimes_rat (r s : Rat) : ((r.num * s.num : Int) : Rat) / (((r.den : Int) * (s.den : Int) : Int) : Rat) = r * s := by
  have f1 := num_eq r
  have f2 := num_eq s
  have d1 := den_ne r
  have d2 := den_ne s
  rw [Rat.intCast_mul, Rat.intCast_mul, Rat.intCast_natCast, Rat.intCast_natCast, f1, f2]
  generalize (r.den : Rat) = X at *
  generalize (s.den : Rat) = Y at *
  grind
end GB
namespace GB
open PySem L2
def FrAt (H : Hp) (v : V) (n d : Int) : Prop := ∃ a, v = .ref a ∧ H a = some (.tup [.int n, .int d])
def feedL (c : Addr) (a l t : Int) : List (Key × V) := [(.inr "cells", .ref c), (.inr "at", .int a), (.inr "left", .int l), (.inr "turn", .int t)]
theorem k_ct : ¬ ((.inr "cells" : Key) = .inr "turn") := by decide +kernel
theorem k_at : ¬ ((.inr "at" : Key) = .inr "turn") := by decide +kernel
theorem k_lt : ¬ ((.inr "left" : Key) = .inr "turn") := by decide +kernel
theorem k_cl : ¬ ((.inr "cells" : Key) = .inr "left") := by decide +kernel
theorem k_al : ¬ ((.inr "at" : Key) = .inr "left") := by decide +kernel
theorem k_ca : ¬ ((.inr "cells" : Key) = .inr "at") := by decide +kernel
theorem feed_turn (c : Addr) (a l t : Int) : valV (feedL c a l t) (.inr "turn") = some (.int t) := by
  unfold feedL
  rw [valV_neg k_ct, valV_neg k_at, valV_neg k_lt, valV_pos rfl]
theorem feed_left (c : Addr) (a l t : Int) : valV (feedL c a l t) (.inr "left") = some (.int l) := by
  unfold feedL
  rw [valV_neg k_cl, valV_neg k_al, valV_pos rfl]
theorem feed_at (c : Addr) (a l t : Int) : valV (feedL c a l t) (.inr "at") = some (.int a) := by
  unfold feedL
  rw [valV_neg k_ca, valV_pos rfl]
theorem feed_cells (c : Addr) (a l t : Int) : valV (feedL c a l t) (.inr "cells") = some (.ref c) := by
  unfold feedL
  rw [valV_pos rfl]
theorem get_turn {H : Hp} {p c : Addr} {a l t : Int} (h : H p = some (.dK (feedL c a l t))) : DGet H p (.str "turn") (some (.int t)) := by
  have := DGet.k (k := .inr "turn") h
  rw [feed_turn] at this
  exact this
theorem get_left {H : Hp} {p c : Addr} {a l t : Int} (h : H p = some (.dK (feedL c a l t))) : DGet H p (.str "left") (some (.int l)) := by
  have := DGet.k (k := .inr "left") h
  rw [feed_left] at this
  exact this
theorem get_at {H : Hp} {p c : Addr} {a l t : Int} (h : H p = some (.dK (feedL c a l t))) : DGet H p (.str "at") (some (.int a)) := by
  have := DGet.k (k := .inr "at") h
  rw [feed_at] at this
  exact this
theorem get_cells {H : Hp} {p c : Addr} {a l t : Int} (h : H p = some (.dK (feedL c a l t))) : DGet H p (.str "cells") (some (.ref c)) := by
  have := DGet.k (k := .inr "cells") h
  rw [feed_cells] at this
  exact this
theorem put_turn (c : Addr) (a l t t' : Int) : putK (feedL c a l t) (.inr "turn") (.int t') = feedL c a l t' := by
  unfold putK
  rw [valV_any, feed_turn]
  unfold feedL
  simp only [Option.isSome_some, if_true, List.map_cons, List.map_nil]
  rw [if_neg (by decide +kernel), if_neg (by decide +kernel), if_neg (by decide +kernel)]
theorem put_left (c : Addr) (a l t l' : Int) : putK (feedL c a l t) (.inr "left") (.int l') = feedL c a l' t := by
  unfold putK
  rw [valV_any, feed_left]
  unfold feedL
  simp only [Option.isSome_some, if_true, List.map_cons, List.map_nil]
  rw [if_neg (by decide +kernel), if_neg (by decide +kernel), if_neg (by decide +kernel)]
theorem put_at (c : Addr) (a l t a' : Int) : putK (feedL c a l t) (.inr "at") (.int a') = feedL c a' l t := by
  unfold putK
  rw [valV_any, feed_at]
  unfold feedL
  simp only [Option.isSome_some, if_true, List.map_cons, List.map_nil]
  rw [if_neg (by decide +kernel), if_neg (by decide +kernel), if_neg (by decide +kernel)]
structure FeedAt (H : Hp) (p ce : Addr) (n : Int) : Prop where
  ex : ∃ (c : Addr) (a l t : Int) (cs : List Int), H p = some (.dK (feedL c a l t)) ∧ H c = some (.lst (cs.map V.int)) ∧ cs.length ≤ 63 ∧ 0 ≤ t ∧ t ≤ n ∧ c = ce
theorem FeedAt.mono {H : Hp} {p ce : Addr} {n m : Int} (F : FeedAt H p ce n) (h : n ≤ m) : FeedAt H p ce m := by
  obtain ⟨c, a, l, t, cs, h1, h2, h3, h4, h5, h6⟩ := F.ex
  exact ⟨c, a, l, t, cs, h1, h2, h3, h4, by omega, h6⟩
def SameX (p : Addr) (H H' : Hp) : Prop := ∀ b o, H b = some o → b ≠ p → H' b = some o
theorem SameX.refl (p : Addr) (H : Hp) : SameX p H H := fun _ _ h _ => h
theorem SameX.trans {p : Addr} {H H1 H2 : Hp} (a : SameX p H H1) (b : SameX p H1 H2) : SameX p H H2 := fun c o h n => b c o (a c o h n) n
theorem SameX.of {p : Addr} {H H' : Hp} (a : Same H H') : SameX p H H' := fun b o h _ => a b o h
theorem FeedAt.ne {H : Hp} {p ce : Addr} {n : Int} (F : FeedAt H p ce n) {a : Addr} {o : HO} (h : H a = some o) (ho : ∀ k, o ≠ .dK k) : a ≠ p := by
  obtain ⟨c, x, l, t, cs, h1, _⟩ := F.ex
  exact ne_of h h1 (ho _)
theorem FeedAt.tup {H H' : Hp} {p ce : Addr} {n : Int} (F : FeedAt H p ce n) (S : SameX p H H') {a : Addr} {xs : List V} (h : H a = some (.tup xs)) : H' a = some (.tup xs) := S _ _ h (F.ne h fun _ z => by cases z)
theorem FeedAt.lst {H H' : Hp} {p ce : Addr} {n : Int} (F : FeedAt H p ce n) (S : SameX p H H') {a : Addr} {xs : List V} (h : H a = some (.lst xs)) : H' a = some (.lst xs) := S _ _ h (F.ne h fun _ z => by cases z)
theorem FeedAt.fr {H H' : Hp} {p ce : Addr} {n : Int} (F : FeedAt H p ce n) (S : SameX p H H') {v : V} {x y : Int} (h : FrAt H v x y) : FrAt H' v x y := by
  obtain ⟨a, e, h⟩ := h
  exact ⟨a, e, F.tup S h⟩
theorem FeedAt.same {H H' : Hp} {p ce : Addr} {n : Int} (F : FeedAt H p ce n) (S : Same H H') : FeedAt H' p ce n := by
  obtain ⟨c, a, l, t, cs, h1, h2, h3⟩ := F.ex
  exact ⟨c, a, l, t, cs, S _ _ h1, S _ _ h2, h3⟩
theorem sameX_upd {p q : Addr} {H : Hp} {o : HO} (h : q = p ∨ H q = none) : SameX p H (upd H q o) := fun b u e n => by
  rcases h with rfl | h
  · rw [upd_ne n]; exact e
  · rw [upd_ne (ne_of_none e h)]; exact e
theorem dp_ints (K : PySem.W.Frag) (H : Hp) : ∀ cs : List Int, DpAll K H (cs.map V.int) (cs.map PyData.int)
  | [] => .nil
  | c :: cs => .cons (.int c) (dp_ints K H cs)
theorem lay_ints : ∀ cs : List Int, PyData.canLayAll0 (cs.map PyData.int) = true
  | [] => by simp [PyData.canLayAll0]
  | c :: cs => by simp [PyData.canLayAll0, PyData.canLay0, lay_ints cs]
theorem depth_ints : ∀ cs : List Int, PyData.depthAll (cs.map PyData.int) = 0
  | [] => by simp [PyData.depthAll]
  | c :: cs => by simp [PyData.depthAll, PyData.depth, depth_ints cs]
theorem shaped_ints (cs : List Int) : SeqAt.shaped (.list (cs.map PyData.int)) = true := by
  simp [SeqAt.shaped, PyData.canLay0, PyData.depth, lay_ints, depth_ints]
def sp_draw : Sp := fun vs H Q _ => ∃ (p ce : Addr) (m n : Int), vs = [.ref p, .int m] ∧ FeedAt H p ce n ∧ n < 1000000 ∧ 0 < m ∧ m < 2 ^ 64 ∧
  ∀ (r : Int) (H' : Hp), 0 ≤ r → r < m → FeedAt H' p ce (n + 1) → SameX p H H' → Q (.int r) H'
theorem mod_bd (x m : Int) (h : 0 < m) : 0 ≤ x % m ∧ x % m < m := ⟨Int.emod_nonneg _ (by omega), Int.emod_lt_of_pos _ h⟩
theorem pow_bound {x : Int} (h0 : 0 ≤ x) (h : x < 2 ^ 64) : x.natAbs < 2 ^ 64 := by omega
theorem mix_bd {m t : Int} (h0 : 0 ≤ m) (h1 : m < 2147483647) (h2 : 0 ≤ t) (h3 : t ≤ 1000000) : 0 ≤ m * (2 * t + 104729) + 69621 ∧ m * (2 * t + 104729) + 69621 < 2 ^ 64 := by
  have a : 0 ≤ m * (2 * t + 104729) := Int.mul_nonneg h0 (by omega)
  have b : m * (2 * t + 104729) ≤ 2147483647 * 2104729 := Int.mul_le_mul (by omega) (by omega) (by omega) (by omega)
  omega
section
variable {K : PySem.W.Frag}
def sp_feed (K : PySem.W.Frag) : Sp := fun vs H Q _ => ∃ (a : Addr) (ns : List Int), vs = [.ref a] ∧ SqL K H a (ns.map V.int) ∧ ∀ (p ce : Addr) (H' : Hp), FeedAt H' p ce 0 → H ce = none → Same H H' → Q (.ref p) H'
theorem cut_ints (ns : List Int) (lo hi : Option Int) : ∃ ms : List Int, cutV (ns.map V.int) lo hi = ms.map V.int ∧ ms.length ≤ (cutV (ns.map V.int) lo hi).length := by
  unfold cutV
  refine ⟨(ns.drop (HT.sIx (ns.map V.int).length 0 lo)).take (HT.sIx (ns.map V.int).length (ns.map V.int).length hi - HT.sIx (ns.map V.int).length 0 lo), ?_, ?_⟩
  · rw [List.map_take, List.map_drop]
  · rw [← List.map_drop, ← List.map_take]
    simp only [List.length_map]
    exact Nat.le_refl _
theorem cut63 (xs : List V) : (cutV xs none (some 63)).length ≤ 63 := by
  unfold cutV
  have e : HT.sIx xs.length xs.length (some 63) ≤ 63 := by
    unfold HT.sIx
    simp
    try omega
  rw [List.length_take]
  omega
theorem feed_disp (c : Addr) : mergeK [] [((.inr "cells" : Key), V.ref c), (.inr "at", .int 0), (.inr "left", .int 0), (.inr "turn", .int 0)] = feedL c 0 0 0 := by
  have e1 : putK ([] : List (Key × V)) (.inr "cells") (.ref c) = [(.inr "cells", .ref c)] := putK_new _ rfl
  have e2 : putK [((.inr "cells" : Key), V.ref c)] (.inr "at") (.int 0) = [(.inr "cells", .ref c), (.inr "at", .int 0)] := putK_new _ (by rw [valV_neg k_ca]; rfl)
  have e3 : putK [((.inr "cells" : Key), V.ref c), (.inr "at", .int 0)] (.inr "left") (.int 0) = [(.inr "cells", .ref c), (.inr "at", .int 0), (.inr "left", .int 0)] := putK_new _ (by rw [valV_neg k_cl, valV_neg k_al]; rfl)
  have e4 : putK [((.inr "cells" : Key), V.ref c), (.inr "at", .int 0), (.inr "left", .int 0)] (.inr "turn") (.int 0) = feedL c 0 0 0 := putK_new _ (by rw [valV_neg k_ct, valV_neg k_at, valV_neg k_lt]; rfl)
  unfold mergeK
  simp only [List.foldl_cons, List.foldl_nil]
  rw [e1, e2, e3, e4]
def sp_number : Sp := fun vs H Q _ => ∃ (p ce : Addr) (n : Int), vs = [.ref p] ∧ FeedAt H p ce n ∧ n < 900000 ∧
  ∀ (r : Int) (H' : Hp), r.natAbs < 10 ^ 26 → FeedAt H' p ce (n + 10) → SameX p H H' → Q (.int r) H'
def sp_lowest : Sp := fun vs H Q _ => ∃ t b : Int, vs = [.int t, .int b] ∧ b ≠ 0 ∧ ∀ q, H q = none → Q (.ref q) (upd H q (.tup [.int (lo1 t b), .int (lo2 t b)]))
def sp_fraction : Sp := fun vs H Q _ => ∃ (p ce : Addr) (n : Int), vs = [.ref p] ∧ FeedAt H p ce n ∧ n < 800000 ∧
  ∀ (t b : Int) (q : Addr) (H' : Hp), t.natAbs < 10 ^ 26 → b.natAbs < 10 ^ 26 → b ≠ 0 → H q = none → H' q = some (.tup [.int (lo1 t b), .int (lo2 t b)]) → FeedAt H' p ce (n + 20) → SameX p H H' → Q (.ref q) H'
theorem SameX.none {p ce : Addr} {H H' : Hp} (S : SameX p H H') {n : Int} (F : FeedAt H p ce n) {q : Addr} (h : H' q = none) (F' : FeedAt H' p ce n) : H q = none := by
  cases e : H q with
  | none => rfl
  | some o =>
    by_cases hq : q = p
    · subst hq
      obtain ⟨c, a, l, t, cs, h1, _⟩ := F'.ex
      rw [h1] at h
      cases h
    · rw [S q o e hq] at h
      cases h
end
structure Blts (mg : Str → Option Value) : Prop where
  abs : mg "abs" = none
  len : mg "len" = none
  list : mg "list" = none
  range : mg "range" = none
  repr : mg "repr" = none
  int : mg "int" = none
  enumerate : mg "enumerate" = none
  tuple : mg "tuple" = none
  reversed : mg "reversed" = none
end GB
namespace GB
open PySem L2
def RatAt (K : PySem.W.Frag) (H : Hp) (v : V) (r : Rat) : Prop := ∃ a, v = .ref a ∧ SqT K H a [.int r.num, .int (r.den : Int)]
theorem RatAt.same {K : PySem.W.Frag} {H H' : Hp} {v : V} {r : Rat} (S : Same H H') (h : RatAt K H v r) : RatAt K H' v r := by
  obtain ⟨a, e, h⟩ := h
  exact ⟨a, e, S.seqT h⟩
def Bd (B : Nat) (r : Rat) : Prop := r.num.natAbs < 2 ^ B ∧ r.den < 2 ^ B
theorem Bd.mono {B C : Nat} {r : Rat} (h : Bd B r) (e : B ≤ C) : Bd C r := ⟨Nat.lt_of_lt_of_le h.1 (Nat.pow_le_pow_right (by decide) e), Nat.lt_of_lt_of_le h.2 (Nat.pow_le_pow_right (by decide) e)⟩
theorem log2_lt_of {n B : Nat} (h : n < 2 ^ B) : n.log2 ≤ B := by
  rcases Nat.eq_zero_or_pos n with h0 | hp
  · subst h0; simp
  · exact Nat.le_of_lt ((Nat.log2_lt (Nat.ne_of_gt hp)).mpr h)
theorem Bd.n {B : Nat} {r : Rat} (h : Bd B r) : r.num.natAbs.log2 ≤ B := log2_lt_of h.1
theorem Bd.d {B : Nat} {r : Rat} (h : Bd B r) : ((r.den : Int)).natAbs.log2 ≤ B := log2_lt_of (by simpa using h.2)
theorem bd_of {t b : Int} {B C : Nat} (hb : b ≠ 0) (h1 : t.natAbs < 2 ^ B) (h2 : b.natAbs < 2 ^ B) : Bd B ((t : Rat) / (b : Rat)) := by
  obtain ⟨e1, e2⟩ := low_rat (t := t) hb
  refine ⟨by rw [e1]; exact Nat.lt_of_le_of_lt (lo1_le hb) h1, ?_⟩
  have : (((t : Rat) / (b : Rat)).den : Int).natAbs < 2 ^ B := by rw [e2]; exact Nat.lt_of_le_of_lt (lo2_le hb) h2
  simpa using this
theorem mul_lt_pow {a b B C : Nat} (h1 : a < 2 ^ B) (h2 : b < 2 ^ C) : a * b < 2 ^ (B + C) := by
  rw [Nat.pow_add]
  exact Nat.mul_lt_mul'' h1 h2
theorem bd_add {B C : Nat} {r s : Rat} (h : Bd B r) (g : Bd C s) : Bd (B + C + 1) (r + s) := by
  rw [← lplus_rat r s]
  have hb := pos_den r
  have hd := pos_den s
  refine bd_of (C := 0) (by have := Int.mul_pos hb hd; omega) ?_ ?_
  · have a1 := mul_lt_pow h.1 g.2
    have a2 := mul_lt_pow g.1 h.2
    have e1 : (r.num * (s.den : Int)).natAbs = r.num.natAbs * s.den := by rw [Int.natAbs_mul]; simp
    have e2 : (s.num * (r.den : Int)).natAbs = s.num.natAbs * r.den := by rw [Int.natAbs_mul]; simp
    rw [Nat.add_comm C B] at a2
    have : (r.num * (s.den : Int) + s.num * (r.den : Int)).natAbs ≤ (r.num * (s.den : Int)).natAbs + (s.num * (r.den : Int)).natAbs := Int.natAbs_add_le _ _
    rw [Nat.pow_succ]
    omega
  · have a3 := mul_lt_pow h.2 g.2
    have e3 : ((r.den : Int) * (s.den : Int)).natAbs = r.den * s.den := by rw [Int.natAbs_mul]; simp
    rw [e3, Nat.pow_succ]
    omega
theorem bd_mul {B C : Nat} {r s : Rat} (h : Bd B r) (g : Bd C s) : Bd (B + C) (r * s) := by
  rw [← ltimes_rat r s]
  have hb := pos_den r
  have hd := pos_den s
  refine bd_of (C := 0) (by have := Int.mul_pos hb hd; omega) ?_ ?_
  · rw [Int.natAbs_mul]
    exact mul_lt_pow h.1 g.1
  · have a3 := mul_lt_pow h.2 g.2
    have e3 : ((r.den : Int) * (s.den : Int)).natAbs = r.den * s.den := by rw [Int.natAbs_mul]; simp
    rw [e3]
    exact a3
theorem bd_neg {B : Nat} {r : Rat} (h : Bd B r) : Bd B (-r) := by
  obtain ⟨e1, e2⟩ := neg_rat r
  refine ⟨by rw [e1, Int.natAbs_neg]; exact h.1, ?_⟩
  have : (-r).den = r.den := by omega
  rw [this]
  exact h.2
theorem bd_sub {B C : Nat} {r s : Rat} (h : Bd B r) (g : Bd C s) : Bd (B + C + 1) (r - s) := by
  rw [Rat.sub_eq_add_neg]
  exact bd_add h (bd_neg g)
def sp_common : Sp := fun vs H Q _ => ∃ a b : Int, vs = [.int a, .int b] ∧ 0 ≤ a ∧ 0 ≤ b ∧ Q (.int (Int.gcd a b)) H
def sp_fracof : Sp := fun vs H Q _ => ∃ n d : Int, vs = [.int n, .int d] ∧ d ≠ 0 ∧ ∀ q, H q = none → Q (.ref q) (upd H q (.tup [.int ((n : Rat) / (d : Rat)).num, .int ((((n : Rat) / (d : Rat)).den : Nat) : Int)]))
def spR2 (K : PySem.W.Frag) (f : Rat → Rat → Rat) : Sp := fun vs H Q _ => ∃ v u r s B, vs = [v, u] ∧ RatAt K H v r ∧ RatAt K H u s ∧ Bd B r ∧ Bd B s ∧ B ≤ 10000000 ∧ ∀ z H', Same H H' → RatAt K H' z (f r s) → Q z H'
def spR1 (K : PySem.W.Frag) (f : Rat → Rat) : Sp := fun vs H Q _ => ∃ v r, vs = [v] ∧ RatAt K H v r ∧ ∀ z H', Same H H' → RatAt K H' z (f r) → Q z H'
theorem gcd_abs (n g : Int) : Int.gcd (if n < 0 then -n else n) g = Int.gcd n g := by split <;> simp
theorem abs_nn (n : Int) : 0 ≤ (if n < 0 then -n else n) := by split <;> omega
theorem fdiv_log {x s : Int} {B : Nat} (hs : s ≠ 0) (hd : s ∣ x) (h : x.natAbs < 2 ^ B) : (x.fdiv s).natAbs.log2 ≤ B := log2_lt_of (Nat.lt_of_le_of_lt (abs_le_of_mul (fdiv_mul hd) hs) h)
theorem gcd_ne {a b : Int} (h : b ≠ 0) : (Int.gcd a b : Int) ≠ 0 := by
  have h1 : Int.gcd a b ≠ 0 := fun z => h (Int.gcd_eq_zero_iff.mp z).2
  omega
end GB
namespace GB
open PySem L2
mutual
def bt : PyData → Nat
  | .none => 0
  | .bool _ => 0
  | .str _ => 0
  | .int i => i.natAbs.log2 + 1
  | .list xs => btAll xs
  | .tuple xs => btAll xs
  | .dict kvs => btKv kvs
def btAll : List PyData → Nat
  | [] => 0
  | x :: xs => max (bt x) (btAll xs)
def btKv : List (PyData × PyData) → Nat
  | [] => 0
  | (k, v) :: r => max (max (bt k) (bt v)) (btKv r)
end
mutual
def sz : PyData → Nat
  | .none => 4
  | .bool _ => 5
  | .str x => (reprText x).length
  | .int _ => 4301
  | .list xs => szAll xs + 2
  | .tuple xs => szAll xs + 3
  | .dict kvs => szKv kvs + 2
def szAll : List PyData → Nat
  | [] => 0
  | x :: xs => sz x + 2 + szAll xs
def szKv : List (PyData × PyData) → Nat
  | [] => 0
  | (k, v) :: r => sz k + sz v + 4 + szKv r
end
mutual
theorem okX_of : ∀ d : PyData, bt d ≤ 12900 → okX d = true
  | .none, _ => rfl
  | .bool _, _ => rfl
  | .str _, _ => rfl
  | .int i, h => by
    simp only [bt] at h
    simp only [okX]
    exact decide_eq_true (by omega)
  | .list xs, h => by
    simp only [bt] at h
    simp only [okX]
    exact okXAll_of xs h
  | .tuple xs, h => by
    simp only [bt] at h
    simp only [okX]
    exact okXAll_of xs h
  | .dict kvs, h => by
    simp only [bt] at h
    simp only [okX]
    exact okXKv_of kvs h
theorem okXAll_of : ∀ ds : List PyData, btAll ds ≤ 12900 → okXAll ds = true
  | [], _ => rfl
  | x :: xs, h => by
    simp only [btAll] at h
    simp only [okXAll, okX_of x (by omega), okXAll_of xs (by omega), Bool.and_self]
theorem okXKv_of : ∀ ds : List (PyData × PyData), btKv ds ≤ 12900 → okXKv ds = true
  | [], _ => rfl
  | (k, v) :: r, h => by
    simp only [btKv] at h
    simp only [okXKv, okX_of k (by omega), okX_of v (by omega), okXKv_of r (by omega), Bool.and_self]
end
theorem int_len {a : Int} (h : a.natAbs.log2 < 12900) : (PyData.shown (.int a)).length ≤ 4301 := by
  simp only [PyData.shown]
  have e := int_text_length_le10 (k := 4300) (by decide) (lt4300 h)
  rw [ofString_length]
  exact e
theorem dictText_ub (ts : List Str) : (dictText ts).length ≤ piled ts + 2 := by
  have e1 : (Str.ofString "{").length = 1 := by decide
  have e2 : (Str.ofString "}").length = 1 := by decide
  have e3 : (Str.join ", " ts).length ≤ piled ts := by
    cases ts with
    | nil => decide
    | cons t r => have := join_length_add (t :: r) (by simp); omega
  unfold dictText
  rw [str_app_len, str_app_len]
  omega
mutual
theorem shown_sz : ∀ d : PyData, bt d ≤ 12900 → d.shown.length ≤ sz d
  | .none, _ => by simp only [PyData.shown, sz]; decide
  | .bool b, _ => by cases b <;> (simp only [PyData.shown, sz]; decide)
  | .str x, _ => by simp only [PyData.shown, sz]; exact Nat.le_refl _
  | .int i, h => by
    simp only [bt] at h
    simp only [sz]
    exact int_len (by omega)
  | .list xs, h => by
    simp only [bt] at h
    simp only [PyData.shown, sz]
    have := listText_ub (PyData.shownAll xs)
    have := piled_sz xs h
    omega
  | .tuple xs, h => by
    simp only [bt] at h
    simp only [PyData.shown, sz]
    have := tupleText_ub (PyData.shownAll xs)
    have := piled_sz xs h
    omega
  | .dict kvs, h => by
    simp only [bt] at h
    simp only [PyData.shown, sz]
    have := dictText_ub (PyData.shownKv kvs)
    have := piled_kv kvs h
    omega
theorem piled_sz : ∀ ds : List PyData, btAll ds ≤ 12900 → piled (PyData.shownAll ds) ≤ szAll ds
  | [], _ => by simp [PyData.shownAll, piled_nil, szAll]
  | x :: xs, h => by
    simp only [btAll] at h
    simp only [PyData.shownAll, piled_cons, szAll]
    have := shown_sz x (by omega)
    have := piled_sz xs (by omega)
    omega
theorem piled_kv : ∀ ds : List (PyData × PyData), btKv ds ≤ 12900 → piled (PyData.shownKv ds) ≤ szKv ds
  | [], _ => by simp [PyData.shownKv, piled_nil, szKv]
  | (k, v) :: r, h => by
    simp only [btKv] at h
    simp only [PyData.shownKv, piled_cons, szKv]
    have := shown_sz k (by omega)
    have := shown_sz v (by omega)
    have := piled_kv r (by omega)
    have e : (Str.ofString ": ").length = 2 := by decide
    rw [str_app_len, str_app_len]
    omega
end
structure Gd (B n k : Nat) (d : PyData) : Prop where
  b : bt d ≤ B
  s : sz d ≤ n
  p : d.depth ≤ k
theorem Gd.mono {B n k B' n' k' : Nat} {d : PyData} (h : Gd B n k d) (h1 : B ≤ B') (h2 : n ≤ n') (h3 : k ≤ k') : Gd B' n' k' d := ⟨Nat.le_trans h.b h1, Nat.le_trans h.s h2, Nat.le_trans h.p h3⟩
structure GdA (B n k : Nat) (ds : List PyData) : Prop where
  b : btAll ds ≤ B
  s : szAll ds ≤ n
  p : PyData.depthAll ds ≤ k
def Th (H : Hp) (v : V) (B n k : Nat) : Prop := ∃ d, Dx H v d ∧ Gd B n k d
theorem Th.same {H H' : Hp} {v : V} {B n k : Nat} (S : Same H H') (h : Th H v B n k) : Th H' v B n k := by
  obtain ⟨d, h, g⟩ := h
  exact ⟨d, h.same S, g⟩
theorem Th.mono {H : Hp} {v : V} {B n k B' n' k' : Nat} (h : Th H v B n k) (h1 : B ≤ B') (h2 : n ≤ n') (h3 : k ≤ k') : Th H v B' n' k' := by
  obtain ⟨d, h, g⟩ := h
  exact ⟨d, h, g.mono h1 h2 h3⟩
theorem DxAll.len {H : Hp} : ∀ {vs : List V} {ds : List PyData}, DxAll H vs ds → vs.length = ds.length
  | _, _, .nil => rfl
  | _, _, .cons _ h => by simp [DxAll.len h]
theorem DxAll.take {H : Hp} : ∀ {vs : List V} {ds : List PyData} (n : Nat), DxAll H vs ds → DxAll H (vs.take n) (ds.take n)
  | _, _, 0, _ => .nil
  | _, _, _ + 1, .nil => .nil
  | _, _, n + 1, .cons h t => .cons h (DxAll.take n t)
theorem DxAll.drop {H : Hp} : ∀ {vs : List V} {ds : List PyData} (n : Nat), DxAll H vs ds → DxAll H (vs.drop n) (ds.drop n)
  | _, _, 0, h => h
  | _, _, _ + 1, .nil => .nil
  | _, _, n + 1, .cons _ t => DxAll.drop n t
theorem DxAll.app {H : Hp} : ∀ {vs us : List V} {ds es : List PyData}, DxAll H vs ds → DxAll H us es → DxAll H (vs ++ us) (ds ++ es)
  | _, _, _, _, .nil, h => h
  | _, _, _, _, .cons h t, g => .cons h (DxAll.app t g)
theorem DxAll.rev {H : Hp} : ∀ {vs : List V} {ds : List PyData}, DxAll H vs ds → DxAll H vs.reverse ds.reverse
  | _, _, .nil => .nil
  | _, _, .cons h t => by
    rw [List.reverse_cons, List.reverse_cons]
    exact (DxAll.rev t).app (.cons h .nil)
theorem DxAll.get {H : Hp} : ∀ {vs : List V} {ds : List PyData} {i : Nat} {v : V}, DxAll H vs ds → vs[i]? = some v → ∃ d, ds[i]? = some d ∧ Dx H v d
  | _, _, _, _, .nil, e => by simp at e
  | _, _, 0, _, .cons h _, e => by
    simp at e
    subst e
    exact ⟨_, rfl, h⟩
  | _, _, i + 1, v, .cons _ t, e => by
    obtain ⟨d, e1, e2⟩ := DxAll.get (i := i) (v := v) t (by simpa using e)
    exact ⟨d, by simpa using e1, e2⟩
theorem btAll_app : ∀ (xs ys : List PyData), btAll (xs ++ ys) = max (btAll xs) (btAll ys)
  | [], ys => by simp [btAll]
  | x :: xs, ys => by
    simp only [List.cons_append, btAll, btAll_app xs ys]
    omega
theorem szAll_app : ∀ (xs ys : List PyData), szAll (xs ++ ys) = szAll xs + szAll ys
  | [], ys => by simp [szAll]
  | x :: xs, ys => by
    simp only [List.cons_append, szAll, szAll_app xs ys]
    omega
theorem depthAll_app : ∀ (xs ys : List PyData), PyData.depthAll (xs ++ ys) = max (PyData.depthAll xs) (PyData.depthAll ys)
  | [], ys => by simp [PyData.depthAll]
  | x :: xs, ys => by
    simp only [List.cons_append, PyData.depthAll, depthAll_app xs ys]
    omega
theorem GdA.app {B n m k : Nat} {xs ys : List PyData} (h : GdA B n k xs) (g : GdA B m k ys) : GdA B (n + m) k (xs ++ ys) := by
  refine ⟨?_, ?_, ?_⟩
  · rw [btAll_app]; have := h.b; have := g.b; omega
  · rw [szAll_app]; have := h.s; have := g.s; omega
  · rw [depthAll_app]; have := h.p; have := g.p; omega
theorem GdA.split {B n k : Nat} {xs ys : List PyData} (h : GdA B n k (xs ++ ys)) : GdA B n k xs ∧ GdA B n k ys := by
  obtain ⟨a, b, c⟩ := h
  rw [btAll_app] at a
  rw [szAll_app] at b
  rw [depthAll_app] at c
  exact ⟨⟨by omega, by omega, by omega⟩, ⟨by omega, by omega, by omega⟩⟩
theorem GdA.take {B n k : Nat} {xs : List PyData} (h : GdA B n k xs) (i : Nat) : GdA B n k (xs.take i) := by
  rw [← List.take_append_drop i xs] at h
  exact h.split.1
theorem GdA.drop {B n k : Nat} {xs : List PyData} (h : GdA B n k xs) (i : Nat) : GdA B n k (xs.drop i) := by
  rw [← List.take_append_drop i xs] at h
  exact h.split.2
theorem GdA.one {B n k : Nat} {d : PyData} (h : Gd B n k d) : GdA B (n + 2) k [d] := by
  refine ⟨?_, ?_, ?_⟩
  · simp only [btAll]; have := h.b; omega
  · simp only [szAll]; have := h.s; omega
  · simp only [PyData.depthAll]; have := h.p; omega
theorem GdA.rev {B n k : Nat} : ∀ {xs : List PyData}, GdA B n k xs → GdA B n k xs.reverse
  | [], h => h
  | x :: xs, h => by
    have h1 : GdA B n k ([x] ++ xs) := h
    have e1 : btAll (xs.reverse ++ [x]) = max (btAll xs.reverse) (btAll [x]) := btAll_app _ _
    have e2 : szAll (xs.reverse ++ [x]) = szAll xs.reverse + szAll [x] := szAll_app _ _
    have e3 : PyData.depthAll (xs.reverse ++ [x]) = max (PyData.depthAll xs.reverse) (PyData.depthAll [x]) := depthAll_app _ _
    obtain ⟨a, b, c⟩ := h
    simp only [btAll] at a
    simp only [szAll] at b
    simp only [PyData.depthAll] at c
    obtain ⟨p, q, r⟩ := GdA.rev (B := B) (n := szAll xs) (k := k) (xs := xs) ⟨by omega, by omega, by omega⟩
    rw [List.reverse_cons]
    refine ⟨?_, ?_, ?_⟩
    · rw [e1]; simp only [btAll]; omega
    · rw [e2]; simp only [szAll]; omega
    · rw [e3]; simp only [PyData.depthAll]; omega
theorem GdA.get {B n k : Nat} : ∀ {xs : List PyData} {i : Nat} {d : PyData}, GdA B n k xs → xs[i]? = some d → Gd B n k d
  | [], _, _, _, e => by simp at e
  | x :: xs, 0, d, h, e => by
    simp at e
    subst e
    obtain ⟨a, b, c⟩ := h
    simp only [btAll] at a
    simp only [szAll] at b
    simp only [PyData.depthAll] at c
    exact ⟨by omega, by omega, by omega⟩
  | x :: xs, i + 1, d, h, e => by
    obtain ⟨a, b, c⟩ := h
    simp only [btAll] at a
    simp only [szAll] at b
    simp only [PyData.depthAll] at c
    exact GdA.get (xs := xs) (i := i) ⟨by omega, by omega, by omega⟩ (by simpa using e)
theorem GdA.tup {B n k : Nat} {xs : List PyData} (h : GdA B n k xs) : Gd B (n + 3) (k + 1) (.tuple xs) := ⟨by simp only [bt]; exact h.b, by simp only [sz]; have := h.s; omega, by simp only [PyData.depth]; have := h.p; omega⟩
theorem GdA.lst {B n k : Nat} {xs : List PyData} (h : GdA B n k xs) : Gd B (n + 2) (k + 1) (.list xs) := ⟨by simp only [bt]; exact h.b, by simp only [sz]; have := h.s; omega, by simp only [PyData.depth]; have := h.p; omega⟩
theorem Gd.items {B n k : Nat} {xs : List PyData} (h : Gd B n k (.tuple xs)) : GdA B n k xs := by
  obtain ⟨a, b, c⟩ := h
  simp only [bt] at a
  simp only [sz] at b
  simp only [PyData.depth] at c
  exact ⟨a, by omega, by omega⟩
def hid (p : Addr) (H : Hp) : Hp := fun a => if a = p then none else H a
theorem hid_same (p : Addr) (H : Hp) : Same (hid p H) H := fun b o e => by
  unfold hid at e
  split at e
  · cases e
  · exact e
theorem hid_mono {p : Addr} {H H' : Hp} (S : SameX p H H') : Same (hid p H) (hid p H') := fun b o e => by
  unfold hid at *
  split at e
  · cases e
  · rename_i hb
    rw [if_neg hb]
    exact S b o e hb
end GB
namespace L2
open PySem PySem.Spec PyProof.Rows
namespace RT
end RT
end L2
namespace L2
open PySem PySem.Spec PyProof.Rows
namespace RT
def rvObj (l : Addr) (i : Int) : Obj := { cls := .type "reversed", data := .fields #[.ref l, rawInt i] }
def IsRv (h : Heap) (a l : Addr) (i : Int) : Prop := ∃ o, h.get? a = some o ∧ o.cls = .type "reversed" ∧ o.data = .fields #[.ref l, rawInt i]
theorem IsRv.ty {s : Shared} {a l : Addr} {i : Int} (x : IsRv s.heap a l i) : s.TypeIs (.ref a) "reversed" := let ⟨o, ho, hc, _⟩ := x; ⟨o, ho, hc⟩
theorem IsRv.mv {h h' : Heap} {a l : Addr} {i : Int} (x : IsRv h a l i) (e : ∀ o, h.get? a = some o → h'.get? a = some o) : IsRv h' a l i := let ⟨o, ho, r⟩ := x; ⟨o, e _ ho, r⟩
section
variable {π : Program} {W : World} {A : Around} {β : Type} {Q : β → Shared → Prop} {E : Value → Shared → Prop} {s : Shared}
theorem stF {k : Value → Sem β} {p : Addr} {n : Nat} {ob : Obj} {fs : Array Value} (x : Value) (g : s.heap.get? p = some ob) (f : ob.data = .fields fs) (e : fs[n]? = some x) (h : wpAny (model π W) A (k x) Q E s) : wpAny (model π W) A (field (.ref p) n >>= k) Q E s := wpAny_bind (wpAny_field g f e h)
theorem stI {k : Bool → Sem β} {v : Value} {T U : String} {b : Bool} (t : s.TypeIs v T) (e : isSubtype (.type T) (.type U) = pure b) (h : wpAny (model π W) A (k b) Q E s) : wpAny (model π W) A (isInstance v (.type U) >>= k) Q E s := wpAny_bind (wpAny_isInstance t e h)
end
end RT
end L2
namespace L2
open PySem PySem.Spec PyProof.Rows
def Itw (K : PySem.W.Frag) (a : Addr) (n : Nat) : It :=
  ⟨fun i H => i < n ∧ ∃ (xs : List V) (x : V), SqT K H a xs ∧ xs[n - 1 - i]? = some x, fun i H x H' => H' = H ∧ ∀ xs, SqT K H a xs → xs[n - 1 - i]? = some x, fun i _ => n ≤ i⟩
def iRevS (K : PySem.W.Frag) (ta : TA) : TI := fun σ H R => ta σ H fun vs H1 => ∃ (a : Addr) (xs : List V), vs = [.ref a] ∧ ((SqL K H1 a xs ∧ R (Itv K a xs.length) H1) ∨ (SqT K H1 a xs ∧ R (Itw K a xs.length) H1))
section
variable {X : Cx} {tg : Expr}
end
end L2
namespace L2
open PySem PySem.Spec PyProof.Rows
namespace ZP
def IsIt (b : Bool) (h : Heap) (i l : Addr) (k : Nat) : Prop := match b with
  | true => h.IsTupleIter i l k
  | false => h.IsListIter i l k
def IsSq (b : Bool) (h : Heap) (l : Addr) (xs : Array Value) : Prop := match b with
  | true => h.IsTuple l xs
  | false => h.IsList l xs
theorem IsIt.mv {b : Bool} {h h' : Heap} {i l : Addr} {k : Nat} (p : IsIt b h i l k) (e : ∀ o, h.get? i = some o → h'.get? i = some o) : IsIt b h' i l k := by
  cases b
  · exact Heap.IsListIter.at p e
  · exact Heap.IsTupleIter.at p e
theorem IsSq.mv {b : Bool} {h h' : Heap} {l : Addr} {xs : Array Value} (p : IsSq b h l xs) (e : ∀ o, h.get? l = some o → h'.get? l = some o) : IsSq b h' l xs := by
  cases b
  · exact Heap.IsList.at p e
  · exact Heap.IsTuple.at p e
theorem IsIt.lt {b : Bool} {h : Heap} {i l : Addr} {k : Nat} (p : IsIt b h i l k) : i < h.objs.size := by
  cases b
  · obtain ⟨o, e, _⟩ := p
    exact Heap.lt_size e
  · obtain ⟨o, e, _⟩ := p
    exact Heap.lt_size e
section
variable {prog : Program} {W : World} {A : Around} {E : Value → Shared → Prop} {s : Shared}
theorem nx_item {b : Bool} {i l : Addr} {k : Nat} {xs : Array Value} {x : Value} {Q : Value → Shared → Prop} (p : IsIt b s.heap i l k) (q : IsSq b s.heap l xs) (e : xs[k]? = some x)
    (r : ∀ h', IsIt b h' i l (k + 1) → Heap.SameBut i s.heap h' → Q x { s with heap := h' }) : wpAny (model prog W) A (Builtin.SmallTypes.nextOf (.ref i)) Q E s := by
  cases b
  · exact wpAny_nextOf_list_item p q e r
  · exact nextOfT_item p q e r
theorem nx_end {b : Bool} {i l : Addr} {k : Nat} {xs : Array Value} {Q : Value → Shared → Prop} (hh : A.handled = none) (p : IsIt b s.heap i l k) (q : IsSq b s.heap l xs) (e : xs[k]? = none)
    (r : ∀ h' x, Heap.ExtBut i s.heap h' → (∃ o, h'.get? x = some o ∧ o.cls = .type "StopIteration") → E (.ref x) { s with heap := h' }) : wpAny (model prog W) A (Builtin.SmallTypes.nextOf (.ref i)) Q E s := by
  cases b
  · exact wpAny_nextOf_list_end hh p q e r
  · exact nextOfT_end hh p q e r
def Kp (z TO i1 i2 : Addr) (h h' : Heap) : Prop := ∀ c o, c ≠ z → c ≠ TO → c ≠ i1 → c ≠ i2 → h.get? c = some o → h'.get? c = some o
theorem zn {z TI TO i1 i2 l1 l2 : Addr} {k : Nat} {b1 b2 : Bool} {xs ys : Array Value} {a b : Value} {Q : Fin → Shared → Prop} (hh : A.handled = none) (D : ZipApart z TI TO i1 i2 l1 l2) (g : IsZip s.heap z TI TO .none) (t : IsPair s.heap TI (.ref i1) (.ref i2)) (u : IsPair s.heap TO a b) (p1 : IsIt b1 s.heap i1 l1 k) (p2 : IsIt b2 s.heap i2 l2 k) (q1 : IsSq b1 s.heap l1 xs) (q2 : IsSq b2 s.heap l2 ys)
    (hQ : ∀ x y h', xs[k]? = some x → ys[k]? = some y → IsZip h' z TI TO (rawInt s.heap.objs.size) → IsPair h' TO x y → IsIt b1 h' i1 l1 (k + 1) → IsIt b2 h' i2 l2 (k + 1) → IsPair h' s.heap.objs.size x y → Kp z TO i1 i2 s.heap h' → Q (.done (.ret (.ref s.heap.objs.size))) { s with heap := h' })
    (hE : xs[k]? = none ∨ ys[k]? = none → ∀ h' e, Kp z TO i1 i2 s.heap h' → (∃ o, h'.get? e = some o ∧ o.cls = .type "StopIteration") → E (.ref e) { s with heap := h' }) :
    wpAny (model prog W) A (Builtin.«zip.__next__» ⟨[.ref z], []⟩) Q E s := by
  show wpAny (model prog W) A (field (.ref z) 2 >>= _) Q E s
  refine RT.stF (.bool false) g rfl rfl ?_
  show wpAny (model prog W) A (field (.ref z) 3 >>= _) Q E s
  refine RT.stF (.ref TI) g rfl rfl (wpAny_bind (wpAny_seqItems t rfl ?_))
  show wpAny (model prog W) A (Builtin.SmallTypes.ownedTupleIsFree (.ref z) >>= _) Q E s
  apply wpAny_bind
  unfold Builtin.SmallTypes.ownedTupleIsFree
  refine RT.stF .none g rfl rfl (wpAny_pure ?_)
  simp only [if_true]
  apply wpAny_bind
  apply wpAny_rule
  refine RT.stF (.ref TO) g rfl rfl ?_
  apply wpAny_bind
  refine wpAny_setField_rec g (by simp) fun h1 g1 e1 => ?_
  have g1 : IsZip h1 z TI TO .ellipsis := g1
  have k1 := e1.extBut
  apply wpAny_bind
  simp only [List.zipIdx_cons, List.zipIdx_nil, List.forIn_cons, List.forIn_nil]
  apply wpAny_bind
  apply wpAny_bind
  apply wpAny_onRaise
  show wpAny (model prog W) A (Builtin.SmallTypes.nextOf (.ref i1) >>= _) _ _ _
  have p1' : IsIt b1 h1 i1 l1 k := p1.mv fun o => k1 i1 o D.i1z
  have q1' : IsSq b1 h1 l1 xs := q1.mv fun o => k1 l1 o D.l1z
  apply wpAny_bind
  cases hx : xs[k]? with
  | none =>
    refine nx_end (s := { s with heap := h1 }) hh p1' q1' hx fun h2 e k2 he => ?_
    obtain ⟨oe, hoe, hce⟩ := he
    have g2 : IsZip h2 z TI TO .ellipsis := k2 _ _ D.i1z.symm g1
    have nz : e ≠ z := fun c => by
      rw [c, g2] at hoe
      cases hoe
      simp at hce
    refine wpAny_setField_rec g2 (by simp) fun h3 _ e3 => hE (.inl hx) h3 e (fun c o c1 _ c3 _ m => e3.extBut _ _ c1 (k2 _ _ c3 (k1 _ _ c1 m))) ⟨oe, e3.extBut _ _ nz hoe, hce⟩
  | some x =>
    refine nx_item (s := { s with heap := h1 }) p1' q1' hx fun h2 r2 e2 => wpAny_pure ?_
    have k2 := e2.extBut
    have u2 : IsPair h2 TO a b := k2 _ _ D.TOi1 (k1 _ _ D.TOz u)
    refine wpAny_bind (wpAny_seqItems u2 rfl (wpAny_bind (wpAny_updateSeq_pair u2 fun h3 u3 e3 => ?_)))
    have u3 : IsPair h3 TO x b := u3
    have k3 := e3.extBut
    apply wpAny_bind
    refine wpAny_letGo (wpAny_pure ?_)
    apply wpAny_bind
    apply wpAny_bind
    apply wpAny_onRaise
    show wpAny (model prog W) A (Builtin.SmallTypes.nextOf (.ref i2) >>= _) _ _ _
    have p2' : IsIt b2 h3 i2 l2 k := p2.mv fun o m => k3 _ _ D.TOi2.symm (k2 _ _ D.i12.symm (k1 _ _ D.i2z m))
    have q2' : IsSq b2 h3 l2 ys := q2.mv fun o m => k3 _ _ D.l2TO (k2 _ _ D.l2i1 (k1 _ _ D.l2z m))
    apply wpAny_bind
    cases hy : ys[k]? with
    | none =>
      refine nx_end (s := { s with heap := h3 }) hh p2' q2' hy fun h4 e k4 he => ?_
      obtain ⟨oe, hoe, hce⟩ := he
      have g4 : IsZip h4 z TI TO .ellipsis := k4 _ _ D.i2z.symm (k3 _ _ D.TOz.symm (k2 _ _ D.i1z.symm g1))
      have nz : e ≠ z := fun c => by
        rw [c, g4] at hoe
        cases hoe
        simp at hce
      refine wpAny_setField_rec g4 (by simp) fun h5 _ e5 => hE (.inr hy) h5 e (fun c o c1 c2 c3 c4 m => e5.extBut _ _ c1 (k4 _ _ c4 (k3 _ _ c2 (k2 _ _ c3 (k1 _ _ c1 m))))) ⟨oe, e5.extBut _ _ nz hoe, hce⟩
    | some y =>
      refine nx_item (s := { s with heap := h3 }) p2' q2' hy fun h4 r4 e4 => wpAny_pure ?_
      have k4 := e4.extBut
      have u4 : IsPair h4 TO x b := k4 _ _ D.TOi2 u3
      refine wpAny_bind (wpAny_seqItems u4 rfl (wpAny_bind (wpAny_updateSeq_pair u4 fun h5 u5 e5 => ?_)))
      have u5 : IsPair h5 TO x y := u5
      have k5 := e5.extBut
      apply wpAny_bind
      refine wpAny_letGo (wpAny_pure (wpAny_pure ?_))
      refine wpAny_bind (wpAny_seqItems u5 rfl (wpAny_bind (wpAny_newTuple ?_)))
      have sz : h5.objs.size = s.heap.objs.size := by rw [e5.1, e4.1, e3.1, e2.1, e1.1]
      have g5 : IsZip h5 z TI TO .ellipsis := k5 _ _ D.TOz.symm (k4 _ _ D.i2z.symm (k3 _ _ D.TOz.symm (k2 _ _ D.i1z.symm g1)))
      have kk : Kp z TO i1 i2 s.heap h5 := fun c o c1 c2 c3 c4 m => k5 _ _ c2 (k4 _ _ c4 (k3 _ _ c2 (k2 _ _ c3 (k1 _ _ c1 m))))
      have r5 : IsIt b1 h5 i1 l1 (k + 1) := r2.mv fun o m => k5 _ _ D.TOi1.symm (k4 _ _ D.i12 (k3 _ _ D.TOi1.symm m))
      have v5 : IsIt b2 h5 i2 l2 (k + 1) := r4.mv fun o m => k5 _ _ D.TOi2.symm m
      have lz : z < h5.objs.size := Heap.lt_size g5
      show wpAny (model prog W) A (Builtin.SmallTypes.ownedTupleHandOut (.ref z) (.ref h5.objs.size) >>= _) _ _ _
      apply wpAny_bind
      unfold Builtin.SmallTypes.ownedTupleHandOut
      have g6 : IsZip (h5.push { cls := .type "tuple", data := .seq #[x, y] }) z TI TO .ellipsis := Heap.get?_push_of_some _ g5
      apply wpAny_bind
      refine wpAny_setField_rec g6 (by simp) fun h7 g7 e7 => ?_
      have g7 : IsZip h7 z TI TO (rawInt h5.objs.size) := g7
      refine wpAny_setField_rec g7 (by simp) fun h8 g8 e8 => ?_
      have g8 : IsZip h8 z TI TO (rawInt h5.objs.size) := g8
      have up : ∀ c o, c ≠ z → h5.get? c = some o → h8.get? c = some o := fun c o n m => e8.extBut _ _ n (e7.extBut _ _ n (Heap.get?_push_of_some _ m))
      have w8 : IsPair h8 h5.objs.size x y := e8.extBut _ _ (Nat.ne_of_gt lz) (e7.extBut _ _ (Nat.ne_of_gt lz) (Heap.get?_push_size _ rfl))
      rw [sz] at g8 w8
      refine wpAny_pure ?_
      show Q (.done (.ret (.ref h5.objs.size))) _
      rw [sz]
      exact hQ x y h8 hx hy g8 (up _ _ D.TOz u5) (r5.mv fun o => up _ o D.i1z) (v5.mv fun o => up _ o D.i2z) w8 fun c o c1 c2 c3 c4 m => up c o c1 (kk c o c1 c2 c3 c4 m)
theorem pn_item {z TI TO i1 i2 l1 l2 : Addr} {k : Nat} {b1 b2 : Bool} {xs ys : Array Value} {a b x y : Value} {Q : Option Value → Shared → Prop} (hh : A.handled = none) (D : ZipApart z TI TO i1 i2 l1 l2) (g : IsZip s.heap z TI TO .none) (t : IsPair s.heap TI (.ref i1) (.ref i2)) (u : IsPair s.heap TO a b) (p1 : IsIt b1 s.heap i1 l1 k) (p2 : IsIt b2 s.heap i2 l2 k) (q1 : IsSq b1 s.heap l1 xs) (q2 : IsSq b2 s.heap l2 ys) (hx : xs[k]? = some x) (hy : ys[k]? = some y)
    (hQ : ∀ h', IsZip h' z TI TO (rawInt s.heap.objs.size) → IsPair h' TO x y → IsIt b1 h' i1 l1 (k + 1) → IsIt b2 h' i2 l2 (k + 1) → IsPair h' s.heap.objs.size x y → Kp z TO i1 i2 s.heap h' → Q (some (.ref s.heap.objs.size)) { s with heap := h' }) : wpAny (model prog W) A (pyNext (.ref z)) Q E s := by
  have ty : s.TypeIs (.ref z) "zip" := ⟨_, g, rfl⟩
  unfold pyNext
  apply wpAny_bind
  apply wpAny_attempt
  refine wpAny_callSpecial?_slot (name := Str.ofString "__next__") ty F.slot_zip_next (wpAny_call_entry F.slot_zip_next ty F.entry_zip_next (zn hh D g t u p1 p2 q1 q2 (fun x' y' h' ex ey a1 a2 a3 a4 a5 a6 => ?_) (fun o => ?_)) (F.args_zip_next_1 _))
  · rw [hx] at ex
    rw [hy] at ey
    cases ex
    cases ey
    exact ⟨_, rfl, wpAny_pure (hQ h' a1 a2 a3 a4 a5 a6)⟩
  · rw [hx, hy] at o
    rcases o with o | o <;> cases o
theorem pn_end {z TI TO i1 i2 l1 l2 : Addr} {k : Nat} {b1 b2 : Bool} {xs ys : Array Value} {a b : Value} {Q : Option Value → Shared → Prop} (hh : A.handled = none) (D : ZipApart z TI TO i1 i2 l1 l2) (g : IsZip s.heap z TI TO .none) (t : IsPair s.heap TI (.ref i1) (.ref i2)) (u : IsPair s.heap TO a b) (p1 : IsIt b1 s.heap i1 l1 k) (p2 : IsIt b2 s.heap i2 l2 k) (q1 : IsSq b1 s.heap l1 xs) (q2 : IsSq b2 s.heap l2 ys) (he : xs[k]? = none ∨ ys[k]? = none)
    (hQ : ∀ h', Kp z TO i1 i2 s.heap h' → Q none { s with heap := h' }) : wpAny (model prog W) A (pyNext (.ref z)) Q E s := by
  have ty : s.TypeIs (.ref z) "zip" := ⟨_, g, rfl⟩
  unfold pyNext
  apply wpAny_bind
  apply wpAny_attempt
  refine wpAny_callSpecial?_slot (name := Str.ofString "__next__") ty F.slot_zip_next (wpAny_call_entry F.slot_zip_next ty F.entry_zip_next (zn hh D g t u p1 p2 q1 q2 (fun x' y' h' ex ey a1 a2 a3 a4 a5 a6 => ?_) (fun _ h' e kp ⟨o, ho, hc⟩ => ?_)) (F.args_zip_next_1 _))
  · rw [ex, ey] at he
    rcases he with o | o <;> cases o
  · exact RT.stI (b := true) ⟨o, ho, hc⟩ isSubtype_stop (wpAny_pure (hQ _ kp))
end
abbrev itO (b : Bool) (l : Addr) : Obj := { cls := .type (match b with | true => "tuple_iterator" | false => "list_iterator"), data := .fields #[.ref l, .int 0 0] }
abbrev zh2 (h : Heap) (b1 b2 : Bool) (l1 l2 : Addr) : Heap := (h.push (itO b1 l1)).push (itO b2 l2)
abbrev zh3 (h : Heap) (b1 b2 : Bool) (l1 l2 : Addr) : Heap := (zh2 h b1 b2 l1 l2).push { cls := .type "tuple", data := .seq #[.ref h.objs.size, .ref (h.push (itO b1 l1)).objs.size] }
abbrev zh4 (h : Heap) (b1 b2 : Bool) (l1 l2 : Addr) : Heap := (zh3 h b1 b2 l1 l2).push { cls := .type "tuple", data := .seq #[.none, .none] }
abbrev zh5 (h : Heap) (b1 b2 : Bool) (l1 l2 : Addr) : Heap := (zh4 h b1 b2 l1 l2).push { cls := .type "zip", data := .fields #[.none, .bool false, .bool false, .ref (zh2 h b1 b2 l1 l2).objs.size, .ref (zh3 h b1 b2 l1 l2).objs.size] }
theorem IsSq.push {b : Bool} {h : Heap} {l : Addr} {xs : Array Value} (p : IsSq b h l xs) (o : Obj) : IsSq b (h.push o) l xs := p.mv fun _ m => Heap.get?_push_of_some _ m
end ZP
end L2
namespace L2
open PySem PySem.Spec PyProof.Rows
namespace ZP
def Sq (b : Bool) (K : PySem.W.Frag) (H : Hp) (a : Addr) (xs : List V) : Prop := match b with
  | true => SqT K H a xs
  | false => SqL K H a xs
theorem Sq.inj {b : Bool} {X : Cx} {pins : _} {σ : St} {H : Hp} {s : Shared} {a : Addr} {xs ys : List V} (I : Inv X pins σ H s) (h : Sq b X.K H a xs) (h' : Sq b X.K H a ys) : xs = ys := by
  cases b
  · exact I.list_inj h h'
  · exact I.tuple_inj h h'
theorem Sq.in {b : Bool} {X : Cx} {pins : _} {σ : St} {H : Hp} {s : Shared} {a : Addr} {xs : List V} (I : Inv X pins σ H s) (h : Sq b X.K H a xs) : ∃ its, Vals xs its ∧ IsSq b s.heap a its.toArray ∧ a < s.heap.objs.size := by
  cases b
  · obtain ⟨its, rv, p, _⟩ := I.list h
    exact ⟨its, rv, p.isList, p.lt⟩
  · obtain ⟨its, rv, p, _⟩ := I.tuple h
    have q : s.heap.IsTuple a its.toArray := p
    refine ⟨its, rv, q, ?_⟩
    obtain ⟨o, e, _⟩ := q
    exact Heap.lt_size e
def Itz (K : PySem.W.Frag) (b1 b2 : Bool) (a b : Addr) : It :=
  ⟨fun i H => ∃ (xs ys : List V) (x y : V), Sq b1 K H a xs ∧ Sq b2 K H b ys ∧ xs[i]? = some x ∧ ys[i]? = some y,
    fun i H v H' => ∃ T x y, v = .ref T ∧ H T = none ∧ H' = upd H T (.tup [x, y]) ∧ (∀ xs, Sq b1 K H a xs → xs[i]? = some x) ∧ ∀ ys, Sq b2 K H b ys → ys[i]? = some y,
    fun i H => ∃ xs ys : List V, Sq b1 K H a xs ∧ Sq b2 K H b ys ∧ (xs.length ≤ i ∨ ys.length ≤ i)⟩
theorem IsIt.ob {b : Bool} {h : Heap} {i l : Addr} {k : Nat} (p : IsIt b h i l k) : ∃ o, h.get? i = some o ∧ ∃ vs, o.data = .fields vs := by
  cases b
  · obtain ⟨o, e, _, d⟩ := p
    exact ⟨o, e, _, d⟩
  · obtain ⟨o, e, _, d⟩ := p
    exact ⟨o, e, _, d⟩
theorem turn {P : Program} {w : World} {K : PySem.W.Frag} {elts : List Expr} {kk : Nat} {tpos : Pos} {b1 b2 : Bool} {a b z TI TO i1 i2 : Addr} (D : ZipApart z TI TO i1 i2 a b) :
    Turn P w K (.Tuple elts kk tpos) (Itz K b1 b2 a b) [z, TI, TO, i1, i2] z (fun i h => IsZip h z TI TO .none ∧ IsPair h TI (.ref i1) (.ref i2) ∧ (∃ x y, IsPair h TO x y) ∧ IsIt b1 h i1 a i ∧ IsIt b2 h i2 b i) where
  mem := by simp
  obj := fun i h st c hc => by
    obtain ⟨g, t, ⟨x, y, u⟩, p1, p2⟩ := st
    obtain ⟨o1, e1, f1, d1⟩ := p1.ob
    obtain ⟨o2, e2, f2, d2⟩ := p2.ob
    have cs : c = z ∨ c = TI ∨ c = TO ∨ c = i1 ∨ c = i2 := by simpa using hc
    rcases cs with q | q | q | q | q <;> rw [q]
    · exact ⟨_, g, fun v q => nomatch q⟩
    · exact ⟨_, t, fun v q => nomatch q⟩
    · exact ⟨_, u, fun v q => nomatch q⟩
    · refine ⟨o1, e1, fun v q => ?_⟩
      rw [d1] at q
      cases q
    · refine ⟨o2, e2, fun v q => ?_⟩
      rw [d2] at q
      cases q
  keep := fun i h h' st k => by
    obtain ⟨g, t, ⟨x, y, u⟩, p1, p2⟩ := st
    exact ⟨k z (by simp) _ g, k TI (by simp) _ t, ⟨x, y, k TO (by simp) _ u⟩, p1.mv fun o => k i1 (by simp) o, p2.mv fun o => k i2 (by simp) o⟩
  item := by
    intro X hP hw hK hc i pins s σ H E I hf st hg
    subst hP hw hK
    obtain ⟨g, t, ⟨x0, y0, u⟩, p1, p2⟩ := st
    obtain ⟨xs, ys, x, y, sx, sy, hx, hy⟩ := hg
    obtain ⟨its, rv, q1, _⟩ := sx.in I
    obtain ⟨its2, rv2, q2, _⟩ := sy.in I
    obtain ⟨v, hv, ru⟩ := rv.get hx
    obtain ⟨v2, hv2, ru2⟩ := rv2.get hy
    have lz : z < s.heap.objs.size := Heap.lt_size g
    refine pn_item (I.ok.hd hc) D g t u p1 p2 q1 q2 (x := v) (y := v2) (by simpa using hv) (by simpa using hv2) fun h' g' u' r1 r2 w' kp => ?_
    refine ⟨_, rfl, wpAny_letOwnedTupleGo_zip (s := { s with heap := h' }) g' fun h2 g2 sb => ?_⟩
    have w2 : h2.get? s.heap.objs.size = some { cls := .type "tuple", data := .seq #[v, v2] } := (sb.2 _ (Nat.ne_of_gt lz)).trans w'
    have new : ObjOk X.prog X.w (upd H s.heap.objs.size (.tup [x, y])) h2 s.heap.objs.size (.tup [x, y]) := ⟨(by show 2 ≤ sizeLine; decide), [v, v2], .cons ru (.cons ru2 .nil), ⟨_, w2, rfl, _, rfl⟩⟩
    have I1 : Inv X pins σ (upd H s.heap.objs.size (.tup [x, y])) { s with heap := h2 } := by
      refine I.turnedNew (t' := s.toks) (ch := [z, TI, TO, i1, i2]) (fun c o hb m => ?_) hf (Nat.le_refl _) new
      have n1 : c ≠ z := fun q' => hb (by simp [q'])
      have n2 : c ≠ TO := fun q' => hb (by simp [q'])
      have n3 : c ≠ i1 := fun q' => hb (by simp [q'])
      have n4 : c ≠ i2 := fun q' => hb (by simp [q'])
      exact (sb.2 c n1).trans (kp c o n1 n2 n3 n4 m)
    refine ⟨.ref s.heap.objs.size, _, I1, rfl, ⟨_, x, y, rfl, I.hok.fresh (Nat.le_refl _), rfl, fun l hl => ?_, fun l hl => ?_⟩, ⟨g2, ?_, ⟨v, v2, ?_⟩, ?_, ?_⟩, fun c hcm => ?_⟩
    · rw [hl.inj I sx]
      exact hx
    · rw [hl.inj I sy]
      exact hy
    · exact (sb.2 _ D.TIz).trans (kp _ _ D.TIz D.TITO D.TIi1 D.TIi2 t)
    · exact (sb.2 _ D.TOz).trans u'
    · exact r1.mv fun o m => (sb.2 _ D.i1z).trans m
    · exact r2.mv fun o m => (sb.2 _ D.i2z).trans m
    · have lt : c < s.heap.objs.size := by
        have cs : c = z ∨ c = TI ∨ c = TO ∨ c = i1 ∨ c = i2 := by simpa using hcm
        rcases cs with q | q | q | q | q <;> rw [q]
        · exact lz
        · exact Heap.lt_size t
        · exact Heap.lt_size u
        · exact p1.lt
        · exact p2.lt
      rw [upd_ne (Nat.ne_of_lt lt)]
      exact (hf c hcm).1
  done := by
    intro X hP hw hK hc i pins s σ H E I hf st hg
    subst hP hw hK
    obtain ⟨g, t, ⟨x0, y0, u⟩, p1, p2⟩ := st
    obtain ⟨xs, ys, sx, sy, he⟩ := hg
    obtain ⟨its, rv, q1, _⟩ := sx.in I
    obtain ⟨its2, rv2, q2, _⟩ := sy.in I
    have l1 := rv.length
    have l2 := rv2.length
    have he : its.toArray[i]? = none ∨ its2.toArray[i]? = none := he.imp (fun q => by simp; omega) (fun q => by simp; omega)
    refine pn_end (I.ok.hd hc) D g t u p1 p2 q1 q2 he fun h' kp => ⟨rfl, I.turnedL (t' := s.toks) (ch := [z, TI, TO, i1, i2]) (fun c o hb m => ?_) hf⟩
    exact kp c o (fun q' => hb (by simp [q'])) (fun q' => hb (by simp [q'])) (fun q' => hb (by simp [q'])) (fun q' => hb (by simp [q'])) m
  self := fun A i s Q E st h => wpAny_pyIter_zip st.1 h
section
variable {prog : Program} {W : World} {A : Around} {E : Value → Shared → Prop} {s : Shared}
end
def iZip (K : PySem.W.Frag) (ta : TA) : TI := fun σ H R => ta σ H fun vs H1 => ∃ b1 b2 a b xs ys, vs = [.ref a, .ref b] ∧ Sq b1 K H1 a xs ∧ Sq b2 K H1 b ys ∧ R (Itz K b1 b2 a b) H1
end ZP
end L2
namespace L2
open PySem PySem.Spec PyProof.Rows
section
variable {X : Cx} {pos : Pos}
def tPar3 (i j k : Nat) (ta : TA) : TS := fun D σ H => ta σ H fun vs H1 => ∃ u v w, vs = [u, v, w] ∧ D.nx (((σ.set i (some u)).set j (some v)).set k (some w)) H1
end
end L2
namespace L2
open PySem PySem.Spec PyProof.Rows
def XObj (h : Heap) (a : Addr) (cls : Value) (dx T : Option Addr) : Prop :=
  ∃ oe vs, h.get? a = some oe ∧ oe.cls = cls ∧ oe.dict = dx ∧ oe.data = .fields vs ∧ vs[1]? = some (T.elim Value.none Value.ref)
def XTb (h : Heap) (t : Addr) (fl : Value) : Prop := ∃ ot ts, h.get? t = some ot ∧ ot.data = .fields ts ∧ ts[3]? = some fl
structure Kp (fs ch : List Addr) (h h' : Heap) : Prop where
  keep : ∀ b o, b ∉ fs → b ∉ ch → h.get? b = some o → h'.get? b = some o
  slot : ∀ b o, b ∈ fs → b ∉ ch → h.get? b = some o → ∃ sl, h'.get? b = some { o with slots := sl }
  there : ∀ b o, h.get? b = some o → ∃ o', h'.get? b = some o'
theorem Kp.refl (fs ch : List Addr) (h : Heap) : Kp fs ch h h := ⟨fun _ _ _ _ e => e, fun _ o _ _ e => ⟨o.slots, e⟩, fun _ o e => ⟨o, e⟩⟩
theorem Kp.trans {fs ch : List Addr} {h h1 h2 : Heap} (a : Kp fs ch h h1) (b : Kp fs ch h1 h2) : Kp fs ch h h2 where
  keep := fun x o n m e => b.keep x o n m (a.keep x o n m e)
  slot := fun x o n m e => by
    obtain ⟨sl, e1⟩ := a.slot x o n m e
    obtain ⟨sl', e2⟩ := b.slot x _ n m e1
    exact ⟨sl', e2⟩
  there := fun x o e => let ⟨o', e'⟩ := a.there x o e; b.there x o' e'
theorem Kp.mono {fs ch ch' : List Addr} {h h' : Heap} (a : Kp fs ch h h') (s : ∀ b o, h.get? b = some o → b ∈ ch → b ∈ ch') : Kp fs ch' h h' where
  keep := fun x o n m e => a.keep x o n (fun z => m (s x o e z)) e
  slot := fun x o n m e => a.slot x o n (fun z => m (s x o e z)) e
  there := a.there
theorem Kp.slots {l : List Addr} {h h' : Heap} (x : Heap.SlotsOnly l h h') (ch : List Addr) : Kp l ch h h' :=
  ⟨fun b o n _ e => (x.2.1 b n).trans e, fun b o _ _ e => x.2.2 b o e, fun b o e => let ⟨sl, q⟩ := x.2.2 b o e; ⟨_, q⟩⟩
theorem Kp.push {fs ch : List Addr} {h : Heap} (o : Obj) : Kp fs ch h (h.push o) :=
  ⟨fun _ _ _ _ e => Heap.get?_push_of_some _ e, fun _ u _ _ e => ⟨u.slots, Heap.get?_push_of_some _ e⟩, fun _ u e => ⟨u, Heap.get?_push_of_some _ e⟩⟩
theorem Kp.update {fs ch : List Addr} {h : Heap} {a : Addr} {o : Obj} {vs : Array Value} (e : h.get? a = some o) (d : o.data = .fields vs) (ha : a ∈ ch) (i : Nat) (x : Value) : Kp fs ch h (h.update a (Obj.mapFields (·.setIfInBounds i x))) := by
  have oth : ∀ b, b ≠ a → (h.update a (Obj.mapFields (·.setIfInBounds i x))).get? b = h.get? b := fun b hb => Heap.get?_update_other _ _ (Ne.symm hb)
  refine ⟨fun b u _ m q => (oth b fun z => m (z ▸ ha)).trans q, fun b u _ m q => ⟨u.slots, (oth b fun z => m (z ▸ ha)).trans q⟩, fun b u q => ?_⟩
  by_cases hb : b = a
  · subst hb
    exact ⟨_, Heap.get?_update_self _ e (Obj.isFreed_of_fields (Obj.data_mapFields d _))⟩
  · exact ⟨u, (oth b hb).trans q⟩
section
variable {M : Model} {A : Around} {E : Value → Shared → Prop} {s : Shared} {base : Heap} {env : Env} {outer : List Env} {L a : Addr} {cls : Value} {dx T : Option Addr}
theorem cls_mapF (o : Obj) (f : Array Value → Array Value) : (o.mapFields f).cls = o.cls ∧ (o.mapFields f).dict = o.dict := by
  obtain ⟨c, d, dt, sl⟩ := o
  cases dt <;> exact ⟨rfl, rfl⟩
theorem XObj.upd1 {h : Heap} (x : XObj h a cls dx T) (t : Addr) : XObj (h.update a (Obj.mapFields (·.setIfInBounds 1 (.ref t)))) a cls dx (some t) := by
  obtain ⟨oe, vs, e, c, d, q, h1⟩ := x
  refine ⟨_, _, Heap.get?_update_self _ e (Obj.isFreed_of_fields (Obj.data_mapFields q _)), (cls_mapF oe _).1.trans c, (cls_mapF oe _).2.trans d, Obj.data_mapFields q _, ?_⟩
  have : 1 < vs.size := (Array.getElem?_eq_some_iff.mp h1).1
  simp [this]
theorem XObj.at {h h' : Heap} (x : XObj h a cls dx T) (k : ∀ o, h.get? a = some o → h'.get? a = some o) : XObj h' a cls dx T := by
  obtain ⟨oe, vs, e, r⟩ := x
  exact ⟨oe, vs, k _ e, r⟩
theorem XTb.at {h h' : Heap} {t : Addr} {fl : Value} (x : XTb h t fl) (k : ∀ o, h.get? t = some o → h'.get? t = some o) : XTb h' t fl := by
  obtain ⟨oe, vs, e, r⟩ := x
  exact ⟨oe, vs, k _ e, r⟩
theorem XTb.upd3 {h : Heap} {t : Addr} {fl : Value} (x : XTb h t fl) (v : Value) : XTb (h.update t (Obj.mapFields (·.setIfInBounds 3 v))) t v := by
  obtain ⟨oe, vs, e, q, h1⟩ := x
  refine ⟨_, _, Heap.get?_update_self _ e (Obj.isFreed_of_fields (Obj.data_mapFields q _)), Obj.data_mapFields q _, ?_⟩
  have : 3 < vs.size := (Array.getElem?_eq_some_iff.mp h1).1
  simp [this]
theorem frame_nf {h : Heap} (hl : h.FunFrames base (env :: outer)) {b : Addr} {o : Obj} {vs : Array Value} (e : h.get? b = some o) (d : o.data = .fields vs) : b ∉ frs (env :: outer) := fun hm => by
  obtain ⟨_, o', ho, hnf⟩ := hl.mem hm
  rw [e] at ho
  cases ho
  exact hnf vs d
theorem entry_ok {head : Value} {hn : Bool} {Q : Unit → Shared → Prop} (hfr : A.frames = some (env :: outer)) (hl : s.heap.FunFrames base (env :: outer)) (hf : env.frame = some L) (x : XObj s.heap a cls dx T)
    (h : ∀ h' t, Kp (frs (env :: outer)) [a] s.heap h' → s.heap.objs.size ≤ t → XObj h' a cls dx (some t) → XTb h' t (rawInt L) → t ≠ a → Q () { s with heap := h' }) :
    wpAny M A (do setField (.ref a) 1 (← EntryCells.newEntry head (← frameOf env) .none (rawInt L) .none (← entryPlaceOf L hn))) Q E s := by
  obtain ⟨oe, vs, e, c, d, q, h1⟩ := x
  have na := frame_nf hl e q
  refine wpAny_bind (wpAny_frameOf_fun hfr hl hf fun g so => ?_)
  refine wpAny_bind (wpAny_entryPlaceOf fun pl hpl => ?_)
  unfold EntryCells.newEntry newFields
  refine wpAny_bind (wpAny_newObj_type ?_ (hpl.sizeOk5 _ _ _ _ _))
  have k1 := Kp.slots so [a]
  have e1 : g.get? a = some oe := (so.2.1 a na).trans e
  have x1 : XObj g a cls dx T := ⟨oe, vs, e1, c, d, q, h1⟩
  have ta : g.objs.size ≠ a := Nat.ne_of_gt (Heap.lt_size e1)
  have e2 := Heap.get?_push_of_some (h := g) { cls := .type "traceback", dict := none, data := .fields ([head, .ref L, .none, rawInt L, .none] ++ (if pl.isEmpty then List.replicate 6 Value.none else pl)).toArray } e1
  refine wpAny_setField e2 q (Array.getElem?_eq_some_iff.mp h1).1 (h _ g.objs.size ((k1.trans (Kp.push _)).trans (Kp.update e2 q (by simp) 1 _)) (Nat.le_of_eq so.1.symm) ?_ ?_ ta)
  · exact (x1.at fun o z => Heap.get?_push_of_some _ z).upd1 _
  · refine ⟨_, _, (Heap.get?_update_other _ _ (Ne.symm ta)).trans (Heap.get?_push_size g rfl), rfl, ?_⟩
    simp
def TrOk (h : Heap) (a : Addr) (T : Option Addr) : Prop := ∀ t, T = some t → t ≠ a ∧ ∃ fl, XTb h t fl
theorem land_ok {Q : Unit → Shared → Prop} (hfr : A.frames = some (env :: outer)) (hl : s.heap.FunFrames base (env :: outer)) (hf : env.frame = some L) (x : XObj s.heap a cls dx T) (hT : TrOk s.heap a T)
    (h : ∀ h' t, Kp (frs (env :: outer)) (a :: T.toList) s.heap h' → (T = some t ∨ s.heap.objs.size ≤ t) → XObj h' a cls dx (some t) → XTb h' t .none → t ≠ a → Q () { s with heap := h' }) :
    wpAny M A (noteFrame (.ref a) env) (fun _ s1 => wpAny M A (setFlight (.ref a) none) Q E s1) E s := by
  have lands : ∀ (g : Heap) (t : Addr) (fl : Value), Kp (frs (env :: outer)) (a :: T.toList) s.heap g → (T = some t ∨ s.heap.objs.size ≤ t) → XObj g a cls dx (some t) → XTb g t fl → t ≠ a → wpAny M A (setFlight (.ref a) none) Q E { s with heap := g } := by
    intro g t fl k ht x1 t1 ne
    obtain ⟨oe, vs, e, c, d, q, h1⟩ := id x1
    obtain ⟨ot, ts, et, qt, h3⟩ := id t1
    unfold setFlight
    refine wpAny_bind (wpAny_field e q h1 ?_)
    rw [if_pos (show (((some t : Option Addr).elim Value.none Value.ref) != Value.none) = true from by simp)]
    refine wpAny_setField et qt (Array.getElem?_eq_some_iff.mp h3).1 (h _ t ⟨fun b o n m z => ?_, fun b o n m z => ?_, fun b o z => ?_⟩ ht (x1.at fun o z => (Heap.get?_update_other _ _ ne).trans z) (t1.upd3 _) ne)
    · have nt : t ≠ b := fun w => by
        subst w
        rcases ht with ht | ht
        · exact m (by rw [ht]; simp)
        · exact absurd (Heap.lt_size z) (Nat.not_lt.mpr ht)
      exact (Heap.get?_update_other _ _ nt).trans (k.keep b o n m z)
    · have nt : t ≠ b := fun w => by
        subst w
        rcases ht with ht | ht
        · exact m (by rw [ht]; simp)
        · exact absurd (Heap.lt_size z) (Nat.not_lt.mpr ht)
      obtain ⟨sl, z'⟩ := k.slot b o n m z
      exact ⟨sl, (Heap.get?_update_other _ _ nt).trans z'⟩
    · obtain ⟨o', z'⟩ := k.there b o z
      exact (Kp.update (fs := []) (ch := [t]) et qt (by simp) 3 _).there b o' z'
  obtain ⟨oe, vs, e, c, d, q, h1⟩ := id x
  unfold noteFrame
  simp only [hf]
  refine wpAny_bind (wpAny_field e q h1 ?_)
  cases T with
  | none =>
    rw [if_neg (show ¬ (((none : Option Addr).elim Value.none Value.ref) != Value.none) = true from by simp)]
    exact entry_ok hfr hl hf x fun g t k ht x1 t1 ne => lands g t _ (k.mono fun b o _ z => by simpa using z) (.inr ht) x1 t1 ne
  | some t0 =>
    obtain ⟨ne0, fl, t1⟩ := hT t0 rfl
    obtain ⟨ot, ts, et, qt, h3⟩ := id t1
    rw [if_pos (show (((some t0 : Option Addr).elim Value.none Value.ref) != Value.none) = true from by simp)]
    refine wpAny_bind (wpAny_field et qt h3 ?_)
    by_cases hw : (fl == rawInt L) = true
    · rw [if_pos hw]
      exact wpAny_pure (lands s.heap t0 fl (Kp.refl _ _ _) (.inl rfl) x t1 ne0)
    · rw [if_neg hw]
      have ku : Kp (frs (env :: outer)) (a :: (some t0 : Option Addr).toList) s.heap (s.heap.update t0 (Obj.mapFields (·.setIfInBounds 3 Value.none))) := Kp.update et qt (by simp) 3 _
      refine wpAny_bind (wpAny_setField et qt (Array.getElem?_eq_some_iff.mp h3).1 ?_)
      have hl' : (s.heap.update t0 (Obj.mapFields (·.setIfInBounds 3 Value.none))).FunFrames base (env :: outer) := hl.of_keeps fun b o z nf => ⟨o, (Heap.get?_update_other _ _ (show t0 ≠ b from fun w => by subst w; rw [et] at z; cases z; exact nf _ qt)).trans z, rfl⟩
      have x' : XObj (s.heap.update t0 (Obj.mapFields (·.setIfInBounds 3 Value.none))) a cls dx (some t0) := x.at fun o z => (Heap.get?_update_other _ _ ne0).trans z
      refine entry_ok (s := { s with heap := s.heap.update t0 (Obj.mapFields (·.setIfInBounds 3 Value.none)) }) hfr hl' hf x' fun g t k ht x1 t2 ne => lands g t _ (ku.trans (k.mono fun b o _ z => by simp at z; simp [z])) (.inr ?_) x1 t2 ne
      have sz : (s.heap.update t0 (Obj.mapFields (·.setIfInBounds 3 Value.none))).objs.size = s.heap.objs.size := Heap.size_update ..
      exact Nat.le_trans (Nat.le_of_eq sz.symm) ht
theorem leave_ok {Q : Unit → Shared → Prop} (hfr : A.frames = some (env :: outer)) (hl : s.heap.FunFrames base (env :: outer)) (hf : env.frame = some L) (x : XObj s.heap a cls dx T) (hT : TrOk s.heap a T)
    (h : ∀ h' t, Kp (frs (env :: outer)) (a :: T.toList) s.heap h' → (T = some t ∨ s.heap.objs.size ≤ t) → XObj h' a cls dx (some t) → XTb h' t .none → t ≠ a → Q () { s with heap := h' }) :
    wpAny M A (leaving env (.ref a)) Q E s := by
  unfold leaving
  exact wpAny_bind (land_ok hfr hl hf x hT h)
end
section
variable {X : Cx} {pins : List (Addr × Obj)} {σ : List (Option V)} {H H' : Hp} {s : Shared} {h' : Heap}
theorem Inv.step0 {g' : Array GenState} {t' : Nat} {d' : Drawn} {ch : List Addr} (I : Inv X pins σ H s)
    (hch : ∀ b ∈ ch, (b ∈ X.ex ∨ X.s_0.heap.get? b = none) ∧ b ≠ X.env.locals ∧ (∀ x c, X.env.cells.lookup x = some c → c ≠ b) ∧ ∀ p ∈ X.pn ++ pins, p.1 ≠ b)
    (keep : ∀ b o, b ≠ X.env.locals → b ∉ X.fs → b ∉ ch → s.heap.get? b = some o → H b = none → h'.get? b = some o)
    (slot : ∀ b o, b ≠ X.env.locals → b ∈ X.fs → b ∉ ch → s.heap.get? b = some o → H b = none → ∃ sl, h'.get? b = some { o with slots := sl }) (free : ∀ b o, b ∉ ch → s.heap.get? b = some o → H b = none → H' b = none)
    (there : ∀ b o, b ∉ ch → s.heap.get? b = some o → ∃ o', h'.get? b = some o')
    (tups : ∀ b xs, H b = some (.tup xs) → H' b = some (.tup xs)) (frzs : ∀ b o u, H b = some (.frz o u) → H' b = some (.frz o u)) (tbls : ∀ b ps, H b = some (.tbl ps) → ∃ more, H' b = some (.tbl (ps ++ more)))
    (ns : ∀ m, s.heap.Ns X.env.locals m → h'.Ns X.env.locals m) (hok : HOk X.prog X.w H' h') (hg : AllBare g') :
    Inv X pins σ H' { s with heap := h', gens := g', drawn := d', toks := t' } := by
  have neL : ∀ b o, X.s_0.heap.get? b = some o → b ≠ X.env.locals := fun b o e => Nat.ne_of_lt (Nat.lt_of_lt_of_le (Heap.lt_size e) I.ok.above)
  have neC : ∀ b o, X.s_0.heap.get? b = some o → b ∉ X.ex → b ∉ ch := fun b o e hx hb => by
    rcases (hch b hb).1 with z | z
    · exact hx z
    · rw [z] at e
      cases e
  have cellK : ∀ x c, X.env.cells.lookup x = some c → ∀ v, s.heap.IsCell c v → h'.IsCell c v := fun x c e v ⟨o, ho, hd⟩ => by
    have nch : c ∉ ch := fun z => (hch c z).2.2.1 x c e rfl
    by_cases hc : c ∈ X.fs
    · obtain ⟨sl, q⟩ := slot c o (I.cne x c e) hc nch ho (I.freeC x c e)
      exact ⟨_, q, hd⟩
    · exact ⟨o, keep c o (I.cne x c e) hc nch ho (I.freeC x c e), hd⟩
  refine ⟨I.ok, I.os, hg, ⟨fun b o e n hb hx => ?_, fun b o e n hb hx => ?_, fun b o e n hx => ?_, fun b o e hx => ?_, fun b xs e => tups b xs (I.base.tups b xs e), fun b o xs e => frzs b o xs (I.base.frzs b o xs e), fun b ps e => ?_⟩, ?_, fun x c e => ?_, ?_, fun x c e => ?_, fun p hp => ?_, hok, I.len⟩
  · exact keep b o (neL b o e) hb (neC b o e hx) (I.base.keep b o e n hb hx) (I.base.free b o e n hx)
  · obtain ⟨sl, e1⟩ := I.base.slot b o e n hb hx
    obtain ⟨sl', e2⟩ := slot b _ (neL b o e) hb (neC b o e hx) e1 (I.base.free b o e n hx)
    exact ⟨sl', e2⟩
  · obtain ⟨o', e1⟩ := I.base.there b o e hx
    exact free b o' (neC b o e hx) e1 (I.base.free b o e n hx)
  · obtain ⟨o', e1⟩ := I.base.there b o e hx
    exact there b o' (neC b o e hx) e1
  · obtain ⟨m1, e1⟩ := I.base.tbls b ps e
    obtain ⟨m2, e2⟩ := tbls b _ e1
    exact ⟨m1 ++ m2, by rw [e2, Array.append_assoc]⟩
  · obtain ⟨m, hn, hl⟩ := I.loc
    refine ⟨m, ns m hn, fun i x v e1 e2 e3 => ?_⟩
    obtain ⟨u, r, l⟩ := hl i x v e1 e2 e3
    refine ⟨u, r, ?_⟩
    rcases l with l | ⟨k, c, e, z⟩
    · exact .inl l
    · exact .inr ⟨k, c, e, cellK x c e _ z⟩
  · obtain ⟨v, z⟩ := I.cell x c e
    exact ⟨v, cellK x c e v z⟩
  · obtain ⟨m, ⟨o, _, _, ho, _⟩, _⟩ := I.loc
    exact free _ o (fun z => (hch _ z).2.1 rfl) ho I.free
  · obtain ⟨v, o, ho, hd⟩ := I.cell x c e
    exact free c o (fun z => (hch c z).2.2.1 x c e rfl) ho (I.freeC x c e)
  · obtain ⟨e, n, ne, nf, d⟩ := I.pin p hp
    have nch : p.1 ∉ ch := fun z => (hch p.1 z).2.2.2 p hp rfl
    exact ⟨keep p.1 p.2 ne nf nch e n, free p.1 p.2 nch e n, ne, nf, d⟩
end
def CX1 (P : Program) (w : World) : CXT := fun outer H s E e s' => ∃ (a t : Addr) (cls : Value) (dx : Option Addr) (H' : Hp), e = .ref a ∧ s'.os = s.os ∧ AllBare s'.gens ∧ Un (frs outer) [] H H' s.heap s'.heap ∧ HOk P w H' s'.heap ∧
  XObj s'.heap a cls dx (some t) ∧ XTb s'.heap t .none ∧ t ≠ a ∧ s.heap.get? a = none ∧ s.heap.get? t = none ∧ H' a = none ∧ H' t = none ∧ E cls dx H'
structure BX (X : Cx) (H : Hp) (s : Shared) (a : Addr) (cls : Value) (dx T : Option Addr) : Prop where
  ob : XObj s.heap a cls dx T
  tr : TrOk s.heap a T
  new : ∀ b ∈ a :: T.toList, X.s_0.heap.get? b = none ∧ H b = none ∧ ∀ p ∈ X.pn, p.1 ≠ b
section
variable {X : Cx} {pins : List (Addr × Obj)} {σ : St} {H : Hp} {s : Shared} {a : Addr} {cls : Value} {dx T : Option Addr}
theorem Inv.nopins (I : Inv X pins σ H s) : Inv X [] σ H s := I.pins_of fun p hp => absurd hp (by simp)
theorem BX.fields (B : BX X H s a cls dx T) : ∀ b ∈ a :: T.toList, ∃ o vs, s.heap.get? b = some o ∧ o.data = .fields vs := fun b hb => by
  rcases List.mem_cons.mp hb with rfl | hb
  · obtain ⟨oe, vs, e, _, _, q, _⟩ := B.ob
    exact ⟨oe, vs, e, q⟩
  · cases T with
    | none => simp at hb
    | some t =>
      have : b = t := by simpa using hb
      subst this
      obtain ⟨_, _, ot, ts, e, q, _⟩ := B.tr b rfl
      exact ⟨ot, ts, e, q⟩
theorem BX.landed (B : BX X H s a cls dx T) (I : Inv X pins σ H s) {h' : Heap} {t : Addr} (k : Kp (frs X.stack) (a :: T.toList) s.heap h') : Inv X [] σ H { s with heap := h' } := by
  have J := I.nopins
  obtain ⟨m, ⟨oL, es, ep, hL, dL, rL⟩, _⟩ := id I.loc
  refine J.step0 (g' := s.gens) (t' := s.toks) (d' := s.drawn) (H' := H) (h' := h') (ch := a :: T.toList) (fun b hb => ⟨.inr (B.new b hb).1, fun z => ?_, fun x c hc z => ?_, fun p hp => ?_⟩) (fun b o n m hx e _ => k.keep b o (fun z => (List.mem_cons.mp (I.stkSub b z)).elim n m) hx e)
    (fun b o n m hx e _ => ?_) (fun b o _ _ n => n) (fun b o _ e => k.there b o e) (fun b xs e => e) (fun b o u e => e) (fun b ps e => ⟨#[], by rw [e]; simp⟩) (fun m' hm => ?_) (fun b o e => ?_) I.bare
  · obtain ⟨o, vs, e, q⟩ := B.fields b hb
    rw [z, hL] at e
    cases e
    rw [dL] at q
    cases q
  · obtain ⟨v, o', ho', hd'⟩ := I.cell x c hc
    obtain ⟨o, vs, e, q⟩ := B.fields b hb
    rw [z, e] at ho'
    cases ho'
    rw [q] at hd'
    cases hd'
  · rw [List.append_nil] at hp
    exact (B.new b hb).2.2 p hp
  · by_cases hf : b ∈ frs X.stack
    · exact k.slot b o hf hx e
    · exact ⟨o.slots, k.keep b o hf hx e⟩
  · obtain ⟨o', es', ep', ho', r'⟩ := hm
    have nL : X.env.locals ∉ a :: T.toList := fun z => by
      obtain ⟨o, vs, e, q⟩ := B.fields _ z
      rw [hL] at e
      cases e
      rw [dL] at q
      cases q
    rw [hL] at ho'
    cases ho'
    by_cases hf : X.env.locals ∈ frs X.stack
    · obtain ⟨sl, z⟩ := k.slot _ _ hf nL hL
      exact ⟨_, es', ep', z, r'⟩
    · exact ⟨_, es', ep', k.keep _ _ hf nL hL, r'⟩
  · have nb : ∀ c, (c = b ∨ H c = some (.own b)) → c ∉ a :: T.toList := fun c hc hm => by
      have := (B.new c hm).2.1
      rcases hc with rfl | hc
      · rw [this] at e; cases e
      · rw [this] at hc; cases hc
    have nf : ∀ c, (c = b ∨ H c = some (.own b)) → c ∉ frs X.stack := fun c hc hm => by
      have := I.stkFree c hm
      rcases hc with rfl | hc
      · rw [this] at e; cases e
      · rw [this] at hc; cases hc
    exact (I.hok b o e).stay (fun c u hc z => k.keep c u (nf c hc) (nb c hc) z) (fun _ z => z) fun _ _ z => z
def Flies (X : Cx) (E : XK) : Prop := ∀ (pins : List (Addr × Obj)) (σ : St) (H : Hp) (s : Shared) (a : Addr) (cls : Value) (dx T : Option Addr), Inv X pins σ H s → BX X H s a cls dx T → E cls dx H → X.xe (.ref a) s
theorem flies_def {P : Program} {w : World} {K : PySem.W.Frag} {mg : Str → Option Value} {base : Heap} {N : List Str} {qual : Str} {scope : Scope} {f : Addr} {cd : Value} {A : Around} {outer : List Env} {s : Shared} {H : Hp} {E : XK} : Flies (cxOf (CX1 P w) P w K mg base N qual scope f cd A outer s H E) E := by
  intro pins σ H1 s1 a cls dx T I B hE
  refine leave_ok (base := base) (env := envOfC qual scope s.heap.objs.size f cd) (outer := outer) (L := s.heap.objs.size) I.ok.frames I.stack rfl B.ob B.tr fun h' t k ht x1 t1 ne => ?_
  have J := B.landed I (t := t) k
  refine ⟨a, t, cls, dx, H1, rfl, J.os, J.bare, J.base, J.hok, x1, t1, ne, (B.new a (by simp)).1, ?_, (B.new a (by simp)).2.1, ?_, hE⟩
  · rcases ht with ht | ht
    · exact (B.new t (by rw [ht]; simp)).1
    · exact Heap.get?_none_of_le (Nat.le_trans I.sz ht)
  · rcases ht with ht | ht
    · exact (B.new t (by rw [ht]; simp)).2.1
    · exact I.hok.fresh ht
theorem Flies.never : Flies X (fun _ _ _ => False) := fun _ _ _ _ _ _ _ _ _ _ h => h.elim
theorem Inv.newAt (I : Inv X pins σ H s) (hx : X.ex = []) {b : Addr} (e : s.heap.get? b = none) : X.s_0.heap.get? b = none ∧ ∀ p ∈ X.pn, p.1 ≠ b := by
  refine ⟨?_, fun p hp z => ?_⟩
  · cases q : X.s_0.heap.get? b with
    | none => rfl
    | some o =>
      obtain ⟨o', q'⟩ := I.base.there b o q (by rw [hx]; simp)
      rw [e] at q'
      cases q'
  · obtain ⟨q, _⟩ := I.pin p (List.mem_append_left _ hp)
    rw [z, e] at q
    cases q
theorem HOk.none_at {P : Program} {w : World} {h : Heap} (hok : HOk P w H h) {b : Addr} (e : h.get? b = none) : H b = none := by
  cases q : H b with
  | none => rfl
  | some o =>
    exfalso
    have x := hok b o q
    have key : ∀ o : HO, ObjOk P w H h b o → False := by
      intro o
      induction o with
      | lst xs => intro x; obtain ⟨_, _, _, _, z⟩ := x; rw [e] at z; cases z
      | tup xs => intro x; obtain ⟨_, _, _, o', z, _⟩ := x; rw [e] at z; cases z
      | dK kvs => intro x; obtain ⟨_, _, _, _, o, _, _, z, _⟩ := x; rw [e] at z; cases z
      | dT kvs => intro x; obtain ⟨_, _, _, _, o, _, _, z, _⟩ := x; rw [e] at z; cases z
      | set S n => intro x; obtain ⟨o, _, _, _, z, _⟩ := x; rw [e] at z; cases z
      | ins C dx fs => intro x; obtain ⟨_, _, _, z, _⟩ := x; rw [e] at z; cases z
      | own y => intro x; obtain ⟨_, z⟩ := x; rw [e] at z; cases z
      | xd fs => intro x; obtain ⟨_, ⟨_, _, _, z, _⟩, _⟩ := x; rw [e] at z; cases z
      | rng lo hi => intro x; obtain ⟨_, _, _, z⟩ := x; rw [e] at z; cases z
      | frz ob u ih => intro x; obtain ⟨z, _⟩ := x; rw [e] at z; cases z
      | tbl ps => intro x; have z : h.get? b = some _ := x; rw [e] at z; cases z
      | met f y => intro x; have z : h.get? b = some _ := x; rw [e] at z; cases z
      | ext φ => intro x; obtain ⟨_, ⟨_, z⟩, _⟩ := x; rw [e] at z; cases z
    exact key o x
theorem Flies.passes {E : XK} (F : Flies X E) (hx : X.ex = []) : Passes (CX1 X.prog X.w) X E := by
  intro pins σ H s e s' I h
  obtain ⟨a, t, cls, dx, H', rfl, os, bare, un, hok, x, tb, ne, za, zt, na, nt, hE⟩ := h
  have J : Inv X pins σ H' s' := I.call' (ch := []) os un hok bare fun b z => absurd z (by simp)
  refine F pins σ H' s' a cls dx (some t) J ⟨x, fun t' q => by cases q; exact ⟨ne, _, tb⟩, fun b hb => ?_⟩ hE
  rcases List.mem_cons.mp hb with rfl | hb
  · exact ⟨(I.newAt hx za).1, na, (I.newAt hx za).2⟩
  · have : b = t := by simpa using hb
    subst this
    exact ⟨(I.newAt hx zt).1, nt, (I.newAt hx zt).2⟩
theorem passes_def {P : Program} {w : World} {K : PySem.W.Frag} {mg : Str → Option Value} {base : Heap} {N : List Str} {qual : Str} {scope : Scope} {f : Addr} {cd : Value} {A : Around} {outer : List Env} {s : Shared} {H : Hp} {E : XK} :
    PassesOwn (model P w) (cxOf (CX1 P w) P w K mg base N qual scope f cd A outer s H E).A (cxOf (CX1 P w) P w K mg base N qual scope f cd A outer s H E).env (cxOf (CX1 P w) P w K mg base N qual scope f cd A outer s H E).xe := PassesOwn.leaving
end
end L2
namespace L2
open PySem PySem.Spec PyProof.Rows
abbrev veMro : List Value := [.type "ValueError", .type "Exception", .type "BaseException", .type "object"]
section
variable {M : Model} {A : Around} {E : Value → Shared → Prop} {env : Env} {nm q : Str} {C N : Addr} {bs bm : List Value} {hdct : Bool} {sn : List Str} {sub : List Value} {ab : Bool} {col : Option Bool} {dd : Option Addr} {k0 k1 k2 k3 k5 : Option Value} {newId : String}
end
structure XC0 (K : PySem.W.Frag) (C : Addr) : Prop where
  ex : PySem.W.excIn K C veMro "ValueError.__new__" = true
  kp : PySem.W.keepIn K (.ref C) = true
theorem XC0.own {K : PySem.W.Frag} {C : Addr} (c : XC0 K C) {h : Heap} (X : K.In h) : ∃ bm N nm q bs hdct sn sub ab col dd k0 k1 k2 k3 k5 mN, h.get? C = some (excClassObj nm q C N bs bm hdct sn sub ab col dd k0 k1 k2 k3 k5 "ValueError.__new__") ∧ h.Ns N mN ∧ mN "__init__" = none ∧ OwnTail h veMro bm := by
  have q := c.ex
  unfold PySem.W.excIn at q
  split at q
  · rename_i dd cd sl ho
    split at q
    · rename_i C' bm k0 k1 k2 k3 n k5 hm hs
      simp only [Bool.and_eq_true, beq_iff_eq, Bool.not_eq_true'] at q
      obtain ⟨⟨⟨⟨⟨rfl, rfl⟩, hdel⟩, ht⟩, hok⟩, hni⟩ := q
      obtain ⟨nm, bs, mro, ns, qn, hd, sn, sub, ab, col, del⟩ := cd
      dsimp only at hm hdel hok hni
      subst hm hdel
      have e : sl = #[k0, k1, k2, k3, some (.builtin "ValueError.__new__"), k5] := by
        obtain ⟨l⟩ := sl
        simp only at hs
        rw [hs]
      subst e
      exact ⟨bm, ns, nm, qn, bs, hd, sn, sub, ab, col, dd, k0, k1, k2, k3, k5, _, X _ _ ho, .of_isNs (PySem.W.isNs_of_in X hok), PySem.W.nsMap_none_of_in X hok hni, PySem.W.tail_of_in X ht⟩
    · cases q
  · cases q
section
variable {X : Cx} {x : Str} {p cpos pos : Pos} {e : Expr} {es : List Expr} {t : TA} {C : Addr} {E : XK}
def sRaise0 (C : Addr) (E : XK) (t : TA) : TS := fun _ σ H => t σ H fun vs H1 => vs.length ≤ sizeLine ∧ E (.ref C) none H1
theorem ps_raise0 (c : XC0 X.K C) (F : Flies X E) (hg : Gl X x) (hm : X.mg x = some (.ref C)) (hc : X.calm = true) (hx0 : X.ex = []) (ha : PA X (e :: es) t) (hdb : (x == ("__debug__" : Str)) = false := by decide)
    (he : starEach (e :: es) X.env = (false, eval e X.env) :: starEach es X.env := by rfl) (hpl : (backTo cpos (starEach (e :: es) X.env)).any (·.1) = false := by rfl) :
    PS X (.Raise (some (.Call (.Name x p) (e :: es) [] cpos)) none pos) (sRaise0 C E t) := by
  intro pins s σ H D I h
  obtain ⟨bm, N, nm, q, bs, hdct, sn, sub, ab, col, dd, k0, k1, k2, k3, k5, mN, hC, hN, hni, hT⟩ := c.own I.ok.mod.kin
  refine wpAny_Raise_call_subU (nm := nm) (q := q) (C := C) (N := N) (bs := bs) (bm := bm) (hdct := hdct) (sn := sn) (sub := sub) (ab := ab) (col := col) (dd := dd) (k0 := k0) (k1 := k1) (k2 := k2) (k3 := k3) (k5 := k5) (mN := mN) PySem.F.excBase_ValueError (by decide +kernel) PySem.F.excBase_ValueError (OwnTail.hasType hT (X := "BaseException") (by decide +kernel)) (I.ok.hd hc) hpl hni ?_
  refine ld_glob I hg hm ⟨rfl, ?_⟩ hdb
  rw [he]
  refine Calls.evalArgs_plain (thn ?_ fun us s1 h1 => h1)
  have := ha cpos pins s σ H _ I h
  rw [he] at this
  refine thn this fun us s1 ⟨vs, H1, I1, r, z, q1⟩ => ⟨rfl, by rw [← r.length]; exact z, I1.bk _ _ hC, ?_, ?_, fun h' a hx => ?_⟩
  · obtain ⟨o, es', ep, e', r'⟩ := hN
    exact ⟨o, es', ep, I1.bk _ _ e', r'⟩
  · exact hT.keeps fun b o z => I1.bk b o z
  · obtain ⟨t0, e1, _, _⟩ := hx.there
    refine F pins σ H1 _ a (.ref C) none none (I1.kept (t' := s1.toks) hx.keeps) ⟨⟨_, _, e1, rfl, rfl, rfl, rfl⟩, (fun t z => nomatch z), fun b hb => ?_⟩ q1
    have : b = a := by simpa using hb
    subst this
    exact ⟨(I1.newAt hx0 hx.new).1, I1.hok.none_at hx.new, (I1.newAt hx0 hx.new).2⟩
end
end L2
namespace L2
open PySem PySem.Spec PyProof.Rows
def XF (a C : Addr) (dx : Option Addr) : Heap → Prop := fun h => ∃ vs sl, h.get? a = some { cls := .ref C, dict := dx, data := .fields vs, slots := sl }
def XHas (H : Hp) (a C : Addr) (fs : List (Str × V)) : Prop := ∃ dx, H a = some (.ext (XF a C dx)) ∧ match dx with
  | none => fs = []
  | some d => H d = some (.xd fs)
structure XCl (K : PySem.W.Frag) (C : Addr) : Prop where
  ga : PySem.W.findIn K (.ref C) "__getattribute__" = some (some (.builtin "BaseException.__getattribute__"))
  gh : PySem.W.findIn K (.ref C) "__getattr__" = some none
  be : PySem.W.mroIn K C (.type "BaseException") = some true
  hd : PySem.W.hasDictIn K C = true
  ca : PySem.W.findIn K (.ref C) "__class__" = some (some (.builtin "object.__class__"))
  sp : PySem.W.specialIn K (.builtin "object.__class__") "__get__" = some (some (.builtin "getset_descriptor.__get__"))
  tk : PySem.W.takesIn K (.builtin "object.__class__") = some true
  mr : PySem.W.mroIn K C (.type "object") = some true
theorem bga_kind : builtinKind "BaseException.__getattribute__" = some .slot := by decide +kernel
theorem bga_split : splitId "BaseException.__getattribute__" = some ("BaseException", "__getattribute__") := by decide +kernel
theorem bga_plain : plainId "BaseException.__getattribute__" = true := by decide +kernel
theorem bga_bind (self : Value) : bindSpecial (.builtin "BaseException.__getattribute__") self = pure (.builtin "BaseException.__getattribute__", [self]) := by
  have hop : withoutEnding? "BaseException.__getattribute__" "#opaque" = none := by decide +kernel
  have hdat : withoutEnding? "BaseException.__getattribute__" "#data" = none := by decide +kernel
  simp only [bindSpecial, typeOf, builtinType, hop, hdat, bga_kind]; rfl
section
variable {prog : Program} {w : World} {A : Around} {E : Value → Shared → Prop} {s : Shared} {K : PySem.W.Frag} {x C : Addr} {ox : Obj} {od : Option Obj} {name : Str}
theorem xget_by {r : Builtin.ObjectAttr.Found} {tk : Tok} {fill expr : Bool} {Q : Value → Shared → Prop} (c : XCl K C) (X : K.In s.heap) (I : PySem.W.InstAt s.heap x ox C od) (hf : PySem.W.findObj K C od name = some r)
    (h : match r with
      | .value v => wpAny (model prog w) A (handedOut v) Q E s
      | .bind g a => wpAny (model prog w) A.in1 (call g [a, .ref x, .ref C]) (fun v s' => wpAny (model prog w) A (handedOut v) Q E s') (fun _ _ => False) s
      | .missing => False) : wpAny (model prog w) A (getAttrBy (.ref x) (.str name tk) fill expr) Q E s := by
  obtain ⟨hh, g, d, t, os⟩ := s
  have L0 := I.type (M := model prog w)
  have L1 := PySem.W.looks_findIn (M := model prog w) X c.ga
  have L2 := PySem.W.looks_findIn (M := model prog w) X c.gh
  have L3 := PySem.W.looks_find (M := model prog w) X I hf
  have L4 := PySem.W.looks_mroIn (M := model prog w) X c.be
  unfold getAttrBy
  refine wpAny_holding (wpAny_bind (L0.at (wpAny_bind (L1.at ?_))))
  show wpAny _ _ (if (onTheHeap (.ref C) && (Value.builtin "BaseException.__getattribute__" == Value.builtin "object.__getattribute__")) = true then _ else _) _ _ _
  rw [show (Value.builtin "BaseException.__getattribute__" == Value.builtin "object.__getattribute__") = false by decide +kernel, Bool.and_false, if_neg (by decide)]
  unfold getAttrByItsOwn hookBefore callGetattribute boundAndCalled
  refine wpAny_bind ?_
  show wpAny _ _ (typeLookup (.ref C) "__getattr__") _ _ _
  refine L2.at ?_
  refine wpAny_bind (wpAny_attempt (wpAny_holding ?_))
  rw [show (expr && onTheHeap (.builtin "BaseException.__getattribute__")) = false by cases expr <;> rfl, if_neg (by decide)]
  refine wpAny_bind (wpAny_of_eq (bga_bind _) ?_)
  have L5 : PySem.W.Looks (model prog w) hh (isInstance (.ref x) (.type "BaseException")) true := L0.andThen L4
  refine wpAny_call (codeAny_call_builtin bga_plain PySem.F.entry_bexc_ga (@PySem.W.check_slot (model prog w) _ _ ⟨hh, g, d, t, os⟩ "BaseException.__getattribute__" "BaseException" "__getattribute__" (.ref x) [.str name tk] [] _ bga_kind bga_split L5 (PySem.F.args_bexc_ga _ _) ?_))
  unfold Builtin.«object.__getattribute__» slotArgs
  refine wpAny_bind (wpAny_pure ?_)
  refine wpAny_bind (wpAny_pure (wpAny_bind (L0.at (wpAny_bind (L3.at ?_)))))
  cases r with
  | value v => exact wpAny_pure h
  | bind g' a =>
    refine wpAny_bind (wpAny_holding (wpAny_mono h (fun v s' hv => wpAny_pure hv) fun _ _ z => z.elim))
  | missing => exact h.elim
end
section
variable {K : PySem.W.Frag} {x D : Addr} {ox : Obj} {od : Option Obj}
theorem findObj_any {name : Str} {a g : Value} (hc : (PySem.W.clsIn K D).isSome = true) (ha : PySem.W.findIn K (.ref D) name = some (some a)) (hg : PySem.W.specialIn K a "__get__" = some (some g)) (ht : PySem.W.takesIn K a = some true) : PySem.W.findObj K D od name = some (.bind g a) := by
  obtain ⟨cd, hc⟩ := Option.isSome_iff_exists.mp hc
  unfold PySem.W.findObj
  rw [hc, Option.bind_some, ha, Option.bind_some]
  simp [hg, ht]
theorem xcls_there (h : PySem.W.hasDictIn K D = true) : ∃ o cd, K.lookup D = some o ∧ o.data = .cls cd := by
  obtain ⟨cd, hc, _⟩ := PySem.W.any_some h
  unfold PySem.W.clsIn at hc
  split at hc
  · exact ⟨_, _, by assumption, rfl⟩
  · cases hc
theorem kitx_exc (c : XCl K D) : PySem.W.KitX K (.ref x) (.ref D) (fun h => ∃ ox od, PySem.W.InstAt h x ox D od) where
  ty := fun _ _ _ ⟨_, _, I⟩ => I.type
  it := fun _ _ X _ => by
    obtain ⟨o, cd, ho, hd⟩ := xcls_there c.hd
    intro A' Q' E' s' k q
    unfold isType loadHead
    refine wpAny_bind (wpAny_loadPart (k _ _ (X _ _ ho)) ?_)
    rw [hd]
    exact wpAny_pure q
  ne := fun h tp dd its n sl X htp => by
    obtain ⟨o, cd, ho, hd⟩ := xcls_there c.hd
    refine Bool.eq_false_iff.mpr fun q => ?_
    obtain rfl : D = tp := Value.ref.inj (beq_iff_eq.mp q)
    have z := (X _ _ ho).symm.trans htp
    cases z
    cases hd
  ca := fun {prog w A E Q s} X ⟨ox, od, I⟩ k => by
    have hf : PySem.W.findObj K D od "__class__" = some (.bind (.builtin "getset_descriptor.__get__") (.builtin "object.__class__")) := findObj_any (by obtain ⟨cd, hc, _⟩ := PySem.W.any_some c.hd; rw [hc]; rfl) c.ca c.sp c.tk
    unfold getAttr? getAttrBy?
    refine wpAny_bind (wpAny_mkText (wpAny_bind (wpAny_attempt ?_)))
    refine xget_by (s := { s with toks := s.toks + 1 }) c X I hf ?_
    exact wpAny_call (PySem.W.class_get (s := { s with toks := s.toks + 1 }) (ox := ox) (od := od) X I c.mr (PySem.W.handed_on rfl (wpAny_pure k)))
end
section
variable {X : Cx} {pins : List (Addr × Obj)} {σ : St} {H : Hp} {s : Shared} {a C : Addr} {fs : List (Str × V)}
theorem XHas.inst (I : Inv X pins σ H s) (h : XHas H a C fs) : ∃ (ox : Obj) (od : Option Obj) (mA : Str → Option Value), PySem.W.InstAt s.heap a ox C od ∧ (∀ f, RelO (fs.lookup f) (mA f)) ∧ ∀ f v, mA f = some v → ∃ o, od = some o ∧ PySem.W.lookIn f o = some (some v) := by
  obtain ⟨dx, h1, h2⟩ := h
  obtain ⟨⟨vs, sl, e⟩, _, _⟩ := (show ObjOk X.prog X.w H s.heap a (.ext (XF a C dx)) from I.hok a _ h1)
  cases dx with
  | none =>
    obtain rfl : fs = [] := h2
    exact ⟨_, none, fun _ => none, ⟨e, rfl, rfl, trivial⟩, fun f => trivial, fun f v z => by cases z⟩
  | some d =>
    obtain ⟨mA, hn, r⟩ := (show ObjOk X.prog X.w H s.heap d (.xd fs) from I.hok d _ h2)
    obtain ⟨o, e2, hl⟩ := lookIn_ns hn
    exact ⟨_, some o, mA, ⟨e, rfl, rfl, e2⟩, r, fun f v z => ⟨o, rfl, by rw [hl, z]⟩⟩
end
section
variable {X : Cx} {e : Expr} {f : Str} {pos : Pos} {ta : TE}
def tXfld (K : PySem.W.Frag) (ta : TE) (f : Str) : TE := fun σ H Q => ta σ H fun x H1 => ∃ a C fs v, x = .ref a ∧ XHas H1 a C fs ∧ XCl K C ∧ NoAttr K C f ∧ fs.lookup f = some v ∧ Q v H1
def clsVal : V → Value
  | .ref D => .ref D
  | .ty T => .type T
  | _ => .none
def AskB (K : PySem.W.Frag) (H : Hp) (t : Value) (c : V) (b : Bool) : Prop := ((∃ D, c = .ref D) ∨ ∃ T, c = .ty T) ∧ PySem.W.kitOne K t (clsVal c) = some b ∨
  ∃ tp cs, c = .ref tp ∧ H tp = some (.tup cs) ∧ (∀ y ∈ cs, (∃ D, y = .ref D) ∨ ∃ T, y = .ty T) ∧ PySem.W.kitAny K t (cs.map clsVal) = some b
theorem clsVal_rel {c : V} {u : Value} (h : (∃ D, c = .ref D) ∨ ∃ T, c = .ty T) (r : RelV c u) : u = clsVal c := by
  rcases h with ⟨D, rfl⟩ | ⟨T, rfl⟩ <;> exact r
theorem clsVal_rels : ∀ {cs : List V} {us : List Value}, (∀ y ∈ cs, (∃ D, y = .ref D) ∨ ∃ T, y = .ty T) → Vals cs us → us = cs.map clsVal
  | [], _, _, h => by cases h; rfl
  | c :: cs, _, k, h => by
    cases h with
    | cons r q =>
      rw [clsVal_rel (k c (by simp)) r, clsVal_rels (fun y hy => k y (by simp [hy])) q]
      rfl
theorem call_isx : CallR X (.builtin "isinstance") (fun xs H Q => ∃ a C fs c b, xs = [.ref a, c] ∧ XHas H a C fs ∧ XCl X.K C ∧ AskB X.K H (.ref C) c b ∧ Q (.bl b) H) := by
  intro pins s σ H xs us Q I r h
  obtain ⟨a, C, fs, c, b, rfl, hx, xc, hb, q⟩ := h
  obtain ⟨u, w, rfl, ru, rw_⟩ := vals2 r
  obtain rfl : u = Value.ref a := ru
  obtain ⟨ox, od, mA, J, _, _⟩ := hx.inst I
  rcases hb with ⟨hc, hb⟩ | ⟨tp, cs, rfl, ht, hc, hb⟩
  · obtain rfl := clsVal_rel hc rw_
    exact PySem.W.kia_one (kitx_exc xc) I.kIn ⟨ox, od, J⟩ hb (fun z => nomatch z) fun tk => ⟨.bl b, H, I.tok _, rfl, q⟩
  · obtain rfl : w = Value.ref tp := rw_
    obtain ⟨_, its, rv, o, e1, e2, n, e3⟩ := (show ObjOk X.prog X.w H s.heap tp (.tup cs) from I.hok tp _ ht)
    obtain ⟨oc, od', odt, osl⟩ := o
    obtain rfl : oc = .type "tuple" := e2
    obtain rfl : odt = .seq its.toArray n := e3
    exact PySem.W.kia_tup (kitx_exc xc) I.kIn ⟨ox, od, J⟩ e1 (by rw [clsVal_rels hc rv]; exact hb) (fun z => nomatch z) fun tk => ⟨.bl b, H, I.tok _, rfl, q⟩
end
end L2
namespace L2
open PySem PySem.Spec PyProof.Rows
abbrev Cx.inX (X : Cx) (a : Addr) : Cx := { X with A := X.A.mark (some (.ref a)), calm := false, xe := fun _ _ => False }
abbrev Cx.pinned (X : Cx) (pins : List (Addr × Obj)) (E : Value → Shared → Prop) : Cx := { X with pn := X.pn ++ pins, xe := E }
theorem Cx.Ok.inX {X : Cx} (ok : X.Ok) (a : Addr) : (X.inX a).Ok :=
  ⟨ok.mod, ok.kind, ok.glob, ok.blt, ok.above, ok.inj, ok.has, ok.cab, (fun z => nomatch z), ok.frames, ok.stk, ok.exf, ok.bs, ok.bsz, ok.noex, ok.exfs, ok.funs, ok.frf⟩
theorem Cx.Ok.pinned {X : Cx} (ok : X.Ok) (pins : List (Addr × Obj)) (E : Value → Shared → Prop) : (X.pinned pins E).Ok :=
  ⟨ok.mod, ok.kind, ok.glob, ok.blt, ok.above, ok.inj, ok.has, ok.cab, ok.hd, ok.frames, ok.stk, ok.exf, ok.bs, ok.bsz, ok.noex, ok.exfs, ok.funs, ok.frf⟩
section
variable {X : Cx} {pins : List (Addr × Obj)} {σ : St} {H : Hp} {s : Shared} {a C : Addr} {cls : Value} {dx T : Option Addr}
theorem Inv.pinX (I : Inv X pins σ H s) (E : Value → Shared → Prop) : Inv (X.pinned pins E) [] σ H s :=
  ⟨I.ok.pinned pins E, I.os, I.bare, I.base, I.loc, I.cell, I.free, I.freeC, fun p hp => I.pin p (by simpa using hp), I.hok, I.len⟩
theorem Inv.unpinX {E : Value → Shared → Prop} (ok : X.Ok) {ps : List (Addr × Obj)} (I : Inv (X.pinned pins E) ps σ H s) : Inv X pins σ H s :=
  ⟨ok, I.os, I.bare, I.base, I.loc, I.cell, I.free, I.freeC, fun p hp => I.pin p (List.mem_append_left _ hp), I.hok, I.len⟩
theorem Inv.inX (I : Inv X pins σ H s) (a : Addr) : Inv (X.inX a) pins σ H s :=
  ⟨I.ok.inX a, I.os, I.bare, I.base, I.loc, I.cell, I.free, I.freeC, I.pin, I.hok, I.len⟩
theorem Inv.outX {a : Addr} (ok : X.Ok) (I : Inv (X.inX a) pins σ H s) : Inv X pins σ H s :=
  ⟨ok, I.os, I.bare, I.base, I.loc, I.cell, I.free, I.freeC, I.pin, I.hok, I.len⟩
theorem Inv.track (I : Inv X pins σ H s) {o : HO} (hn : H a = none) (h0 : X.s_0.heap.get? a = none) (hL : a ≠ X.env.locals) (hc : ∀ x c, X.env.cells.lookup x = some c → c ≠ a) (hp : ∀ p ∈ X.pn ++ pins, p.1 ≠ a)
    (ho : ObjOk X.prog X.w (upd H a o) s.heap a o) : Inv X pins σ (upd H a o) s := by
  refine ⟨I.ok, I.os, I.bare, ⟨I.base.keep, I.base.slot, fun b u e n hx => ?_, I.base.there, fun b xs e => ?_, fun b u v e => ?_, fun b ps e => ?_⟩, I.loc, I.cell, ?_, fun x c e => ?_, fun p q => ?_, fun b u e => ?_, I.len⟩
  · have : b ≠ a := fun z => by rw [z, h0] at e; cases e
    rw [upd_ne this]
    exact I.base.free b u e n hx
  · have q := I.base.tups b xs e
    rw [upd_ne (ne_of_none q hn)]
    exact q
  · have q := I.base.frzs b u v e
    rw [upd_ne (ne_of_none q hn)]
    exact q
  · obtain ⟨m, q⟩ := I.base.tbls b ps e
    exact ⟨m, by rw [upd_ne (ne_of_none q hn)]; exact q⟩
  · rw [upd_ne (Ne.symm hL)]
    exact I.free
  · rw [upd_ne (hc x c e)]
    exact I.freeC x c e
  · obtain ⟨e1, e2, e3, e4, e5⟩ := I.pin p q
    exact ⟨e1, by rw [upd_ne (hp p q)]; exact e2, e3, e4, e5⟩
  · by_cases z : b = a
    · subst z
      rw [upd_same] at e
      cases e
      exact ho
    · rw [upd_ne z] at e
      exact (I.hok b u e).stay (fun c v _ q => q) (fun c q => by rw [upd_ne (ne_of_none q hn)]; exact q) fun c xs q => by rw [upd_ne (ne_of_none q hn)]; exact q
theorem unbind_ok {M : Model} {A : Around} {E : Value → Shared → Prop} {i : Nat} {n : Str} {pos : Pos} {Q : Unit → Shared → Prop} (I : Inv X pins σ H s) (hN : X.N.Nodup) (hi : X.N[i]? = some n) (hl : X.env.scope.names.lookup n = some .local)
    (h : ∀ s', Inv X pins (σ.set i none) H s' → Q () s') : wpAny M A (do bindName X.env n .none; unbindBehindTheSuite X.env n pos) Q E s := by
  obtain ⟨m, hn, hlk⟩ := id I.loc
  have hp : (X.env.scope.kind == .class || (X.env.scope.kind == .module && X.env.locals != X.env.globals)) = false := by rw [I.ok.kind]; rfl
  refine wpAny_nameGoes_keeps hl hn hp fun h' v hn' hs => ?_
  obtain ⟨oL, _, _, hoL, _⟩ := id hn
  have hiσ : i < σ.length := by rw [I.len]; exact (List.getElem?_eq_some_iff.mp hi).1
  have tracked : HOk X.prog X.w H h' := fun b ob e => by
    refine (I.hok b ob e).stay (fun c w' hc q => (hs.2 c ?_).trans q) (fun _ q => q) fun _ _ q => q
    rintro rfl
    rcases hc with rfl | hc
    · rw [I.free] at e; cases e
    · rw [I.free] at hc; cases hc
  refine h _ ⟨I.ok, I.os, I.bare, ⟨fun b o e n hb hx => ?_, fun b o e n hb hx => ?_, I.base.free, fun b o e hx => ?_, I.base.tups, I.base.frzs, I.base.tbls⟩, ⟨_, hn', fun j y v' e1 e2 e3 => ?_⟩, fun y c e => ?_, I.free, I.freeC, fun p hp => ?_, tracked, by simpa using I.len⟩
  · exact (hs.2 b (Nat.ne_of_lt (Nat.lt_of_lt_of_le (Heap.lt_size e) I.ok.above))).trans (I.base.keep b o e n hb hx)
  · obtain ⟨sl, e1⟩ := I.base.slot b o e n hb hx
    exact ⟨sl, (hs.2 b (Nat.ne_of_lt (Nat.lt_of_lt_of_le (Heap.lt_size e) I.ok.above))).trans e1⟩
  · obtain ⟨o', e1⟩ := I.base.there b o e hx
    exact ⟨o', (hs.2 b (Nat.ne_of_lt (Nat.lt_of_lt_of_le (Heap.lt_size e) I.ok.above))).trans e1⟩
  · by_cases hj : j = i
    · subst hj
      rw [List.getElem?_set_self hiσ] at e2
      cases e2
    · rw [List.getElem?_set_ne (Ne.symm hj)] at e2
      obtain ⟨u', r', q⟩ := hlk j y v' e1 e2 e3
      refine ⟨u', r', ?_⟩
      rcases q with ⟨k, e⟩ | ⟨k, c, e, z⟩
      · refine .inl ⟨k, ?_⟩
        have : y ≠ n := fun e => hj (nodup_ix hN e1 (e ▸ hi))
        simp [this, e]
      · exact .inr ⟨k, c, e, z.sameBut hs (I.cne y c e)⟩
  · obtain ⟨w', z⟩ := I.cell y c e
    exact ⟨w', z.sameBut hs (I.cne y c e)⟩
  · obtain ⟨e, n, ne, nf, d⟩ := I.pin p hp
    exact ⟨(hs.2 p.1 ne).trans e, n, ne, nf, d⟩
theorem BX.ne (B : BX X H s a cls dx T) (I : Inv X pins σ H s) : a ≠ X.env.locals ∧ ∀ x c, X.env.cells.lookup x = some c → c ≠ a := by
  obtain ⟨m, ⟨oL, es, ep, hL, dL, rL⟩, _⟩ := id I.loc
  obtain ⟨o, vs, e, q⟩ := B.fields a (by simp)
  refine ⟨fun z => ?_, fun x c hc z => ?_⟩
  · rw [z, hL] at e
    cases e
    rw [dL] at q
    cases q
  · obtain ⟨v, o', ho', hd'⟩ := I.cell x c hc
    rw [z, e] at ho'
    cases ho'
    rw [q] at hd'
    cases hd'
end
structure Cls3 where
  D : Addr
  i : Option Nat
  t : TS
def Ends.gone (D : Ends) : Option Nat → Ends
  | none => D
  | some i => { nx := fun σ H => D.nx (σ.set i none) H, bk := fun σ H => D.bk (σ.set i none) H, ct := fun σ H => D.ct (σ.set i none) H, rt := D.rt }
def suiteSt (n : Nat) (a : Addr) : Option Nat → St
  | none => List.replicate n none
  | some i => (List.replicate n none).set i (some (.ref a))
def hRead (K : PySem.W.Frag) (n : Nat) (D : Ends) : List Cls3 → XK
  | [] => fun _ _ _ => False
  | h :: r => fun cls dx H => ∃ b, PySem.W.exmOne K cls (.ref h.D) = some b ∧ if b = true then ∃ C, cls = .ref C ∧ ∀ a, H a = none → h.t (D.gone h.i) (suiteSt n a h.i) (upd H a (.ext (XF a C dx))) else hRead K n D r cls dx H
def sTry (K : PySem.W.Frag) (tb : XK → TS) (hs : List Cls3) : TS := fun D σ H => tb (hRead K σ.length D hs) D σ H
inductive PHs (X : Cx) : List ExceptHandler → List Cls3 → Prop where
  | nil : PHs X [] []
  | cons {c : Str} {np hpos : Pos} {nm : Option Str} {b0 : Stmt} {suite : List Stmt} {rest : List ExceptHandler} {D : Addr} {i : Option Nat} {t : TS} {hs : List Cls3} (hg : Gl X c) (hm : X.mg c = some (.ref D)) (hdb : (c == ("__debug__" : Str)) = false)
      (hn : (nm = none ∧ i = none) ∨ ∃ n j, nm = some n ∧ i = some j ∧ X.N[j]? = some n ∧ X.env.scope.names.lookup n = some .local)
      (hsu : ∀ pn xe a, PSs ((X.pinned pn xe).inX a) (b0 :: suite) t) (hr : PHs X rest hs) : PHs X (.ExceptHandler (some (.Name c np)) nm (b0 :: suite) hpos :: rest) (⟨D, i, t⟩ :: hs)
section
variable {X : Cx} {pins : List (Addr × Obj)} {σ : St} {H : Hp} {s : Shared} {a : Addr} {cls : Value} {dx : Option Addr} {D : Ends}
theorem SP.outX {f : Flow} {s' : Shared} {ps : List (Addr × Obj)} {xe : Value → Shared → Prop} (ok : X.Ok) (h : SP ((X.pinned pins xe).inX a) ps D f s') : SP X pins D f s' := by
  have un : ∀ {σ' H'}, Inv ((X.pinned pins xe).inX a) ps σ' H' s' → Inv X pins σ' H' s' := fun {σ' H'} J => Inv.unpinX (E := xe) ok (Inv.outX (ok.pinned pins xe) J)
  cases f with
  | next => obtain ⟨σ', H', I, q⟩ := h; exact ⟨σ', H', un I, q⟩
  | brk => obtain ⟨σ', H', I, q⟩ := h; exact ⟨σ', H', un I, q⟩
  | cont => obtain ⟨σ', H', I, q⟩ := h; exact ⟨σ', H', un I, q⟩
  | ret u => obtain ⟨v, σ', H', I, r, q⟩ := h; exact ⟨v, σ', H', un I, r, q⟩
theorem SP.gone {A : Around} {E : Value → Shared → Prop} {n : Str} {j : Nat} {pos : Pos} {f : Flow} {s' : Shared} (hN : X.N.Nodup) (hi : X.N[j]? = some n) (hl : X.env.scope.names.lookup n = some .local) (h : SP X pins (D.gone (some j)) f s') :
    wpAny (model X.prog X.w) A (do bindName X.env n .none; unbindBehindTheSuite X.env n pos) (fun _ s₃ => SP X pins D f s₃) E s' := by
  cases f with
  | next => obtain ⟨σ', H', I, q⟩ := h; exact unbind_ok I hN hi hl fun s₃ J => ⟨_, H', J, q⟩
  | brk => obtain ⟨σ', H', I, q⟩ := h; exact unbind_ok I hN hi hl fun s₃ J => ⟨_, H', J, q⟩
  | cont => obtain ⟨σ', H', I, q⟩ := h; exact unbind_ok I hN hi hl fun s₃ J => ⟨_, H', J, q⟩
  | ret u => obtain ⟨v, σ', H', I, r, q⟩ := h; exact unbind_ok I hN hi hl fun s₃ J => ⟨v, _, H', J, r, q⟩
theorem Inv.wiped (I : Inv X pins σ H s) : Inv X pins (List.replicate X.N.length none) H s := I.weak (by rw [List.length_replicate, I.len]) fun i v e => by
  rw [List.getElem?_replicate] at e
  split at e <;> cases e
theorem handle_ok {handlers : List ExceptHandler} {hs : List Cls3} (hN : X.N.Nodup) (ok : X.Ok) (xe : Value → Shared → Prop) (hh : PHs X handlers hs) : ∀ (s : Shared) (t : Addr), Inv (X.pinned pins xe) [] σ H s → BX (X.pinned pins xe) H s a cls dx (some t) → hRead X.K X.N.length D hs cls dx H →
    wpAny (model X.prog X.w) X.A (handleBy (.ref a) X.env handlers) (SP X pins D) X.xe s := by
  induction hh with
  | nil => exact fun s t I B h => h.elim
  | @cons c np hpos nm b0 suite rest Dk i ts hs hg hm hdb hn hsu hr ih =>
    intro s t I B h
    obtain ⟨b, hb, h⟩ := h
    have J := I.inX a
    obtain ⟨oe, vs, e, ec, ed, eq, e1⟩ := id B.ob
    refine wpAny_handleBy_cons (codeAny_handlers_test (ld_glob J hg hm ?_ hdb)) (by intro q; cases q)
    have LT : PySem.W.Looks (model X.prog X.w) s.heap (typeOf (.ref a)) cls := ec ▸ (PySem.W.Looks.ld e).andThen .now
    refine (PySem.W.exm_one J.kIn LT hb).here ?_
    cases b with
    | false => exact ih s t I B h
    | true =>
      simp only [if_true] at h ⊢
      obtain ⟨C, rfl, h⟩ := h
      have land : ∀ {Q : Unit → Shared → Prop} {E : Value → Shared → Prop}, (∀ s1, Inv ((X.pinned pins xe).inX a) [] (List.replicate X.N.length none) (upd H a (.ext (XF a C dx))) s1 → Q () s1) → wpAny (model X.prog X.w) (X.A.mark (some (.ref a))) (setFlight (.ref a) none) Q E s := by
        intro Q E k
        obtain ⟨nt, fl, tb⟩ := B.tr t rfl
        obtain ⟨ot, ts', et, qt, h3⟩ := id tb
        unfold setFlight
        refine wpAny_bind (wpAny_field e eq e1 ?_)
        rw [if_pos (show (((some t : Option Addr).elim Value.none Value.ref) != Value.none) = true from by simp)]
        have kp : Kp (frs (X.pinned pins xe).stack) (a :: (some t : Option Addr).toList) s.heap (s.heap.update t (Obj.mapFields (·.setIfInBounds 3 ((none : Option Addr).elim Value.none fun f => rawInt f)))) := Kp.update et qt (by simp) 3 _
        refine wpAny_setField et qt (Array.getElem?_eq_some_iff.mp h3).1 (k _ ?_)
        have I2 := (B.landed I (t := t) kp).wiped.inX a
        have ne := B.ne I
        refine I2.track (o := .ext (XF a C dx)) (B.new a (by simp)).2.1 (B.new a (by simp)).1 ne.1 ne.2 (fun p hp => (B.new a (by simp)).2.2 p (by simpa using hp)) ?_
        have ea : (s.heap.update t (Obj.mapFields (·.setIfInBounds 3 ((none : Option Addr).elim Value.none fun f => rawInt f)))).get? a = some oe := (Heap.get?_update_other _ _ nt).trans e
        obtain ⟨oc, od, odt, osl⟩ := oe
        obtain rfl : oc = .ref C := ec
        obtain rfl : od = dx := ed
        obtain rfl : odt = .fields vs := eq
        exact ⟨⟨vs, osl, ea⟩, ⟨_, ea⟩, fun h1 h2 ⟨vs', sl', z⟩ k => ⟨vs', sl', k _ z⟩⟩
      have na : H a = none := (B.new a (by simp)).2.1
      have never : ∀ {P : Prop}, False → P := fun z => z.elim
      rcases hn with ⟨rfl, rfl⟩ | ⟨n, j, rfl, rfl, hj, hl⟩
      · refine codeAny_handlers_suite (land fun s1 I1 => ?_)
        refine wpAny_mono (hsu pins xe a [] s1 _ _ D I1 (h a na)) (fun f s2 q => SP.outX ok q) fun _ _ z => False.elim z
      · refine codeAny_handlers_suite_as (land fun s1 I1 => ?_)
        refine store_ok (X := (X.pinned pins xe).inX a) I1 hN hj (.inl hl) (v := .ref a) (u := .ref a) rfl (fun s2 I3 => ?_) (.inr hl)
        refine wpAny_mono (hsu pins xe a [] s2 _ _ (D.gone (some j)) I3 (h a na)) (fun f s3 q => ?_) fun _ _ z => False.elim z
        exact SP.gone hN hj hl (SP.outX ok q)
theorem ps_try {body : List Stmt} {h0 : ExceptHandler} {handlers : List ExceptHandler} {hs : List Cls3} {tb : XK → TS} {pos : Pos} (hN : X.N.Nodup) (hst : X.stack = X.env :: X.outer) (hf : X.env.frame = some X.env.locals)
    (hb : ∀ (pn : List (Addr × Obj)) (xe : Value → Shared → Prop) (E : XK), Flies (X.pinned pn xe) E → PassesOwn (model X.prog X.w) X.A X.env xe → PSs (X.pinned pn xe) body (tb E)) (hh : PHs X (h0 :: handlers) hs) :
    PS X (.Try body (h0 :: handlers) [] [] pos) (sTry X.K tb hs) := by
  intro pins s σ H D I h
  unfold sTry at h
  rw [I.len] at h
  refine wpAny_Try_except ?_
  have F : Flies (X.pinned pins fun e s₁ => wpAny (model X.prog X.w) X.A (noteFrame e X.env) (fun _ s₂ => wpAny (model X.prog X.w) X.A (setFlight e none) (fun _ s₃ => wpAny (model X.prog X.w) X.A (handleBy e X.env (h0 :: handlers)) (SP X pins D) X.xe s₃) X.xe s₂) X.xe s₁) (hRead X.K X.N.length D hs) := by
    intro ps σ' H' s' a cls dx T J B hE
    have fr : X.A.frames = some (X.env :: X.outer) := by rw [← hst]; exact J.ok.frames
    have fs : s'.heap.FunFrames X.base (X.env :: X.outer) := by rw [← hst]; exact J.stack
    refine land_ok (base := X.base) (L := X.env.locals) fr fs hf B.ob B.tr fun h' t k ht x1 t1 ne => ?_
    have J2 := B.landed J (t := t) (by rw [← hst] at k; exact k)
    refine handle_ok hN I.ok _ hh _ t J2 ⟨x1, fun t' q => by cases q; exact ⟨ne, _, t1⟩, fun b hb => ?_⟩ hE
    rcases List.mem_cons.mp hb with rfl | hb
    · exact B.new b (by simp)
    · have : b = t := by simpa using hb
      subst this
      rcases ht with ht | ht
      · exact B.new b (by rw [ht]; simp)
      · refine ⟨Heap.get?_none_of_le (Nat.le_trans J.sz ht), J.hok.fresh ht, fun p hp z => ?_⟩
        obtain ⟨q, _⟩ := J.pin p (List.mem_append_left _ hp)
        exact absurd (Heap.lt_size q) (by rw [z]; exact Nat.not_lt.mpr ht)
  refine wpAny_mono (hb pins _ _ F PassesOwn.looking [] s σ H D (I.pinX _) h) (fun f s1 q => ?_) fun _ _ z => z
  cases f with
  | next => obtain ⟨σ', H', J, q⟩ := q; exact wpAny_execs_nil ⟨σ', H', Inv.unpinX I.ok J, q⟩
  | brk => obtain ⟨σ', H', J, q⟩ := q; exact ⟨σ', H', Inv.unpinX I.ok J, q⟩
  | cont => obtain ⟨σ', H', J, q⟩ := q; exact ⟨σ', H', Inv.unpinX I.ok J, q⟩
  | ret u => obtain ⟨v, σ', H', J, r, q⟩ := q; exact ⟨v, σ', H', Inv.unpinX I.ok J, r, q⟩
end
end L2
namespace L2
open PySem PySem.Spec PyProof.Rows
structure RoomN (k : Nat) (A : Around) : Prop where
  dp : A.depth + 3 * k + 105 < recursionLimit
  un : A.units + 16 * k + 200 < cLine
  gd : A.guards = some []
theorem Room.n {k : Nat} {A : Around} (r : Room k A) : RoomN k A := ⟨r.dp, r.un, r.gd⟩
theorem RoomN.mono {j k : Nat} {A : Around} (r : RoomN k A) (h : j ≤ k) : RoomN j A := ⟨by have := r.dp; omega, by have := r.un; omega, r.gd⟩
theorem RoomN.deeper {k : Nat} {A : Around} (r : RoomN (k + 1) A) (env : Env) : RoomN k (A.deeper env) :=
  ⟨by have := r.dp; show A.depth + 1 + 3 * k + 105 < _; omega, by have := r.un; show A.units + 3 + 16 * k + 200 < _; omega, r.gd⟩
theorem RoomN.mark {k : Nat} {A : Around} (r : RoomN k A) (h : Option Value) : RoomN k (A.mark h) := ⟨r.dp, r.un, r.gd⟩
theorem RoomN.depth {k : Nat} {A : Around} (r : RoomN k A) : A.depth < recursionLimit := by have := r.dp; omega
theorem RoomN.units {k : Nat} {A : Around} (r : RoomN k A) : A.units + 64 < cLine := by have := r.un; omega
structure FnOkN (P : Program) (w : World) (K : PySem.W.Frag) (mg : Str → Option Value) (base : Heap) (k : Nat) (f : Addr) (fd : FuncData) (ps : List Str) (sp : Sp) : Prop where
  len : ∀ vs H Q E, sp vs H Q E → vs.length = ps.length
  run : ∀ (A : Around) (outer : List Env) (s : Shared) (H : Hp) (args : Args) (us : List Value) (vs : List V) (Q : VK) (E : XK), RoomN k A → Env0 P w K mg base A outer s H → BindsTo s fd args (ps.zip us) → Vals vs us → sp vs H Q E →
    codeAny (model P w) A (.call (.ref f) args) (CR CX0 outer P w H s Q E) s
abbrev cxN (P : Program) (w : World) (K : PySem.W.Frag) (mg : Str → Option Value) (base : Heap) (N : List Str) (qual : Str) (scope : Scope) (f : Addr) (cd : Value) (A : Around) (outer : List Env) (s : Shared) (H : Hp) (E : XK) : Cx :=
  { cxOf CX0 P w K mg base N qual scope f cd A outer s H E with calm := false, xe := fun _ _ => False }
section
variable {P : Program} {w : World} {K : PySem.W.Frag} {mg : Str → Option Value} {base : Heap} {N ps : List Str} {qual : Str} {scope : Scope} {f : Addr} {cd : Value} {A : Around} {outer : List Env} {s s1 : Shared} {H : Hp} {E : XK} {us : List Value} {vs : List V}
theorem inv_startN (S : FnScope N ps scope) (e0 : Env0 P w K mg base A outer s H) (hl : vs.length = ps.length) (r : Vals vs us)
    (x : InCallC s s.heap.objs.size (bindL (envOfC qual scope s.heap.objs.size f cd).kindOf (ps.zip us) fun _ => none) (cellsFrom (s.heap.objs.size + 1) scope.names []) (bindC (envOfC qual scope s.heap.objs.size f cd).kindOf (ps.zip us) fun _ => none) s1) :
    Inv (cxN P w K mg base N qual scope f cd A outer s H E) [] (start N vs) H s1 := by
  have e1 : Env0 P w K mg base { A with handled := none } outer s H := ⟨e0.frames, e0.mod, e0.bs, e0.bsz, e0.funs, e0.frf, e0.hok, e0.bare⟩
  have J := inv_start (CX := CX0) (E := E) S (A := { A with handled := none }) rfl e1 hl r x
  have ok := J.ok
  exact ⟨⟨ok.mod, ok.kind, ok.glob, ok.blt, ok.above, ok.inj, ok.has, ok.cab, (fun z => nomatch z), ok.frames, ok.stk, ok.exf, ok.bs, ok.bsz, ok.noex, ok.exfs, ok.funs, ok.frf⟩, J.os, J.bare, J.base, J.loc, J.cell, J.free, J.freeC, J.pin, J.hok, J.len⟩
theorem fn_ofN {k : Nat} {name : Str} {params : Arguments} {body : List Stmt} {dV kV doc pm cdv ct oc : Value} {an od : Option Addr}
    {osl : Array (Option Value)} {sp : Sp} (lk : K.lookup f = some ⟨oc, od, .func (PySem.W.fnOf name qual params body scope dV kV doc pm an cdv ct), osl⟩) (hcd : PySem.W.codeIn K cdv qual = true) (S : FnScope N ps scope)
    (len : ∀ vs H Q E, sp vs H Q E → vs.length = ps.length)
    (hbody : ∀ (A : Around) (outer : List Env) (s : Shared) (H : Hp) (vs : List V) (Q : VK) (E : XK), RoomN k (A.deeper (envOfC qual scope s.heap.objs.size f cdv)) → sp vs H Q E →
      ∃ t, PSs (cxN P w K mg base N qual scope f cdv A outer s H E) body t ∧ t { nx := fun _ H' => Q .non H', rt := Q } (start N vs) H) :
    FnOkN P w K mg base (k + 1) f (PySem.W.fnOf name qual params body scope dV kV doc pm an cdv ct) ps sp := by
  refine ⟨len, fun A outer s H args us vs Q E hr e0 hb r hsp => ?_⟩
  have hl := len _ _ _ _ hsp
  have KX : K.In s.heap := e0.mod.kin.keeps fun b o e => (e0.bs b o e).1
  have lim : s.heap.NoLimit := e0.mod.nolimit.keeps fun b o e => (e0.bs b o e).1
  have hkind : ∀ y ∈ ps.zip us, scope.names.lookup y.1 = some .local ∨ (scope.names.lookup y.1 = some .cell ∧ ((cellsFrom (s.heap.objs.size + 1) scope.names []).lookup y.1).isSome = true) := fun ⟨n, v⟩ hy => by
    rcases S.par n (List.of_mem_zip hy).1 with q | q
    · exact .inl q
    · exact .inr ⟨q, PySem.W.cellsFrom_some _ _ _ (.inl q)⟩
  refine codeAny_call_function hr.depth (KX _ _ lk) rfl S.co S.gen rfl (PySem.W.codeRec_of KX hcd) (hb _ _ _ _ ?_)
  refine wpAny_newFunctionEnv_cells S.kind hkind fun env he s1 x => ?_
  subst he
  refine ⟨lim.keeps x.toInCall.keep, codeAny_func ?_⟩
  obtain ⟨t, ht, hq⟩ := hbody A outer s H vs Q E (hr.deeper _) hsp
  have I : Inv (cxN P w K mg base N qual scope f cdv A outer s H E) [] (start N vs) H s1 := inv_startN S e0 hl r x
  refine wpAny_mono (ht [] s1 (start N vs) H _ I hq) (fun fl s' hs => ?_) fun e s' hs => False.elim hs
  have fin : ∀ {σ' : St} {H' : Hp} {v : V} {u : Value}, Inv (cxN P w K mg base N qual scope f cdv A outer s H E) [] σ' H' s' → RelV v u → Q v H' → CE outer P w H s Q u s' :=
    fun {σ' H' v u} J rv q => ⟨v, H', J.os, J.bare, J.base, J.hok, rv, q⟩
  cases fl with
  | ret u =>
    obtain ⟨v, σ', H', J, rv, q⟩ := hs
    exact fin J rv q
  | next =>
    obtain ⟨σ', H', J, q⟩ := hs
    exact fin (v := V.non) (u := Value.none) J rfl q
  | brk =>
    obtain ⟨_, _, _, q⟩ := hs
    exact False.elim q
  | cont =>
    obtain ⟨_, _, _, q⟩ := hs
    exact False.elim q
end
section
variable {X : Cx} {k : Nat} {f : Addr} {fd : FuncData} {ps : List Str} {sp : Sp} {x : Str} {p pos : Pos} {e : Expr} {es : List Expr} {t : TA}
theorem run_fnN {pins : List (Addr × Obj)} {σ : St} {H : Hp} {s : Shared} {Q : VK} {us : List Value} {vs : List V} {E : XK} (F : FnOkN X.prog X.w X.K X.mg X.base k f fd ps sp) (hr : RoomN k X.A) (hb : Binds X.K fd ps [])
    (I : Inv X pins σ H s) (r : Vals vs us) (h : sp vs H Q E) : wpAny (model X.prog X.w) X.A (call (.ref f) us) (EP X pins σ Q) X.xe s := by
  have hl : (us ++ []).length = ps.length := by rw [List.append_nil, ← r.length]; exact F.len _ _ _ _ h
  have hb' := hb s us I.kIn hl
  rw [List.append_nil] at hb'
  refine wpAny_call (codeAny_mono (F.run X.A X.stack s H ⟨us, []⟩ us vs Q E hr I.env0 hb' r h) fun r s' hq => ?_)
  cases r with
  | error e => exact False.elim hq
  | ok fl =>
    cases fl with
    | ret u => exact I.after hq
    | next => exact False.elim hq
    | brk => exact False.elim hq
    | cont => exact False.elim hq
theorem pe_callN {E : XK} (F : FnOkN X.prog X.w X.K X.mg X.base k f fd ps sp) (hr : RoomN k X.A) (hg : Gl X x) (hm : X.mg x = some (.ref f)) (hk : PySem.W.keepIn X.K (.ref f) = true) (hb : Binds X.K fd ps [])
    (ha : PA X (e :: es) t) (hdb : (x == ("__debug__" : Str)) = false := by decide) (he : starEach (e :: es) X.env = (false, eval e X.env) :: starEach es X.env := by rfl) (hpl : (backTo pos (starEach es X.env)).any (·.1) = false := by rfl) :
    PE X (.Call (.Name x p) (e :: es) [] pos) (tCall sp [] E t) := by
  intro pins s σ H Q I h
  refine wpAny_Call_Name_kw (ld_glob I hg hm ?_ hdb)
  refine PySem.W.callWith_K (h₀ := X.base) I.ok.mod.kin hk (thn (ha pos pins s σ H _ I h) fun us s1 ⟨vs, H1, I1, r, q⟩ => ⟨I1.kIn, ?_⟩) he hpl
  exact run_fnN (E := E) F hr hb I1 r (by have q : sp (vs ++ []) H1 Q E := q; rw [List.append_nil] at q; exact q)
end
end L2
namespace L2
open PySem PySem.Spec PyProof.Rows
open Builtin.ObjectAttr
def errMro : List Value → Bool
  | .ref _ :: r => errMro r
  | l => l == veMro
def errOver (K : PySem.W.Frag) (C : Addr) : Bool := (PySem.W.clsIn K C).any fun cd => errMro cd.mro
structure XSt (K : PySem.W.Frag) (C : Addr) : Prop where
  sa : PySem.W.findIn K (.ref C) "__setattr__" = some (some (.builtin "object.__setattr__"))
  eo : errOver K C = true
  hd : PySem.W.hasDictIn K C = true
  mr : PySem.W.mroIn K C (.type "object") = some true
section
variable {prog : Program} {w : World} {A : Around} {E : Value → Shared → Prop} {K : PySem.W.Frag} {x C : Addr} {name : Str} {v : Value} {h : Heap} {g : Array GenState} {dr : Drawn} {t : Nat} {os : OsState}
end
end L2
namespace L2
open PySem PySem.Spec PyProof.Rows
section
variable {prog : Program} {w : World} {A : Around} {E : Value → Shared → Prop} {h : Heap} {g : Array GenState} {d : Drawn} {t : Nat} {os : OsState} {K : PySem.W.Frag} {so D x C : Addr} {l₀ l : List Value}
end
end L2
namespace L2
open PySem PySem.Spec PyProof.Rows
section
variable {prog : Program} {w : World} {A : Around} {E : Value → Shared → Prop} {h : Heap} {g : Array GenState} {d : Drawn} {t : Nat} {os : OsState} {K : PySem.W.Frag} {mw x C : Addr}
end
end L2
namespace L2
open PySem PySem.Spec PyProof.Rows
def supS (txt : Str) (j : Nat) (p0 p1 p2 p3 p4 p5 : Pos) : Stmt := .Expr (.Call (.Attribute (.Call (.Name "super" p0) [] [] p1) "__init__" p2) [.Constant (.str txt) j p3] [] p4) p5
def setS (f : Str) (a b c d : Pos) : Stmt := .Assign [.Attribute (.Name "self" a) f b] (.Name f c) d
def SupEq (qual : Str) (scope : Scope) (txt : Str) (j : Nat) (p0 p1 p2 p3 p4 : Pos) : Prop := ∃ pl : Sem Bool, ∀ (L f cda cc : Addr), eval (.Call (.Attribute (.Call (.Name "super" p0) [] [] p1) "__init__" p2) [.Constant (.str txt) j p3] [] p4) (PySem.W.ksEnv qual scope L f (.ref cda) cc) = (do
  let ov ← attributeBase (.Call (.Name "super" p0) [] [] p1) "__init__" (PySem.W.ksEnv qual scope L f (.ref cda) cc) (eval (.Call (.Name "super" p0) [] [] p1) (PySem.W.ksEnv qual scope L f (.ref cda) cc))
  standAt p2.atName
  let (f1, first) ← holding [ov] (getMethod ov "__init__" pl)
  callWith p4 f1 first (backTo p4 (starEach [.Constant (.str txt) j p3] (PySem.W.ksEnv qual scope L f (.ref cda) cc))) [])
def excI (K : PySem.W.Frag) (C f : Addr) : Bool := match K.lookup C with
  | some ⟨.type "type", _, .cls cd, sl⟩ => (match cd.mro, sl.toList with
    | .ref C' :: bm, [_, _, _, _, some (.builtin n), _] => C' == C && n == "ValueError.__new__" && !cd.hasDel && PySem.W.tailIn K veMro bm && PySem.W.nsOkIn K cd.ns && PySem.W.nsIn K cd.ns "__init__" == some (some (.ref f))
    | _, _ => false)
  | _ => false
structure XI (prog : Program) (K : PySem.W.Frag) (C f cda cc : Addr) (qual : Str) (params : Arguments) (scope : Scope) : Prop where
  cls : excI K C f = true
  code : ∃ ccl cdd vs ccs file tf, K.lookup cda = some ⟨ccl, cdd, .fields vs, ccs⟩ ∧ vs[2]? = some (.str file tf) ∧ ((prog.main.file : Str) == file) = true
  cin : PySem.W.codeIn K (.ref cda) qual = true
  cell : ∃ cl cld csl, K.lookup cc = some ⟨cl, cld, .cell (some (.ref C)), csl⟩
  top : (prog.main.scope.names.lookup ("super" : Str)).isSome = false
  st : XSt K C
  sup : PySem.W.ks_superIn K C C "__init__" = some (some (.builtin "ValueError.__init__"))
  mr : PySem.W.mroIn K C (.ref C) = some true
  ve : PySem.W.mroIn K C (.type "ValueError") = some true
  opq : PySem.W.nsIn K cStatics "thirdparty.any" = some none
  fn : PySem.W.typeIn K (.ref f) = some (.type "function")
  par : ∃ ar, (params.posonlyargs ++ params.args).head? = some ar ∧ ar.arg = "self"
  kind : scope.kind = .function
  ks : scope.names.lookup ("super" : Str) = some .globalImplicit
  kc : scope.names.lookup ("__class__" : Str) = some .free
  ka : scope.names.lookup ("self" : Str) = some .local
section
variable {prog : Program} {w : World} {A : Around} {E : Value → Shared → Prop} {h : Heap} {g : Array GenState} {d : Drawn} {t : Nat} {os : OsState} {K : PySem.W.Frag} {base : Heap} {mg m : Str → Option Value} {C f cda cc L a t0 : Addr} {qual : Str} {params : Arguments} {scope : Scope} {body : List Stmt}
end
def setsS : List Str → List (Pos × Pos × Pos × Pos) → List Stmt
  | x :: xs, p :: ps => setS x p.1 p.2.1 p.2.2.1 p.2.2.2 :: setsS xs ps
  | _, _ => []
def putAll : List (Str × Value) → (Str → Option Value) → Str → Option Value
  | [], m => m
  | (x, v) :: r, m => putAll r fun y => if y = x then some v else m y
section
variable {prog : Program} {w : World} {A : Around} {E : Value → Shared → Prop} {g : Array GenState} {d : Drawn} {os : OsState} {K : PySem.W.Frag} {base : Heap} {mg : Str → Option Value} {C f cda cc L a : Addr} {qual : Str} {params : Arguments} {scope : Scope}
end
end L2
namespace L2
open PySem PySem.Spec PyProof.Rows
section
variable {prog : Program} {w : World} {A : Around} {E : Value → Shared → Prop} {h : Heap} {g : Array GenState} {d : Drawn} {t : Nat} {os : OsState}
variable {nm q : Str} {C N f : Addr} {bs bm : List Value} {hdct : Bool} {sn : List Str} {sub : List Value} {ab : Bool} {col : Option Bool} {dd : Option Addr} {k0 k1 k2 k3 k5 : Option Value}
abbrev newX (C t0 : Addr) : Obj := { cls := .ref C, data := .fields #[.ref t0, .none, .none, .none, .bool false, .none] }
end
structure XC1 (prog : Program) (K : PySem.W.Frag) (C : Addr) (xs : List Str) : Prop where
  kp : PySem.W.keepIn K (.ref C) = true
  ex : ∃ (f cda cc : Addr) (qual : Str) (params : Arguments) (scope : Scope) (body : List Stmt) (kV doc pm ct oc : Value) (an od : Option Addr) (osl : Array (Option Value)) (txt : Str) (j : Nat) (p0 p1 p2 p3 p4 p5 : Pos) (pp : List (Pos × Pos × Pos × Pos)),
    XI prog K C f cda cc qual params scope ∧ K.lookup f = some ⟨oc, od, .func (PySem.W.ksFn "__init__" qual params body scope .none kV doc pm an (.ref cda) ct cc), osl⟩ ∧ body = supS txt j p0 p1 p2 p3 p4 p5 :: setsS xs pp ∧ pp.length = xs.length ∧ xs ≠ [] ∧ xs.length ≤ 900 ∧ SupEq qual scope txt j p0 p1 p2 p3 p4 ∧
    (∀ y ∈ scope.names, y.2 ≠ .cell) ∧ scope.isCoroutine = false ∧ scope.isGenerator = false ∧ (∀ x ∈ xs, scope.names.lookup x = some .local ∧ (x == ("__debug__" : Str)) = false ∧ NoAttr K C x) ∧ (("self" : Str) :: xs).Nodup ∧
    ∀ us : List Value, us.length = xs.length + 1 → bindArgs (PySem.W.ksFn "__init__" qual params body scope .none kV doc pm an (.ref cda) ct cc) ⟨us, []⟩ = pure ((("self" : Str) :: xs).zip us)
section
variable {X : Cx} {x : Str} {p cpos pos : Pos} {e : Expr} {es : List Expr} {t : TA} {C : Addr} {E : XK} {xs : List Str} {k : Nat}
def sRaise1 (C : Addr) (E : XK) (xs : List Str) (t : TA) : TS := fun _ σ H => t σ H fun vs H1 => vs.length = xs.length ∧ ∀ d, H1 d = none → E (.ref C) (some d) (upd H1 d (.xd (xs.zip vs)))
end
end L2
namespace L2
open PySem PySem.Spec PyProof.Rows
def tabF (p : Addr) : Heap → Prop := fun h => ∃ ps, h.get? p = some { cls := .none, data := .fields ps } ∧ TriplesOk ps.toList
end L2
namespace Pv
open PySem L2
class Tabs where
  tb : Addr → Prop
  xc : String → Option Addr
mutual
def flat : PyData → Bool
  | .none => true
  | .bool _ => true
  | .int _ => true
  | .str _ => true
  | .list _ => false
  | .tuple xs => flatAll xs
  | .dict _ => false
def flatAll : List PyData → Bool
  | [] => true
  | x :: xs => flat x && flatAll xs
end
structure Feed where
  cells : List Int
  spot : Int
  left : Int
  turn : Int
  lst : Bool
structure Exc where
  cls : String
  args : List PyData
def xflds : String → List String
  | "NoText" => ["at"]
  | "NoPlace" => ["place"]
  | "NoCut" => ["number"]
  | "NoSmooth" => ["number"]
  | "NoTask" => ["word", "number"]
  | "NoPaper" => ["word", "number"]
  | "NoKnots" => ["word", "number"]
  | "NoShares" => ["number"]
  | "NoKnot" => ["number"]
  | "NoSheet" => ["word", "number"]
  | "NoPoint" => ["place"]
  | "Twice" => ["place"]
  | _ => []
def xsub (c d : String) : Bool := c == d || d == "BendError" || d == "ValueError"
abbrev Al := Option (List Nat)
inductive Val where
  | dat (d : PyData) (al : Al)
  | feed
  | exc (x : Exc)
inductive R (α : Type) where
  | ok (a : α) (F : Feed)
  | exc (x : Exc) (F : Feed)
  | stuck
def R.bind {α β : Type} (m : R α) (f : α → Feed → R β) : R β := match m with
  | .ok a F => f a F
  | .exc x F => .exc x F
  | .stuck => .stuck
@[simp] theorem R.ok_bind {α β : Type} (a : α) (F : Feed) (f : α → Feed → R β) : (R.ok a F).bind f = f a F := rfl
@[simp] theorem R.exc_bind {α β : Type} (x : Exc) (F : Feed) (f : α → Feed → R β) : (R.exc x F : R α).bind f = .exc x F := rfl
@[simp] theorem R.stuck_bind {α β : Type} (f : α → Feed → R β) : (R.stuck : R α).bind f = .stuck := rfl
def R.of {α : Type} (o : Option α) (F : Feed) : R α := match o with
  | some a => .ok a F
  | none => .stuck
@[simp] theorem R.of_some {α : Type} (a : α) (F : Feed) : R.of (some a) F = .ok a F := rfl
@[simp] theorem R.of_none {α : Type} (F : Feed) : R.of (none : Option α) F = .stuck := rfl
abbrev Env := List (Option Val)
def joinAl : Al → Al → Al
  | none, b => b
  | some a, none => some a
  | some a, some b => some (a ++ b)
def alNew (ds : List PyData) : Al → Al
  | none => none
  | some S => if flatAll ds then none else some S
def freeze1 (j : Nat) (ρ : Env) : Env := match ρ[j]? with
  | some (some (.dat d _)) => ρ.set j (some (.dat d (some [])))
  | _ => ρ
def freeze : List Nat → Env → Env
  | [], ρ => ρ
  | j :: S, ρ => freeze1 j (freeze S ρ)
def store (ρ : Env) (i : Nat) : Val → Env
  | .dat d none => ρ.set i (some (.dat d none))
  | .dat d (some S) => if flat d then ρ.set i (some (.dat d none)) else (freeze S ρ).set i (some (.dat d (some [])))
  | v => ρ.set i (some v)
inductive Bop where
  | add | sub | mul | fdiv | mod | pow | band | shl | shr
inductive Cop where
  | eq | ne | lt | le | gt | ge | isN | notN | in_ | notIn
def okMul (i j : Int) : Bool := decide (i.natAbs.log2 + j.natAbs.log2 < 100000000)
def okPow (i j : Int) : Bool := decide (0 ≤ j ∧ (i.natAbs.log2 + 1 : Nat) * j ≤ 134217728)
def addD : PyData → PyData → Option PyData
  | .int i, .int j => some (.int (i + j))
  | .int i, .bool k => some (.int (i + if k then 1 else 0))
  | .str a, .str b => if a.length + b.length ≤ sizeLine then some (.str (a ++ b)) else none
  | .tuple xs, .tuple ys => if xs.length + ys.length ≤ sizeLine then some (.tuple (xs ++ ys)) else none
  | .list xs, .list ys => if xs.length + ys.length ≤ sizeLine then some (.list (xs ++ ys)) else none
  | _, _ => none
def subD : PyData → PyData → Option PyData
  | .int i, .int j => some (.int (i - j))
  | _, _ => none
def mulD : PyData → PyData → Option PyData
  | .int i, .int j => if okMul i j then some (.int (i * j)) else none
  | .list xs, .int k => if -(2 ^ 63) ≤ k ∧ k < 2 ^ 63 ∧ xs.length * k.toNat ≤ sizeLine then some (.list (List.replicate k.toNat xs).flatten) else none
  | .tuple xs, .int k => if -(2 ^ 63) ≤ k ∧ k < 2 ^ 63 ∧ xs.length * k.toNat ≤ sizeLine then some (.tuple (List.replicate k.toNat xs).flatten) else none
  | _, _ => none
def fdivD : PyData → PyData → Option PyData
  | .int i, .int j => if j ≠ 0 then some (.int (i.fdiv j)) else none
  | _, _ => none
def modD : PyData → PyData → Option PyData
  | .int i, .int j => if j ≠ 0 then some (.int (i.fmod j)) else none
  | _, _ => none
def powD : PyData → PyData → Option PyData
  | .int i, .int j => if okPow i j then some (.int (i ^ j.toNat)) else none
  | _, _ => none
def bandD : PyData → PyData → Option PyData
  | .int i, .int j => some (.int (Builtin.bitAnd i j))
  | _, _ => none
def shlD : PyData → PyData → Option PyData
  | .int i, .int j => if 0 ≤ j ∧ j ≤ 1000000 ∧ i.natAbs < 2 ^ 64 then some (.int (i * 2 ^ j.toNat)) else none
  | _, _ => none
def shrD : PyData → PyData → Option PyData
  | .int i, .int j => if 0 ≤ j then some (.int (i / 2 ^ j.toNat)) else none
  | _, _ => none
def bopD : Bop → PyData → PyData → Option PyData
  | .add => addD | .sub => subD | .mul => mulD | .fdiv => fdivD | .mod => modD | .pow => powD | .band => bandD | .shl => shlD | .shr => shrD
def negD : PyData → Option PyData
  | .int i => some (.int (-i))
  | _ => none
def alOp (z : PyData) (al : Al) : Al := match z with
  | .list ds => alNew ds (some (al.getD []))
  | .tuple ds => alNew ds (some (al.getD []))
  | .dict _ => some (al.getD [])
  | _ => none
def shaped (d : PyData) : Bool := SeqAt.shaped d
def strsD : PyData → PyData → Option Bool
  | .str a, .str b => some (decide (a = b))
  | _, _ => none
def eqD (d e : PyData) : Option Bool := match strsD d e with
  | some z => some z
  | none => if shaped d && shaped e then some (PyData.eqv d e) else none
def okIn (x : PyData) (ys : List PyData) : Bool := x.canLay0 && decide (x.depth ≤ 60) && PyData.canLayAll0 ys
def inD (x : PyData) : PyData → Option Bool
  | .tuple ys => if okIn x ys then some (ys.any fun y => PyData.eqv y x) else none
  | .list ys => if okIn x ys then some (ys.any fun y => PyData.eqv y x) else none
  | _ => none
def seqL : Bool → PyData → Option (List PyData)
  | true, .list ys => some ys
  | false, .tuple ys => some ys
  | _, _ => none
def countD (ys : List PyData) (x : PyData) : Option Int := if okIn x ys then some ((ys.countP fun y => PyData.eqv y x : Nat) : Int) else none
def intsD (f : Int → Int → Bool) : PyData → PyData → Option Bool
  | .int i, .int j => some (f i j)
  | _, _ => none
def isNone : PyData → Bool
  | .none => true
  | _ => false
def copD : Cop → PyData → PyData → Option Bool
  | .eq, d, e => eqD d e
  | .ne, d, e => (eqD d e).map (!·)
  | .lt, d, e => intsD (fun i j => decide (i < j)) d e
  | .le, d, e => intsD (fun i j => decide (i ≤ j)) d e
  | .gt, d, e => intsD (fun i j => decide (j < i)) d e
  | .ge, d, e => intsD (fun i j => decide (j ≤ i)) d e
  | .isN, d, .none => some (isNone d)
  | .notN, d, .none => some (!isNone d)
  | .in_, d, e => inD d e
  | .notIn, d, e => (inD d e).map (!·)
  | _, _, _ => none
def truD : PyData → Option Bool
  | .none => some false
  | .bool b => some b
  | .int i => some (i != 0)
  | .str x => if x.length ≤ sizeLine then some ((x.length : Int) != 0) else none
  | .list xs => some (!xs.isEmpty)
  | .tuple xs => some (!xs.isEmpty)
  | .dict kvs => some (!kvs.isEmpty)
def truV : Val → Option Bool
  | .dat d _ => truD d
  | _ => none
abbrev at? {α : Type} (xs : List α) (i : Int) : Option α := L2.atI xs i
def idxD : PyData → PyData → Option PyData
  | .tuple xs, .int i => at? xs i
  | .list xs, .int i => at? xs i
  | .str x, .int i => if x.length ≤ sizeLine then (at? x.cps.toList i).map fun c => .str ⟨#[c]⟩ else none
  | _, _ => none
def clip (n d : Nat) : Option Int → Nat := HT.sIx n d
def cut {α : Type} (xs : List α) (lo hi : Option Int) : List α := (xs.drop (clip xs.length 0 lo)).take (clip xs.length xs.length hi - clip xs.length 0 lo)
def slcD (lo hi : Option Int) : PyData → Option PyData
  | .tuple xs => some (.tuple (cut xs lo hi))
  | .list xs => some (.list (cut xs lo hi))
  | _ => none
def revD : PyData → Option PyData
  | .tuple xs => some (.tuple xs.reverse)
  | _ => none
inductive Blt where
  | len | abs | int | repr | list | tuple | max | min | sum | all | any | isTup | isInt | isBool | isStr | isList | bool
def intsOf : List PyData → Option (List Int)
  | [] => some []
  | .int i :: r => (intsOf r).map (i :: ·)
  | _ => none
def boolsOf : List PyData → Option (List Bool)
  | [] => some []
  | .bool i :: r => (boolsOf r).map (i :: ·)
  | _ => none
def maxL : List Int → Option Int
  | [] => none
  | x :: r => some (r.foldl (fun m y => if y > m then y else m) x)
def minL : List Int → Option Int
  | [] => none
  | x :: r => some (r.foldl (fun m y => if y < m then y else m) x)
def isTup : PyData → Bool
  | .tuple _ => true
  | _ => false
def isInt : PyData → Bool
  | .int _ => true
  | .bool _ => true
  | _ => false
def isBool : PyData → Bool
  | .bool _ => true
  | _ => false
def isStr : PyData → Bool
  | .str _ => true
  | _ => false
def isList : PyData → Bool
  | .list _ => true
  | _ => false
def okRepr (d : PyData) : Bool := GB.okX d && decide (d.depth ≤ 60) && decide (d.shown.length ≤ sizeLine)
def bltD : Blt → List PyData → Option PyData
  | .len, [.tuple xs] => some (.int xs.length)
  | .len, [.list xs] => some (.int xs.length)
  | .len, [.str x] => if x.length ≤ sizeLine then some (.int x.length) else none
  | .abs, [.int i] => some (.int (if i < 0 then -i else i))
  | .int, [.int i] => some (.int i)
  | .int, [.bool k] => some (.int (if k then 1 else 0))
  | .bool, [.int i] => some (.bool (i != 0))
  | .bool, [.bool k] => some (.bool k)
  | .repr, [d] => if okRepr d then some (.str d.shown) else none
  | .list, [.tuple xs] => some (.list xs)
  | .list, [.list xs] => some (.list xs)
  | .tuple, [.tuple xs] => some (.tuple xs)
  | .tuple, [.list xs] => some (.tuple xs)
  | .max, [.int i, .int j] => some (.int (if j > i then j else i))
  | .min, [.int i, .int j] => some (.int (if j < i then j else i))
  | .max, [.list xs] => (intsOf xs).bind fun ns => (maxL ns).map .int
  | .min, [.list xs] => (intsOf xs).bind fun ns => (minL ns).map .int
  | .sum, [.list xs] => (intsOf xs).map fun ns => .int ns.sum
  | .all, [.list xs] => (boolsOf xs).map fun ns => .bool (ns.all id)
  | .any, [.list xs] => (boolsOf xs).map fun ns => .bool (ns.any id)
  | .isTup, [d] => some (.bool (isTup d))
  | .isInt, [d] => some (.bool (isInt d))
  | .isBool, [d] => some (.bool (isBool d))
  | .isStr, [d] => some (.bool (isStr d))
  | .isList, [d] => some (.bool (isList d))
  | _, _ => none
mutual
inductive Tg where
  | nm (i : Nat)
  | tp (ts : Tgs)
inductive Tgs where
  | nil
  | cons (t : Tg) (ts : Tgs)
end
mutual
inductive IE where
  | var (i : Nat)
  | con (d : PyData)
  | bin (f : Bop) (a b : IE)
  | neg (a : IE)
  | cmp (f : Cop) (a b : IE)
  | chain (f g : Cop) (a b c : IE)
  | andV (a b : IE)
  | orV (a b : IE)
  | andT (a b : IE)
  | orT (a b : IE)
  | not (a : IE)
  | ite (t a b : IE)
  | tup (es : IEs)
  | lst (es : IEs)
  | idx (a i : IE)
  | slc (a : IE) (lo hi : IO)
  | rev (a : IE)
  | call (f : String) (es : IEs)
  | draw (i : Nat) (e : IE)
  | blt (f : Blt) (es : IEs)
  | lc (src : IT) (tg : Tg) (vs : List Nat) (cond : IEs) (elt : IE)
  | gen (f : Blt) (src : IT) (tg : Tg) (vs : List Nat) (cond : IEs) (elt : IE)
  | isx (i : Nat) (cs : List String)
  | xfld (i : Nat) (f : String)
  | count (l : Bool) (a b : IE)
inductive IEs where
  | nil
  | cons (e : IE) (es : IEs)
  | star (e : IE) (es : IEs)
inductive IO where
  | no
  | yes (e : IE)
inductive IT where
  | seq (e : IE)
  | rng (es : IEs)
  | enum (e : IE)
  | zip (a b : IE)
  | rev (e : IE)
end
mutual
inductive IS where
  | set (i : Nat) (e : IE)
  | unp (t : Tg) (e : IE)
  | par (i j : Nat) (a b : IE)
  | par3 (i j k : Nat) (a b e : IE)
  | aug (i : Nat) (f : Bop) (e : IE)
  | setIx (x : Nat) (ix e : IE)
  | setIx2 (x : Nat) (ix jx e : IE)
  | app (x : Nat) (e : IE)
  | ext (x : Nat) (e : IE)
  | pop (x : Nat)
  | popTo (i x : Nat)
  | reverse (x : Nat)
  | ex (e : IE)
  | ite (t : IE) (a b : ISs)
  | whl (t : IE) (b : ISs)
  | for_ (src : IT) (tg : Tg) (b : ISs)
  | ret (e : IE)
  | retN
  | brk
  | cnt
  | pas
  | raise (c : String) (es : IEs)
  | try_ (b : ISs) (hs : IHs)
inductive ISs where
  | nil
  | cons (s : IS) (ss : ISs)
inductive IHs where
  | nil
  | cons (c : String) (i : Option Nat) (ss : ISs) (hs : IHs)
end
inductive Arg where
  | d (x : PyData)
  | feed
  | exc (x : Exc)
abbrev Orc := String → List Arg → Feed → R Val
structure Dr where
  f : Feed → Int → Option (Int × Feed)
  rz : Bool
structure Cfg where
  cl : Orc
  dr : Dr
def readV (i : Nat) : Val → Val
  | .dat d none => .dat d (some [i])
  | .dat d (some _) => .dat d (some [])
  | v => v
def valD : Val → Option (PyData × Al)
  | .dat d al => some (d, al)
  | _ => none
def argsV : List Val → Option (List Arg)
  | [] => some []
  | .dat d _ :: vs => (argsV vs).map (.d d :: ·)
  | .feed :: vs => (argsV vs).map (.feed :: ·)
  | .exc x :: vs => (argsV vs).map (.exc x :: ·)
def slotA : Arg → Option Val
  | .d x => some (.dat x (some []))
  | .feed => some .feed
  | .exc x => some (.exc x)
def alV : Val → Al
  | .dat _ al => al
  | _ => none
def alVs : List Val → List Nat
  | [] => []
  | v :: vs => (alV v).getD [] ++ alVs vs
def resV (S : List Nat) : Val → Val
  | .dat d none => .dat d none
  | .dat d (some _) => .dat d (some S)
  | v => v
def datsV : List Val → Option (List PyData × Al)
  | [] => some ([], none)
  | .dat d al :: vs => (datsV vs).map fun p => (d :: p.1, joinAl al p.2)
  | _ => none
def datE {α : Type} (v : Val) (F : Feed) (f : PyData → Al → Feed → R α) : R α := match v with
  | .dat d al => f d al F
  | _ => .stuck
def wipeE (ρ : Env) : List Nat → Env
  | [] => ρ
  | v :: vs => (wipeE ρ vs).set v none
mutual
def bindT : Tg → PyData → Al → Env → Option Env
  | .nm i, d, al, ρ => some (store ρ i (.dat d al))
  | .tp ts, .tuple ds, al, ρ => bindTs ts ds al ρ
  | .tp _, _, _, _ => none
def bindTs : Tgs → List PyData → Al → Env → Option Env
  | .nil, [], _, ρ => some ρ
  | .cons t ts, d :: ds, al, ρ => (bindT t d al ρ).bind (bindTs ts ds al)
  | _, _, _, _ => none
end
def itemAl : Al → Al
  | none => some []
  | some S => some S
def rngI (lo : Int) (n : Nat) : List PyData := (List.range n).map fun (i : Nat) => .int (lo + (i : Int))
def rngC (lo c : Int) (n : Nat) : List PyData := (List.range n).map fun (i : Nat) => .int (lo + (i : Int) * c)
def okR (i : Int) : Bool := decide (-(2 ^ 62) ≤ i ∧ i < 2 ^ 62)
def rngD : List PyData → Option (List PyData)
  | [.int j] => if okR j then some (rngI 0 j.toNat) else none
  | [.int i, .int j] => if okR i && okR j then some (rngI i (j - i).toNat) else none
  | [.int i, .int j, .int c] => if decide (c ≠ 0 ∧ c.natAbs < 1073741824) && Builtin.Range.small i j c then some (rngC i c (Builtin.Range.rangeSize i j c).toNat) else none
  | _ => none
def seqD : PyData → Option (List PyData)
  | .tuple xs => some xs
  | .list xs => some xs
  | _ => none
def lstD : PyData → Option (List PyData)
  | .list xs => some xs
  | _ => none
def enumD : Nat → List PyData → List PyData
  | _, [] => []
  | n, x :: xs => .tuple [.int n, x] :: enumD (n + 1) xs
def zipD : List PyData → List PyData → List PyData
  | x :: xs, y :: ys => .tuple [x, y] :: zipD xs ys
  | _, _ => []
def mapR (f : PyData → Feed → R (Option (PyData × Al))) : List PyData → Feed → R (List PyData × Al)
  | [], F => .ok ([], none) F
  | x :: xs, F => match f x F with
    | .ok o F1 => match mapR f xs F1 with
      | .ok p F2 => .ok (match o with
        | some q => (q.1 :: p.1, joinAl q.2 p.2)
        | none => p) F2
      | _ => .stuck
    | _ => .stuck
open Classical in
noncomputable def mapP (f : PyData → Feed → R (Option (PyData × Al))) : List PyData → Feed → Option (List PyData)
  | [], _ => some []
  | x :: xs, F => match f x F with
    | .ok (some q) F1 => if F1 = F then (mapP f xs F).map (q.1 :: ·) else none
    | _ => none
def srcAl (S0 : List Nat) : Al → Al
  | none => none
  | some S => some (S ++ S0)
mutual
noncomputable def evE (c : Cfg) : IE → Env → Feed → R Val
  | .var i, ρ, F => match ρ[i]? with
    | some (some v) => .ok (readV i v) F
    | _ => .stuck
  | .con d, _, F => .ok (.dat d none) F
  | .bin f a b, ρ, F => (evE c a ρ F).bind fun x F => (evE c b ρ F).bind fun y F => datE x F fun d al F => datE y F fun e al' F => (R.of (bopD f d e) F).bind fun z F => .ok (.dat z (alOp z (joinAl al al'))) F
  | .neg a, ρ, F => (evE c a ρ F).bind fun x F => datE x F fun d _ F => (R.of (negD d) F).bind fun z F => .ok (.dat z none) F
  | .cmp f a b, ρ, F => (evE c a ρ F).bind fun x F => (evE c b ρ F).bind fun y F => datE x F fun d _ F => datE y F fun e _ F => (R.of (copD f d e) F).bind fun z F => .ok (.dat (.bool z) none) F
  | .chain f g a b e, ρ, F => (evE c a ρ F).bind fun x F => (evE c b ρ F).bind fun y F => datE x F fun d _ F => datE y F fun d' _ F => (R.of (copD f d d') F).bind fun z F =>
      if z then (evE c e ρ F).bind fun u F => datE u F fun d'' _ F => (R.of (copD g d' d'') F).bind fun z' F => .ok (.dat (.bool z') none) F else .ok (.dat (.bool false) none) F
  | .andV a b, ρ, F => (evE c a ρ F).bind fun x F => match x with
    | .dat (.bool k) _ => if k then evE c b ρ F else .ok (.dat (.bool false) none) F
    | _ => .stuck
  | .orV a b, ρ, F => (evE c a ρ F).bind fun x F => match x with
    | .dat (.bool k) _ => if k then .ok (.dat (.bool true) none) F else evE c b ρ F
    | _ => .stuck
  | .andT a b, ρ, F => (evE c a ρ F).bind fun x F => (R.of (truV x) F).bind fun k F => if k then (evE c b ρ F).bind fun y F => (R.of (truV y) F).bind fun k' F => .ok (.dat (.bool k') none) F else .ok (.dat (.bool false) none) F
  | .orT a b, ρ, F => (evE c a ρ F).bind fun x F => (R.of (truV x) F).bind fun k F => if k then .ok (.dat (.bool true) none) F else (evE c b ρ F).bind fun y F => (R.of (truV y) F).bind fun k' F => .ok (.dat (.bool k') none) F
  | .not a, ρ, F => (evE c a ρ F).bind fun x F => (R.of (truV x) F).bind fun k F => .ok (.dat (.bool (!k)) none) F
  | .ite t a b, ρ, F => (evE c t ρ F).bind fun x F => (R.of (truV x) F).bind fun k F => if k then evE c a ρ F else evE c b ρ F
  | .tup es, ρ, F => (evEs c es ρ F).bind fun vs F => (R.of (datsV vs) F).bind fun p F => if p.1.length ≤ sizeLine then .ok (.dat (.tuple p.1) (alNew p.1 p.2)) F else .stuck
  | .lst es, ρ, F => (evEs c es ρ F).bind fun vs F => (R.of (datsV vs) F).bind fun p F => if p.1.length ≤ sizeLine then .ok (.dat (.list p.1) (alNew p.1 p.2)) F else .stuck
  | .idx a i, ρ, F => (evE c a ρ F).bind fun x F => (evE c i ρ F).bind fun y F => datE x F fun d al F => datE y F fun e _ F => (R.of (idxD d e) F).bind fun z F => .ok (.dat z (itemAl al)) F
  | .slc a lo hi, ρ, F => (evE c a ρ F).bind fun x F => (evO c lo ρ F).bind fun l F => (evO c hi ρ F).bind fun h F => datE x F fun d al F => (R.of (slcD l h d) F).bind fun z F => .ok (.dat z (alOp z al)) F
  | .rev a, ρ, F => (evE c a ρ F).bind fun x F => datE x F fun d al F => (R.of (revD d) F).bind fun z F => .ok (.dat z (alOp z al)) F
  | .call f es, ρ, F => (evEs c es ρ F).bind fun vs F => (R.of (argsV vs) F).bind fun as F => (c.cl f as F).bind fun v F => .ok (resV (alVs vs) v) F
  | .draw i e, ρ, F => match ρ[i]? with
    | some (some .feed) => (evE c e ρ F).bind fun x F => match x with
      | .dat (.int m) _ => (match c.dr.f F m with
        | some q => .ok (.dat (.int q.1) none) q.2
        | none => .stuck)
      | _ => .stuck
    | _ => .stuck
  | .blt f es, ρ, F => (evEs c es ρ F).bind fun vs F => (R.of (datsV vs) F).bind fun p F => (R.of (bltD f p.1) F).bind fun z F => .ok (.dat z (alOp z p.2)) F
  | .lc src tg vs cond elt, ρ, F => (evI c src ρ F).bind fun it F => if it.2.all (fun k => !vs.contains k) = true then
      (mapR (fun d F => (R.of (bindT tg d (some it.2) (wipeE ρ vs)) F).bind fun ρ' F => (evC c cond ρ' F).bind fun k F => if k then (evE c elt ρ' F).bind fun v F => (R.of (valD v) F).bind fun q F => .ok (some (q.1, srcAl it.2 q.2)) F else .ok none F) it.1 F).bind fun p F =>
        if p.1.length ≤ sizeLine then .ok (.dat (.list p.1) (alNew p.1 p.2)) F else .stuck
    else .stuck
  | .gen f src tg vs cond elt, ρ, F => (evI c src ρ F).bind fun it F => if it.2.all (fun k => !vs.contains k) = true then
      (R.of (mapP (fun d F => (R.of (bindT tg d (some it.2) (wipeE ρ vs)) F).bind fun ρ' F => (evC c cond ρ' F).bind fun k F => if k then (evE c elt ρ' F).bind fun v F => (R.of (valD v) F).bind fun q F => .ok (some (q.1, srcAl it.2 q.2)) F else .ok none F) it.1 F) F).bind fun ds F =>
        if ds.length ≤ sizeLine ∧ flatAll ds = true then (R.of (bltD f [.list ds]) F).bind fun z F => .ok (.dat z none) F else .stuck
    else .stuck
  | .isx i cs, ρ, F => match ρ[i]? with
    | some (some (.exc x)) => .ok (.dat (.bool (cs.any (xsub x.cls))) none) F
    | _ => .stuck
  | .xfld i f, ρ, F => match ρ[i]? with
    | some (some (.exc x)) => (R.of (((xflds x.cls).zip x.args).lookup f) F).bind fun d F => .ok (.dat d none) F
    | _ => .stuck
  | .count l a b, ρ, F => (evE c a ρ F).bind fun x F => datE x F fun d _ F => (R.of (seqL l d) F).bind fun ys F => (evE c b ρ F).bind fun y F => datE y F fun e _ F => (R.of (countD ys e) F).bind fun z F => .ok (.dat (.int z) none) F
noncomputable def evEs (c : Cfg) : IEs → Env → Feed → R (List Val)
  | .nil, _, F => .ok [] F
  | .cons e es, ρ, F => (evE c e ρ F).bind fun v F => (evEs c es ρ F).bind fun vs F => .ok (v :: vs) F
  | .star e es, ρ, F => (evE c e ρ F).bind fun v F => datE v F fun d al F => (R.of (seqD d) F).bind fun ds F => (evEs c es ρ F).bind fun vs F => .ok (ds.map (fun d => .dat d (itemAl al)) ++ vs) F
noncomputable def evO (c : Cfg) : IO → Env → Feed → R (Option Int)
  | .no, _, F => .ok none F
  | .yes e, ρ, F => (evE c e ρ F).bind fun v F => match v with
    | .dat (.int i) _ => .ok (some i) F
    | _ => .stuck
noncomputable def evI (c : Cfg) : IT → Env → Feed → R (List PyData × List Nat)
  | .seq e, ρ, F => (evE c e ρ F).bind fun v F => datE v F fun d al F => (R.of (seqD d) F).bind fun ds F => .ok (ds, al.getD []) F
  | .rng es, ρ, F => (evEs c es ρ F).bind fun vs F => (R.of (datsV vs) F).bind fun p F => (R.of (rngD p.1) F).bind fun ds F => .ok (ds, []) F
  | .enum e, ρ, F => (evE c e ρ F).bind fun v F => datE v F fun d al F => (R.of (seqD d) F).bind fun ds F => .ok (enumD 0 ds, al.getD []) F
  | .zip a b, ρ, F => (evE c a ρ F).bind fun v F => (evE c b ρ F).bind fun u F => datE v F fun d al F => datE u F fun d' al' F => (R.of (seqD d) F).bind fun ds F => (R.of (seqD d') F).bind fun ds' F => .ok (zipD ds ds', al.getD [] ++ al'.getD []) F
  | .rev e, ρ, F => (evE c e ρ F).bind fun v F => datE v F fun d al F => (R.of (seqD d) F).bind fun ds F => .ok (ds.reverse, al.getD []) F
noncomputable def evC (c : Cfg) : IEs → Env → Feed → R Bool
  | .nil, _, F => .ok true F
  | .cons e es, ρ, F => (evE c e ρ F).bind fun v F => (R.of (truV v) F).bind fun k F => if k then evC c es ρ F else .ok false F
  | .star _ _, _, _ => .stuck
end
inductive Fl where
  | next (ρ : Env)
  | brk (ρ : Env)
  | cont (ρ : Env)
  | ret (v : Val)
def whileN (test : Env → Feed → R Bool) (body : Env → Feed → R Fl) : Nat → Env → Feed → R Fl
  | 0, _, _ => .stuck
  | n + 1, ρ, F => (test ρ F).bind fun k F => if k then (body ρ F).bind fun fl F => match fl with
      | .next ρ' => whileN test body n ρ' F
      | .cont ρ' => whileN test body n ρ' F
      | .brk ρ' => .ok (.next ρ') F
      | .ret v => .ok (.ret v) F
    else .ok (.next ρ) F
open Classical in
noncomputable def whileR (test : Env → Feed → R Bool) (body : Env → Feed → R Fl) (ρ : Env) (F : Feed) : R Fl :=
  if h : ∃ n, whileN test body n ρ F ≠ .stuck then whileN test body h.choose ρ F else .stuck
def forR (tg : Tg) (body : Env → Feed → R Fl) : List PyData → Env → Feed → R Fl
  | [], ρ, F => .ok (.next ρ) F
  | d :: ds, ρ, F => (R.of (bindT tg d (some []) ρ) F).bind fun ρ F => (body ρ F).bind fun fl F => match fl with
      | .next ρ' => forR tg body ds ρ' F
      | .cont ρ' => forR tg body ds ρ' F
      | .brk ρ' => .ok (.next ρ') F
      | .ret v => .ok (.ret v) F
def goneF (i : Option Nat) (fl : Fl) : Fl := match i with
  | none => fl
  | some i => match fl with
    | .next ρ => .next (ρ.set i none)
    | .brk ρ => .brk (ρ.set i none)
    | .cont ρ => .cont (ρ.set i none)
    | .ret v => .ret v
def suiteE (n : Nat) (x : Exc) : Option Nat → Env
  | none => List.replicate n none
  | some i => (List.replicate n none).set i (some (.exc x))
def ownL (ρ : Env) (x : Nat) : Option (List PyData) := match ρ[x]? with
  | some (some (.dat (.list ds) none)) => some ds
  | _ => none
def okPut (d : PyData) (al : Al) : Bool := match al with
  | none => true
  | some _ => flat d
abbrev ixOf (n : Nat) (i : Int) : Option Nat := L2.ixN n i
def parV : Val → Val → Val
  | .dat d none, .dat e (some _) => if flat d || flat e then .dat d none else .dat d (some [])
  | v, _ => v
def okP : Val → Bool
  | .dat _ none => true
  | .dat d (some _) => flat d
  | _ => false
mutual
noncomputable def evS (c : Cfg) : IS → Env → Feed → R Fl
  | .set i e, ρ, F => (evE c e ρ F).bind fun v F => .ok (.next (store ρ i v)) F
  | .unp t e, ρ, F => (evE c e ρ F).bind fun v F => datE v F fun d al F => (R.of (bindT t d (itemAl al) ρ) F).bind fun ρ F => .ok (.next ρ) F
  | .par i j a b, ρ, F => (evE c a ρ F).bind fun v F => (evE c b ρ F).bind fun u F => .ok (.next (store (store ρ i (parV v u)) j u)) F
  | .par3 i j k a b e, ρ, F => (evE c a ρ F).bind fun v F => (evE c b ρ F).bind fun u F => (evE c e ρ F).bind fun w F => if okP v && okP u && okP w then .ok (.next (store (store (store ρ i v) j u) k w)) F else .stuck
  | .aug i f e, ρ, F => match ρ[i]? with
    | some (some (.dat (.int a) _)) => (evE c e ρ F).bind fun v F => match v with
      | .dat (.int b) _ => (match bopD f (.int a) (.int b) with
        | some (.int z) => .ok (.next (ρ.set i (some (.dat (.int z) none)))) F
        | _ => .stuck)
      | _ => .stuck
    | _ => .stuck
  | .setIx x ix e, ρ, F => (evE c e ρ F).bind fun v F => (R.of (ownL ρ x) F).bind fun ds F => (evE c ix ρ F).bind fun u F => datE v F fun d al F => match u with
      | .dat (.int i) _ => if okPut d al = true then (R.of (ixOf ds.length i) F).bind fun k F => .ok (.next (ρ.set x (some (.dat (.list (ds.set k d)) none)))) F else .stuck
      | _ => .stuck
  | .setIx2 x ix jx e, ρ, F => (evE c e ρ F).bind fun v F => (R.of (ownL ρ x) F).bind fun ds F => (evE c ix ρ F).bind fun u F => (evE c jx ρ F).bind fun w F => datE v F fun d al F => match u, w with
      | .dat (.int i) _, .dat (.int j) _ => (R.of (ixOf ds.length i) F).bind fun k F => match ds[k]? with
        | some (.list es) => (R.of (ixOf es.length j) F).bind fun m F => if flat d then .ok (.next (ρ.set x (some (.dat (.list (ds.set k (.list (es.set m d)))) none)))) F else .stuck
        | _ => .stuck
      | _, _ => .stuck
  | .app x e, ρ, F => (R.of (ownL ρ x) F).bind fun ds F => (evE c e ρ F).bind fun v F => datE v F fun d al F =>
      if ds.length < sizeLine ∧ okPut d al = true then .ok (.next (ρ.set x (some (.dat (.list (ds ++ [d])) none)))) F else .stuck
  | .ext x e, ρ, F => (R.of (ownL ρ x) F).bind fun ds F => (evE c e ρ F).bind fun v F => datE v F fun d al F => match d with
      | .list es => if ds.length + es.length ≤ sizeLine ∧ flatAll es = true then .ok (.next (ρ.set x (some (.dat (.list (ds ++ es)) none)))) F else .stuck
      | _ => .stuck
  | .pop x, ρ, F => (R.of (ownL ρ x) F).bind fun ds F => if ds.isEmpty then .stuck else .ok (.next (ρ.set x (some (.dat (.list ds.dropLast) none)))) F
  | .popTo i x, ρ, F => (R.of (ownL ρ x) F).bind fun ds F => match ds.getLast? with
        | some d => if flat d = true ∧ i ≠ x then .ok (.next ((ρ.set x (some (.dat (.list ds.dropLast) none))).set i (some (.dat d none)))) F else .stuck
        | none => .stuck
  | .reverse x, ρ, F => (R.of (ownL ρ x) F).bind fun ds F => .ok (.next (ρ.set x (some (.dat (.list ds.reverse) none)))) F
  | .ex e, ρ, F => (evE c e ρ F).bind fun _ F => .ok (.next ρ) F
  | .ite t a b, ρ, F => (evE c t ρ F).bind fun v F => (R.of (truV v) F).bind fun k F => if k then evSs c a ρ F else evSs c b ρ F
  | .whl t b, ρ, F => whileR (fun ρ F => (evE c t ρ F).bind fun v F => R.of (truV v) F) (fun ρ F => evSs c b ρ F) ρ F
  | .for_ src tg b, ρ, F => (evI c src ρ F).bind fun it F => forR tg (fun ρ F => evSs c b ρ F) it.1 (freeze it.2 ρ) F
  | .ret e, ρ, F => match e with
      | .var i => match ρ[i]? with
        | some (some v) => .ok (.ret v) F
        | _ => .stuck
      | e => (evE c e ρ F).bind fun v F => .ok (.ret v) F
  | .retN, _, F => .ok (.ret (.dat .none none)) F
  | .brk, ρ, F => .ok (.brk ρ) F
  | .cnt, ρ, F => .ok (.cont ρ) F
  | .pas, ρ, F => .ok (.next ρ) F
  | .raise k es, ρ, F => if c.dr.rz = true then (evEs c es ρ F).bind fun vs F => (R.of (datsV vs) F).bind fun p F =>
      if xflds k = [] then (if p.1.length ≤ sizeLine then .exc ⟨k, []⟩ F else .stuck) else if p.1.length = (xflds k).length ∧ flatAll p.1 = true then .exc ⟨k, p.1⟩ F else .stuck
    else .stuck
  | .try_ b hs, ρ, F => match evSs c b ρ F with
    | .ok fl F1 => .ok fl F1
    | .exc x F1 => evXh c hs x ρ.length F1
    | .stuck => .stuck
noncomputable def evSs (c : Cfg) : ISs → Env → Feed → R Fl
  | .nil, ρ, F => .ok (.next ρ) F
  | .cons s ss, ρ, F => (evS c s ρ F).bind fun fl F => match fl with
      | .next ρ' => evSs c ss ρ' F
      | fl => .ok fl F
noncomputable def evXh (c : Cfg) : IHs → Exc → Nat → Feed → R Fl
  | .nil, _, _, _ => .stuck
  | .cons k i ss hs, x, n, F => if xsub x.cls k = true then (match evSs c ss (suiteE n x i) F with
      | .ok fl F1 => .ok (goneF i fl) F1
      | _ => .stuck) else evXh c hs x n F
end
structure Fn where
  ps : Nat
  ns : Nat
  body : ISs
abbrev Tab := String → Option Fn
def outV : Fl → Option Val
  | .next _ => some (.dat .none none)
  | .ret v => some v
  | _ => none
def startE (n : Nat) (as : List Arg) : Env := as.map slotA ++ List.replicate (n - as.length) none
noncomputable def evF (dr : Dr) (T : Tab) : Nat → Orc
  | 0, _, _, _ => .stuck
  | k + 1, f, as, F => match T f with
    | some fn => if as.length = fn.ps then (evSs ⟨evF dr T k, dr⟩ fn.body (startE fn.ns as) F).bind fun fl F => R.of (outV fl) F else .stuck
    | none => .stuck
end Pv
namespace Pv
open PySem L2
variable [Tabs]
mutual
inductive Dq (K : PySem.W.Frag) (H : Hp) : V → PyData → Prop
  | non : Dq K H .non .none
  | bl (b : Bool) : Dq K H (.bl b) (.bool b)
  | int (i : Int) : Dq K H (.int i) (.int i)
  | str (x : Str) : Dq K H (.str x) (.str x)
  | lst {a : Addr} {xs : List V} {ds : List PyData} : H a = some (.lst xs) → DqAll K H xs ds → Dq K H (.ref a) (.list ds)
  | tup {a : Addr} {xs : List V} {ds : List PyData} : SqT K H a xs → DqAll K H xs ds → Dq K H (.ref a) (.tuple ds)
  | dct {a : Addr} {kvs : List (Key × V)} {ds : List (PyData × PyData)} : H a = some (.dK kvs) → DqKv K H kvs ds → Dq K H (.ref a) (.dict ds)
inductive DqAll (K : PySem.W.Frag) (H : Hp) : List V → List PyData → Prop
  | nil : DqAll K H [] []
  | cons {v : V} {vs : List V} {d : PyData} {ds : List PyData} : Dq K H v d → DqAll K H vs ds → DqAll K H (v :: vs) (d :: ds)
inductive DqKv (K : PySem.W.Frag) (H : Hp) : List (Key × V) → List (PyData × PyData) → Prop
  | nil : DqKv K H [] []
  | cons {k : Int} {v : V} {d : PyData} {kvs : List (Key × V)} {ds : List (PyData × PyData)} : Dq K H v d → DqKv K H kvs ds → DqKv K H ((.inl k, v) :: kvs) ((.int k, d) :: ds)
end
mutual
theorem Dq.same {K : PySem.W.Frag} {H H' : Hp} (e : Same H H') : ∀ {d : PyData} {v : V}, Dq K H v d → Dq K H' v d
  | .none, _, h => by cases h; exact .non
  | .bool b, _, h => by cases h; exact .bl b
  | .int i, _, h => by cases h; exact .int i
  | .str x, _, h => by cases h; exact .str x
  | .list ds, _, h => by
    cases h with
    | lst hs ha => exact .lst (e _ _ hs) (DqAll.same e ha)
  | .tuple ds, _, h => by
    cases h with
    | tup hs ha => exact .tup (e.seqT hs) (DqAll.same e ha)
  | .dict ds, _, h => by
    cases h with
    | dct hs ha => exact .dct (e _ _ hs) (DqKv.same e ha)
theorem DqAll.same {K : PySem.W.Frag} {H H' : Hp} (e : Same H H') : ∀ {ds : List PyData} {vs : List V}, DqAll K H vs ds → DqAll K H' vs ds
  | [], _, h => by cases h; exact .nil
  | d :: ds, _, h => by
    cases h with
    | cons h1 h2 => exact .cons (Dq.same e h1) (DqAll.same e h2)
theorem DqKv.same {K : PySem.W.Frag} {H H' : Hp} (e : Same H H') : ∀ {ds : List (PyData × PyData)} {kvs : List (Key × V)}, DqKv K H kvs ds → DqKv K H' kvs ds
  | [], _, h => by cases h; exact .nil
  | (_, d) :: ds, _, h => by
    cases h with
    | cons h1 h2 => exact .cons (Dq.same e h1) (DqKv.same e h2)
end
noncomputable def hid (N : Addr → Prop) (H : Hp) : Hp := open Classical in fun a => if N a then none else H a
theorem hid_some {N : Addr → Prop} {H : Hp} {a : Addr} {o : HO} : hid N H a = some o ↔ ¬ N a ∧ H a = some o := by
  unfold hid
  by_cases h : N a
  · simp [h]
  · simp [h]
theorem hid_same {N N' : Addr → Prop} {H H' : Hp} (h : ∀ a o, ¬ N a → H a = some o → ¬ N' a ∧ H' a = some o) : Same (hid N H) (hid N' H') := fun a o e => by
  obtain ⟨h1, h2⟩ := hid_some.mp e
  exact hid_some.mpr (h a o h1 h2)
theorem hid_un {N : Addr → Prop} {H : Hp} : Same (hid N H) H := fun a o e => (hid_some.mp e).2
theorem Dq.un {K : PySem.W.Frag} {N : Addr → Prop} {H : Hp} {v : V} {d : PyData} (h : Dq K (hid N H) v d) : Dq K H v d := h.same hid_un
theorem DqAll.un {K : PySem.W.Frag} {N : Addr → Prop} {H : Hp} {v : List V} {d : List PyData} (h : DqAll K (hid N H) v d) : DqAll K H v d := h.same hid_un
theorem DqAll.length {K : PySem.W.Frag} {H : Hp} : ∀ {vs : List V} {ds : List PyData}, DqAll K H vs ds → vs.length = ds.length
  | _, [], h => by cases h; rfl
  | _, _ :: _, h => by
    cases h with
    | cons h1 h2 => rw [List.length_cons, List.length_cons, h2.length]
theorem DqAll.get {K : PySem.W.Frag} {H : Hp} : ∀ {vs : List V} {ds : List PyData} {i : Nat} {d : PyData}, DqAll K H vs ds → ds[i]? = some d → ∃ v, vs[i]? = some v ∧ Dq K H v d
  | _, [], i, d, h, e => by simp at e
  | _, x :: r, 0, d, h, e => by
    cases h with
    | cons h1 h2 =>
      have e' : x = d := by simpa using e
      subst e'
      exact ⟨_, rfl, h1⟩
  | _, _ :: r, i + 1, d, h, e => by
    cases h with
    | cons h1 h2 =>
      obtain ⟨v, e1, e2⟩ := h2.get (i := i) (d := d) (by simpa using e)
      exact ⟨v, by simpa using e1, e2⟩
theorem DqAll.append {K : PySem.W.Frag} {H : Hp} : ∀ {vs us : List V} {ds es : List PyData}, DqAll K H vs ds → DqAll K H us es → DqAll K H (vs ++ us) (ds ++ es)
  | _, _, [], _, h, q => by cases h; exact q
  | _, _, _ :: _, _, h, q => by
    cases h with
    | cons h1 h2 => exact .cons h1 (h2.append q)
theorem DqAll.take {K : PySem.W.Frag} {H : Hp} : ∀ {vs : List V} {ds : List PyData} (n : Nat), DqAll K H vs ds → DqAll K H (vs.take n) (ds.take n)
  | _, _, 0, _ => by simp; exact .nil
  | _, [], n + 1, h => by cases h; simp; exact .nil
  | _, _ :: _, n + 1, h => by
    cases h with
    | cons h1 h2 => exact .cons h1 (h2.take n)
theorem DqAll.drop {K : PySem.W.Frag} {H : Hp} : ∀ {vs : List V} {ds : List PyData} (n : Nat), DqAll K H vs ds → DqAll K H (vs.drop n) (ds.drop n)
  | _, _, 0, h => h
  | _, [], n + 1, h => by cases h; simp; exact .nil
  | _, _ :: _, n + 1, h => by
    cases h with
    | cons h1 h2 => exact h2.drop n
theorem DqAll.reverse {K : PySem.W.Frag} {H : Hp} : ∀ {vs : List V} {ds : List PyData}, DqAll K H vs ds → DqAll K H vs.reverse ds.reverse
  | _, [], h => by cases h; exact .nil
  | _, _ :: _, h => by
    cases h with
    | cons h1 h2 =>
      rw [List.reverse_cons, List.reverse_cons]
      exact h2.reverse.append (.cons h1 .nil)
def Mu : Option HO → Prop
  | some (.lst _) => True
  | some (.dK _) => True
  | _ => False
theorem Mu.ntup {H : Hp} {K : PySem.W.Frag} {N : Addr → Prop} (m : ∀ a, N a → Mu (H a)) {a : Addr} {xs : List V} (h : SqT K H a xs) : SqT K (hid N H) a xs := by
  rcases h with (h | ⟨o, h⟩) | h
  · refine .inl (.inl (hid_some.mpr ⟨fun n => ?_, h⟩))
    have := m a n
    rw [h] at this
    exact this
  · refine .inl (.inr ⟨o, hid_some.mpr ⟨fun n => ?_, h⟩⟩)
    have := m a n
    rw [h] at this
    exact this
  · exact .inr h
mutual
theorem Dq.flat {K : PySem.W.Frag} {H : Hp} {N : Addr → Prop} (m : ∀ a, N a → Mu (H a)) : ∀ {d : PyData} {v : V}, Pv.flat d = true → Dq K H v d → Dq K (hid N H) v d
  | .none, _, _, h => by cases h; exact .non
  | .bool b, _, _, h => by cases h; exact .bl b
  | .int i, _, _, h => by cases h; exact .int i
  | .str x, _, _, h => by cases h; exact .str x
  | .list ds, _, f, h => by simp [Pv.flat] at f
  | .tuple ds, _, f, h => by
    cases h with
    | tup hs ha => exact .tup (Mu.ntup m hs) (DqAll.flat m (by simpa [Pv.flat] using f) ha)
  | .dict ds, _, f, h => by simp [Pv.flat] at f
theorem DqAll.flat {K : PySem.W.Frag} {H : Hp} {N : Addr → Prop} (m : ∀ a, N a → Mu (H a)) : ∀ {ds : List PyData} {vs : List V}, Pv.flatAll ds = true → DqAll K H vs ds → DqAll K (hid N H) vs ds
  | [], _, _, h => by cases h; exact .nil
  | d :: ds, _, f, h => by
    cases h with
    | cons h1 h2 =>
      have f' : Pv.flat d = true ∧ flatAll ds = true := by simpa [flatAll] using f
      exact .cons (Dq.flat m f'.1 h1) (DqAll.flat m f'.2 h2)
end
mutual
inductive Ow (K : PySem.W.Frag) (H : Hp) : List Addr → V → PyData → Prop
  | flat {v : V} {d : PyData} : Pv.flat d = true → Dq K H v d → Ow K H [] v d
  | lst {a : Addr} {fp : List Addr} {xs : List V} {ds : List PyData} : H a = some (.lst xs) → OwAll K H fp xs ds → Ow K H (a :: fp) (.ref a) (.list ds)
  | tup {a : Addr} {fp : List Addr} {xs : List V} {ds : List PyData} : SqT K H a xs → OwAll K H fp xs ds → Ow K H fp (.ref a) (.tuple ds)
inductive OwAll (K : PySem.W.Frag) (H : Hp) : List Addr → List V → List PyData → Prop
  | nil : OwAll K H [] [] []
  | cons {fp fp' : List Addr} {v : V} {vs : List V} {d : PyData} {ds : List PyData} : Ow K H fp v d → OwAll K H fp' vs ds → OwAll K H (fp ++ fp') (v :: vs) (d :: ds)
end
theorem OwAll.flat {K : PySem.W.Frag} {H : Hp} : ∀ {ds : List PyData} {vs : List V}, flatAll ds = true → DqAll K H vs ds → OwAll K H [] vs ds
  | [], _, _, h => by cases h; exact .nil
  | d :: ds, _, f, h => by
    have f' : Pv.flat d = true ∧ flatAll ds = true := by simpa [flatAll] using f
    cases h with
    | cons h1 h2 => exact OwAll.cons (fp := []) (.flat f'.1 h1) (OwAll.flat f'.2 h2)
mutual
theorem Ow.keep {K : PySem.W.Frag} {H H' : Hp} (t : ∀ a xs, SqT K H a xs → SqT K H' a xs) : ∀ {d : PyData} {fp : List Addr} {v : V}, Ow K H fp v d → (∀ a o, a ∈ fp → H a = some o → H' a = some o) → (∀ v d, Pv.flat d = true → Dq K H v d → Dq K H' v d) → Ow K H' fp v d
  | .none, _, _, h, _, f => by cases h with | flat e q => exact .flat e (f _ _ e q)
  | .bool b, _, _, h, _, f => by cases h with | flat e q => exact .flat e (f _ _ e q)
  | .int i, _, _, h, _, f => by cases h with | flat e q => exact .flat e (f _ _ e q)
  | .str x, _, _, h, _, f => by cases h with | flat e q => exact .flat e (f _ _ e q)
  | .list ds, _, _, h, k, f => by
    cases h with
    | flat e q => simp [Pv.flat] at e
    | lst hs ha => exact .lst (k _ _ (by simp) hs) (OwAll.keep t ha (fun a o m => k a o (by simp [m])) f)
  | .tuple ds, _, _, h, k, f => by
    cases h with
    | flat e q => exact .flat e (f _ _ e q)
    | tup hs ha => exact .tup (t _ _ hs) (OwAll.keep t ha k f)
  | .dict ds, _, _, h, _, f => by cases h with | flat e q => exact .flat e (f _ _ e q)
theorem OwAll.keep {K : PySem.W.Frag} {H H' : Hp} (t : ∀ a xs, SqT K H a xs → SqT K H' a xs) : ∀ {ds : List PyData} {fp : List Addr} {vs : List V}, OwAll K H fp vs ds → (∀ a o, a ∈ fp → H a = some o → H' a = some o) → (∀ v d, Pv.flat d = true → Dq K H v d → Dq K H' v d) → OwAll K H' fp vs ds
  | [], _, _, h, _, _ => by cases h; exact .nil
  | d :: ds, _, _, h, k, f => by
    cases h with
    | cons h1 h2 => exact .cons (Ow.keep t h1 (fun a o m => k a o (by simp [m])) f) (OwAll.keep t h2 (fun a o m => k a o (by simp [m])) f)
end
mutual
theorem Ow.lists {K : PySem.W.Frag} {H : Hp} : ∀ {d : PyData} {fp : List Addr} {v : V}, Ow K H fp v d → ∀ a ∈ fp, ∃ xs, H a = some (.lst xs)
  | .list ds, _, _, h, b, m => by
    cases h with
    | flat e q => simp [Pv.flat] at e
    | lst hs ha =>
      rcases List.mem_cons.mp m with e | m
      · rw [e]; exact ⟨_, hs⟩
      · exact OwAll.lists ha b m
  | .tuple ds, _, _, h, b, m => by
    cases h with
    | flat e q => simp at m
    | tup hs ha => exact OwAll.lists ha b m
  | .none, _, _, h, b, m => by cases h; simp at m
  | .bool _, _, _, h, b, m => by cases h; simp at m
  | .int _, _, _, h, b, m => by cases h; simp at m
  | .str _, _, _, h, b, m => by cases h; simp at m
  | .dict _, _, _, h, b, m => by cases h; simp at m
theorem OwAll.lists {K : PySem.W.Frag} {H : Hp} : ∀ {ds : List PyData} {fp : List Addr} {vs : List V}, OwAll K H fp vs ds → ∀ a ∈ fp, ∃ xs, H a = some (.lst xs)
  | [], _, _, h, b, m => by cases h; simp at m
  | d :: ds, _, _, h, b, m => by
    cases h with
    | cons h1 h2 =>
      rcases List.mem_append.mp m with m | m
      · exact Ow.lists h1 b m
      · exact OwAll.lists h2 b m
end
mutual
theorem Ow.dq {K : PySem.W.Frag} {H : Hp} {N : Addr → Prop} (m : ∀ a, N a → Mu (H a)) : ∀ {d : PyData} {fp : List Addr} {v : V}, Ow K H fp v d → (∀ a ∈ fp, ¬ N a) → Dq K (hid N H) v d
  | .list ds, _, _, h, n => by
    cases h with
    | flat e q => simp [Pv.flat] at e
    | lst hs ha => exact .lst (hid_some.mpr ⟨n _ (by simp), hs⟩) (OwAll.dq m ha fun a h => n a (by simp [h]))
  | .tuple ds, _, _, h, n => by
    cases h with
    | flat e q => exact q.flat m e
    | tup hs ha => exact .tup (Mu.ntup m hs) (OwAll.dq m ha n)
  | .none, _, _, h, n => by cases h with | flat e q => exact q.flat m e
  | .bool _, _, _, h, n => by cases h with | flat e q => exact q.flat m e
  | .int _, _, _, h, n => by cases h with | flat e q => exact q.flat m e
  | .str _, _, _, h, n => by cases h with | flat e q => exact q.flat m e
  | .dict _, _, _, h, n => by cases h with | flat e q => exact q.flat m e
theorem OwAll.dq {K : PySem.W.Frag} {H : Hp} {N : Addr → Prop} (m : ∀ a, N a → Mu (H a)) : ∀ {ds : List PyData} {fp : List Addr} {vs : List V}, OwAll K H fp vs ds → (∀ a ∈ fp, ¬ N a) → DqAll K (hid N H) vs ds
  | [], _, _, h, n => by cases h; exact .nil
  | d :: ds, _, _, h, n => by
    cases h with
    | cons h1 h2 => exact .cons (Ow.dq m h1 fun a h => n a (by simp [h])) (OwAll.dq m h2 fun a h => n a (by simp [h]))
end
theorem OwAll.length {K : PySem.W.Frag} {H : Hp} : ∀ {fp : List Addr} {vs : List V} {ds : List PyData}, OwAll K H fp vs ds → vs.length = ds.length
  | _, _, [], h => by cases h; rfl
  | _, _, _ :: _, h => by
    cases h with
    | cons h1 h2 => rw [List.length_cons, List.length_cons, h2.length]
structure FRep (F : Feed) (p ce : Addr) (H : Hp) : Prop where
  at_p : H p = some (if F.lst then .lst [.ref ce, .int F.spot, .int F.left, .int F.turn] else .dK (GB.feedL ce F.spot F.left F.turn))
  at_ce : H ce = some (.lst (F.cells.map V.int))
  len : F.cells.length ≤ 63
  turn : 0 ≤ F.turn
  ne : ce ≠ p
theorem FRep.mu {F : Feed} {p ce : Addr} {H : Hp} (h : FRep F p ce H) : Mu (H p) := by
  rw [h.at_p]
  split <;> trivial
theorem FRep.some {F : Feed} {p ce : Addr} {H : Hp} (h : FRep F p ce H) : H p ≠ none := by
  rw [h.at_p]
  simp
theorem FRep.same {F : Feed} {p ce : Addr} {H H' : Hp} (h : FRep F p ce H) (e : Same H H') : FRep F p ce H' :=
  ⟨e _ _ h.at_p, e _ _ h.at_ce, h.len, h.turn, h.ne⟩
structure Amb where
  p : Addr
  ce : Addr
  N : Addr → Prop
  E0 : Hp
structure Aft (c : Amb) (F' : Feed) (H H' : Hp) : Prop where
  keep : ∀ b o, H b = some o → b ≠ c.p → H' b = some o
  feed : FRep F' c.p c.ce H'
theorem Aft.trans {c : Amb} {F1 F2 : Feed} {H H1 H2 : Hp} (a : Aft c F1 H H1) (b : Aft c F2 H1 H2) : Aft c F2 H H2 := ⟨fun x o e n => b.keep x o (a.keep x o e n) n, b.feed⟩
theorem Aft.of {c : Amb} {F : Feed} {H H' : Hp} (f : FRep F c.p c.ce H) (e : Same H H') : Aft c F H H' := ⟨fun b o h _ => e b o h, f.same e⟩
theorem Aft.refl {c : Amb} {F : Feed} {H : Hp} (f : FRep F c.p c.ce H) : Aft c F H H := ⟨fun b o h _ => h, f⟩
def av (c : Amb) (fps : Nat → List Addr) (S : List Nat) : Addr → Prop := fun a => c.N a ∨ ∃ j, j ∉ S ∧ a ∈ fps j
def XRep (K : PySem.W.Frag) (H : Hp) (x : Exc) (cls : Value) (dx : Option Addr) : Prop := ∃ C, Tabs.xc x.cls = some C ∧ cls = .ref C ∧ flatAll x.args = true ∧ x.args.length = (xflds x.cls).length ∧ match dx with
  | none => xflds x.cls = []
  | some d => ∃ vs, H d = some (.xd (((xflds x.cls).map Str.ofString).zip vs)) ∧ DqAll K H vs x.args
def XV (K : PySem.W.Frag) (H : Hp) (u : V) (x : Exc) : Prop := ∃ a C dx, u = .ref a ∧ H a = some (.ext (XF a C dx)) ∧ XRep K H x (.ref C) dx
theorem DqAll.flatK {K : PySem.W.Frag} {H H' : Hp} (f : ∀ v d, Pv.flat d = true → Dq K H v d → Dq K H' v d) : ∀ {ds : List PyData} {vs : List V}, flatAll ds = true → DqAll K H vs ds → DqAll K H' vs ds
  | [], _, _, h => by cases h; exact .nil
  | d :: ds, _, e, h => by
    have e' : Pv.flat d = true ∧ flatAll ds = true := by simpa [flatAll] using e
    cases h with
    | cons h1 h2 => exact .cons (f _ _ e'.1 h1) (DqAll.flatK f e'.2 h2)
theorem XRep.keep {K : PySem.W.Frag} {H H' : Hp} {x : Exc} {cls : Value} {dx : Option Addr} (h : XRep K H x cls dx) (k : ∀ b o, ¬ Mu (some o) → H b = some o → H' b = some o) (f : ∀ v d, Pv.flat d = true → Dq K H v d → Dq K H' v d) : XRep K H' x cls dx := by
  obtain ⟨C, h1, h2, h3, h4, h5⟩ := h
  refine ⟨C, h1, h2, h3, h4, ?_⟩
  cases dx with
  | none => exact h5
  | some d =>
    obtain ⟨vs, e, q⟩ := h5
    exact ⟨vs, k _ _ (fun z => z) e, q.flatK f h3⟩
theorem XV.keep {K : PySem.W.Frag} {H H' : Hp} {u : V} {x : Exc} (h : XV K H u x) (k : ∀ b o, ¬ Mu (some o) → H b = some o → H' b = some o) (f : ∀ v d, Pv.flat d = true → Dq K H v d → Dq K H' v d) : XV K H' u x := by
  obtain ⟨a, C, dx, h1, h2, h3⟩ := h
  exact ⟨a, C, dx, h1, k _ _ (fun z => z) h2, h3.keep k f⟩
theorem XV.same {K : PySem.W.Frag} {H H' : Hp} {u : V} {x : Exc} (h : XV K H u x) (e : Same H H') : XV K H' u x := h.keep (fun b o _ q => e b o q) fun v d _ q => q.same e
def SlotOk (K : PySem.W.Frag) (c : Amb) (fps : Nat → List Addr) (H : Hp) (i : Nat) (u : V) : Val → Prop
  | .dat d none => Ow K H (fps i) u d
  | .dat d (some _) => Dq K (hid (av c fps []) H) u d
  | .feed => u = .ref c.p
  | .exc x => XV K H u x
structure Sim (K : PySem.W.Frag) (c : Amb) (fps : Nat → List Addr) (ρ : Env) (F : Feed) (σ : L2.St) (H : Hp) : Prop where
  len : ρ.length = σ.length
  slot : ∀ i v, ρ[i]? = some (some v) → ∃ u, σ[i]? = some (some u) ∧ SlotOk K c fps H i u v
  emp : ∀ i, (∀ d, ρ[i]? ≠ some (some (.dat d none))) → fps i = []
  nd : ∀ i, (fps i).Nodup
  dj : ∀ i j a, a ∈ fps i → a ∈ fps j → i = j
  new : ∀ i a, a ∈ fps i → c.E0 a = none
  ent : ∀ b o, c.E0 b = some o → b ≠ c.p → H b = some o
  tb : ∀ q, Tabs.tb q → q ≠ c.p ∧ c.E0 q = some (.ext (tabF q))
  p0 : c.E0 c.p ≠ none
  ce0 : c.E0 c.ce ≠ none
  feed : FRep F c.p c.ce H
  np : c.N c.p
  mu : ∀ a, c.N a → Mu (H a)
  nN : ∀ i a, a ∈ fps i → ¬ c.N a
def VOk (K : PySem.W.Frag) (c : Amb) (fps : Nat → List Addr) (H0 H : Hp) (u : V) : Val → Prop
  | .dat d none => ∃ fp, Ow K H fp u d ∧ fp.Nodup ∧ ∀ a ∈ fp, H0 a = none
  | .dat d (some S) => Dq K (hid (av c fps S) H) u d
  | .feed => u = .ref c.p
  | .exc x => XV K H u x
theorem Aft.sqt {K : PySem.W.Frag} {c : Amb} {F : Feed} {H H' : Hp} (m : Mu (H c.p)) (e : Aft c F H H') : ∀ a xs, SqT K H a xs → SqT K H' a xs := fun a xs h => by
  have np : ∀ o, H a = some o → (∀ xs, o ≠ .lst xs) → (∀ xs, o ≠ .dK xs) → a ≠ c.p := fun o h h1 h2 z => by
    subst z
    rw [h] at m
    cases o <;> first | exact m | exact h1 _ rfl | exact h2 _ rfl
  rcases h with (h | ⟨o, h⟩) | h
  · exact .inl (.inl (e.keep _ _ h (np _ h (fun _ z => by cases z) (fun _ z => by cases z))))
  · exact .inl (.inr ⟨o, e.keep _ _ h (np _ h (fun _ z => by cases z) (fun _ z => by cases z))⟩)
  · exact .inr h
theorem Aft.hid {c : Amb} {F : Feed} {H H' : Hp} (e : Aft c F H H') {N : Addr → Prop} (n : N c.p) : Same (hid N H) (hid N H') :=
  hid_same fun a o h1 h2 => ⟨h1, e.keep a o h2 fun z => h1 (z ▸ n)⟩
theorem Aft.flat {K : PySem.W.Frag} {c : Amb} {F : Feed} {H H' : Hp} (m : Mu (H c.p)) (e : Aft c F H H') : ∀ v d, Pv.flat d = true → Dq K H v d → Dq K H' v d := fun v d f h =>
  ((Dq.flat (N := fun a => a = c.p) (fun a z => z ▸ m) f h).same (e.hid (N := fun a => a = c.p) rfl)).un
section
variable {K : PySem.W.Frag} {c : Amb} {fps : Nat → List Addr} {ρ : Env} {F F' : Feed} {σ : L2.St} {H H' H0 H1 : Hp} {u : V} {v : Val} {d : PyData} {al : Al} {S S' : List Nat}
theorem Ow.aft (m : Mu (H c.p)) (e : Aft c F' H H') {fp : List Addr} (h : Ow K H fp u d) (n : c.p ∉ fp) : Ow K H' fp u d :=
  Ow.keep (e.sqt m) h (fun a o z q => e.keep a o q fun w => n (w ▸ z)) (e.flat m)
theorem Aft.keepN (m : Mu (H c.p)) (e : Aft c F' H H') : ∀ b o, ¬ Mu (some o) → H b = some o → H' b = some o := fun b o n h => e.keep b o h fun z => by
  subst z
  rw [h] at m
  exact n m
theorem XV.aft {x : Exc} (m : Mu (H c.p)) (e : Aft c F' H H') (h : XV K H u x) : XV K H' u x := h.keep (e.keepN m) (e.flat m)
theorem XRep.aft {x : Exc} {cls : Value} {dx : Option Addr} (m : Mu (H c.p)) (e : Aft c F' H H') (h : XRep K H x cls dx) : XRep K H' x cls dx := h.keep (e.keepN m) (e.flat m)
theorem Sim.nfp (s : Sim K c fps ρ F σ H) (i : Nat) : c.p ∉ fps i := fun z => s.p0 (s.new i _ z)
theorem Sim.lists (s : Sim K c fps ρ F σ H) {i : Nat} {a : Addr} (h : a ∈ fps i) : ∃ xs, H a = some (.lst xs) := by
  by_cases q : ∃ d, ρ[i]? = some (some (.dat d none))
  · obtain ⟨d, q⟩ := q
    obtain ⟨u, _, o⟩ := s.slot i _ q
    exact o.lists a h
  · rw [s.emp i fun d z => q ⟨d, z⟩] at h
    simp at h
theorem Sim.avMu (s : Sim K c fps ρ F σ H) (S : List Nat) : ∀ a, av c fps S a → Mu (H a) := fun a h => by
  rcases h with h | ⟨j, _, h⟩
  · exact s.mu a h
  · obtain ⟨xs, e⟩ := s.lists h
    rw [e]
    trivial
theorem Sim.avSome (s : Sim K c fps ρ F σ H) {S : List Nat} {a : Addr} (h : av c fps S a) : H a ≠ none := fun z => by
  have := s.avMu S a h
  rw [z] at this
  exact this
theorem Sim.aft (s : Sim K c fps ρ F σ H) (e : Aft c F' H H') : Sim K c fps ρ F' σ H' where
  len := s.len
  slot := fun i v h => by
    obtain ⟨u, h1, h2⟩ := s.slot i v h
    refine ⟨u, h1, ?_⟩
    cases v with
    | dat d al =>
      cases al with
      | none => exact Ow.aft s.feed.mu e h2 (s.nfp i)
      | some S => exact Dq.same (e.hid (.inl s.np)) h2
    | feed => exact h2
    | exc x => exact XV.aft s.feed.mu e h2
  emp := s.emp
  nd := s.nd
  dj := s.dj
  new := s.new
  ent := fun b o h n => e.keep b o (s.ent b o h n) n
  p0 := s.p0
  tb := s.tb
  ce0 := s.ce0
  feed := e.feed
  np := s.np
  mu := fun a h => by
    by_cases z : a = c.p
    · subst z; exact e.feed.mu
    · have m := s.mu a h
      cases q : H a with
      | none => rw [q] at m; exact m.elim
      | some o => rw [e.keep a o q z]; rw [q] at m; exact m
  nN := s.nN
theorem VOk.aft {F1 : Feed} (s : Sim K c fps ρ F σ H0) (e0 : Aft c F1 H0 H) (e : Aft c F' H H') (h : VOk K c fps H0 H u v) : VOk K c fps H0 H' u v := by
  cases v with
  | dat d al =>
    cases al with
    | none =>
      obtain ⟨fp, h1, h2, h3⟩ := h
      exact ⟨fp, Ow.aft e0.feed.mu e h1 fun z => s.feed.some (h3 _ z), h2, h3⟩
    | some S => exact Dq.same (e.hid (.inl s.np)) h
  | feed => exact h
  | exc x => exact XV.aft e0.feed.mu e h
theorem VOk.back (e : Aft c F' H0 H1) (hp : H1 c.p ≠ none) (h : VOk K c fps H1 H u v) : VOk K c fps H0 H u v := by
  cases v with
  | dat d al =>
    cases al with
    | none =>
      obtain ⟨fp, h1, h2, h3⟩ := h
      refine ⟨fp, h1, h2, fun a m => ?_⟩
      cases q : H0 a with
      | none => rfl
      | some o =>
        have := e.keep a o q fun z => hp (z ▸ h3 a m)
        rw [h3 a m] at this
        cases this
    | some S => exact h
  | feed => exact h
  | exc x => exact h
theorem av_mono (h : ∀ i ∈ S, i ∈ S') {a : Addr} (z : av c fps S' a) : av c fps S a := by
  rcases z with z | ⟨j, n, z⟩
  · exact .inl z
  · exact .inr ⟨j, fun q => n (h j q), z⟩
theorem hid_mono {N N' : Addr → Prop} (h : ∀ a, N' a → N a) : Same (hid N H) (hid N' H) := hid_same fun a o n e => ⟨fun z => n (h a z), e⟩
theorem VOk.dq (s : Sim K c fps ρ F σ H) (h : VOk K c fps H0 H u (.dat d al)) (e0 : Aft c F H0 H) (s0 : ∀ a, av c fps [] a → H0 a ≠ none) (hS : ∀ i ∈ al.getD [], i ∈ S) : Dq K (hid (av c fps S) H) u d := by
  cases al with
  | none =>
    obtain ⟨fp, h1, h2, h3⟩ := h
    exact h1.dq (s.avMu S) fun a m z => s0 a (av_mono (fun i q => by simp at q) z) (h3 a m)
  | some S' => exact Dq.same (hid_mono fun a z => av_mono hS z) h
theorem VOk.flat (s : Sim K c fps ρ F σ H) (h : VOk K c fps H0 H u (.dat d al)) (e0 : Aft c F H0 H) (s0 : ∀ a, av c fps [] a → H0 a ≠ none) (f : Pv.flat d = true) : VOk K c fps H0 H u (.dat d none) :=
  ⟨[], .flat f (VOk.dq (S := al.getD []) s h e0 s0 fun i z => z).un, List.nodup_nil, fun a z => by simp at z⟩
end
end Pv
namespace Pv
open PySem L2
variable [Tabs]
structure Gx where
  cfg : Cfg
  W : Exc → Feed → Hp → Prop
def PostM {α : Type} (c : Amb) (W : Exc → Feed → Hp → Prop) (H : Hp) (m : R α) (k : α → Feed → Prop) : Prop := match m with
  | .ok a F => k a F
  | .exc x F => ∀ H', Aft c F H H' → W x F H'
  | .stuck => False
theorem PostM.bind {α β : Type} {c : Amb} {W : Exc → Feed → Hp → Prop} {H : Hp} {m : R α} {f : α → Feed → R β} {k : β → Feed → Prop} (h : PostM c W H (m.bind f) k) : PostM c W H m fun a F => PostM c W H (f a F) k := by
  cases m with
  | ok a F => exact h
  | exc x F => exact h
  | stuck => exact h
theorem PostM.of {α β : Type} {c : Amb} {W : Exc → Feed → Hp → Prop} {H : Hp} {o : Option α} {F : Feed} {f : α → Feed → R β} {k : β → Feed → Prop} (h : PostM c W H ((R.of o F).bind f) k) : ∃ a, o = some a ∧ PostM c W H (f a F) k := by
  cases o with
  | none => exact h.elim
  | some a => exact ⟨a, rfl, h⟩
theorem PostM.of' {α : Type} {c : Amb} {W : Exc → Feed → Hp → Prop} {H : Hp} {o : Option α} {F : Feed} {k : α → Feed → Prop} (h : PostM c W H (R.of o F) k) : ∃ a, o = some a ∧ k a F := by
  cases o with
  | none => exact h.elim
  | some a => exact ⟨a, rfl, h⟩
theorem PostM.dat {α : Type} {c : Amb} {W : Exc → Feed → Hp → Prop} {H : Hp} {v : Val} {F : Feed} {f : PyData → Al → Feed → R α} {k : α → Feed → Prop} (h : PostM c W H (datE v F f) k) : ∃ d al, v = .dat d al ∧ PostM c W H (f d al F) k := by
  cases v with
  | dat d al => exact ⟨d, al, rfl, h⟩
  | feed => exact h.elim
  | exc x => exact h.elim
theorem PostM.aft {α : Type} {c : Amb} {W : Exc → Feed → Hp → Prop} {H H1 : Hp} {m : R α} {k : α → Feed → Prop} {F : Feed} (e : Aft c F H H1) (h : PostM c W H m k) : PostM c W H1 m k := by
  cases m with
  | ok a F => exact h
  | exc x F => exact fun H' e' => h H' (e.trans e')
  | stuck => exact h
theorem PostM.mono {α : Type} {c : Amb} {W : Exc → Feed → Hp → Prop} {H : Hp} {m : R α} {k k' : α → Feed → Prop} (h : PostM c W H m k) (q : ∀ a F, k a F → k' a F) : PostM c W H m k' := by
  cases m with
  | ok a F => exact q _ _ h
  | exc x F => exact h
  | stuck => exact h
def V1 (K : PySem.W.Frag) (c : Amb) (fps : Nat → List Addr) (H : Hp) (fp : List Addr) (u : V) : Val → Prop
  | .dat d none => Ow K H fp u d
  | .dat d (some S) => fp = [] ∧ Dq K (hid (av c fps S) H) u d
  | .feed => fp = [] ∧ u = .ref c.p
  | .exc x => fp = [] ∧ XV K H u x
inductive Vs (K : PySem.W.Frag) (c : Amb) (fps : Nat → List Addr) (H : Hp) : List Addr → List V → List Val → Prop
  | nil : Vs K c fps H [] [] []
  | cons {fp fp' : List Addr} {u : V} {us : List V} {v : Val} {vs : List Val} : V1 K c fps H fp u v → Vs K c fps H fp' us vs → Vs K c fps H (fp ++ fp') (u :: us) (v :: vs)
structure VsOk (K : PySem.W.Frag) (c : Amb) (fps : Nat → List Addr) (H0 H : Hp) (us : List V) (vs : List Val) : Prop where
  ex : ∃ fp, Vs K c fps H fp us vs ∧ fp.Nodup ∧ ∀ a ∈ fp, H0 a = none
section
variable {K : PySem.W.Frag} {c : Amb} {fps : Nat → List Addr} {ρ : Env} {F F' : Feed} {σ : L2.St} {H H' H0 H1 : Hp} {u : V} {us : List V} {v : Val} {vs : List Val} {d : PyData} {al : Al} {S S' : List Nat} {fp : List Addr}
theorem VOk.v1 (h : VOk K c fps H0 H u v) : ∃ fp, V1 K c fps H fp u v ∧ fp.Nodup ∧ ∀ a ∈ fp, H0 a = none := by
  cases v with
  | dat d al =>
    cases al with
    | none => exact h
    | some S => exact ⟨[], ⟨rfl, h⟩, List.nodup_nil, fun a z => by simp at z⟩
  | feed => exact ⟨[], ⟨rfl, h⟩, List.nodup_nil, fun a z => by simp at z⟩
  | exc x => exact ⟨[], ⟨rfl, h⟩, List.nodup_nil, fun a z => by simp at z⟩
theorem V1.ok (h : V1 K c fps H fp u v) (n : fp.Nodup) (f : ∀ a ∈ fp, H0 a = none) : VOk K c fps H0 H u v := by
  cases v with
  | dat d al =>
    cases al with
    | none => exact ⟨fp, h, n, f⟩
    | some S => exact h.2
  | feed => exact h.2
  | exc x => exact h.2
theorem V1.aft (np : c.N c.p) (m : Mu (H c.p)) (e : Aft c F' H H') (h : V1 K c fps H fp u v) (n : c.p ∉ fp) : V1 K c fps H' fp u v := by
  cases v with
  | dat d al =>
    cases al with
    | none => exact Ow.aft m e h n
    | some S => exact ⟨h.1, Dq.same (e.hid (.inl np)) h.2⟩
  | feed => exact h
  | exc x => exact ⟨h.1, XV.aft m e h.2⟩
theorem Vs.aft (np : c.N c.p) (m : Mu (H c.p)) (e : Aft c F' H H') (h : Vs K c fps H fp us vs) (n : c.p ∉ fp) : Vs K c fps H' fp us vs := by
  induction h with
  | nil => exact .nil
  | cons h1 h2 ih => exact .cons (h1.aft np m e fun z => n (by simp [z])) (ih fun z => n (by simp [z]))
theorem V1.some (h : V1 K c fps H fp u v) : ∀ a ∈ fp, H a ≠ none := by
  cases v with
  | dat d al =>
    cases al with
    | none =>
      intro a z
      obtain ⟨xs, e⟩ := Ow.lists h a z
      rw [e]
      simp
    | some S => obtain ⟨rfl, _⟩ := h; exact fun a z => by simp at z
  | feed => obtain ⟨rfl, _⟩ := h; exact fun a z => by simp at z
  | exc x => obtain ⟨rfl, _⟩ := h; exact fun a z => by simp at z
theorem VsOk.aft (s : Sim K c fps ρ F σ H) (e : Aft c F' H H') (p0 : H0 c.p ≠ none) (h : VsOk K c fps H0 H us vs) : VsOk K c fps H0 H' us vs := by
  obtain ⟨fp, h1, h2, h3⟩ := h.ex
  exact ⟨fp, h1.aft s.np s.feed.mu e fun z => p0 (h3 _ z), h2, h3⟩
theorem VsOk.cons {F1 : Feed} (s : Sim K c fps ρ F σ H0) (e1 : Aft c F1 H0 H1) (h1 : VOk K c fps H0 H1 u v) (e2 : Aft c F' H1 H') (h2 : VsOk K c fps H1 H' us vs) : VsOk K c fps H0 H' (u :: us) (v :: vs) := by
  obtain ⟨fp, a1, a2, a3⟩ := h1.v1
  obtain ⟨fp', b1, b2, b3⟩ := h2.ex
  have np : c.p ∉ fp := fun z => s.feed.some (a3 _ z)
  have so := a1.some
  refine ⟨fp ++ fp', .cons (a1.aft s.np e1.feed.mu e2 np) b1, List.nodup_append.mpr ⟨a2, b2, fun x hx y hy z => ?_⟩, fun a z => ?_⟩
  · subst z
    exact so x hx (b3 x hy)
  · rcases List.mem_append.mp z with z | z
    · exact a3 a z
    · cases q : H0 a with
      | none => rfl
      | some o =>
        have := e1.keep a o q fun w => e1.feed.some (w ▸ b3 a z)
        rw [b3 a z] at this
        cases this
theorem VsOk.nil : VsOk K c fps H0 H [] [] := ⟨[], .nil, List.nodup_nil, fun a z => by simp at z⟩
theorem Vs.length (h : Vs K c fps H fp us vs) : us.length = vs.length := by
  induction h with
  | nil => rfl
  | cons _ _ ih => rw [List.length_cons, List.length_cons, ih]
theorem datsV_length : ∀ {vs : List Val} {ds : List PyData} {al : Al}, datsV vs = some (ds, al) → ds.length = vs.length
  | [], ds, al, e => by
    simp only [datsV, Option.some.injEq, Prod.mk.injEq] at e
    obtain ⟨rfl, _⟩ := e
    rfl
  | .dat d a :: vs, ds, al, e => by
    simp only [datsV] at e
    cases q : datsV vs with
    | none => rw [q] at e; cases e
    | some p =>
      rw [q] at e
      simp only [Option.map_some, Option.some.injEq, Prod.mk.injEq] at e
      obtain ⟨rfl, _⟩ := e
      rw [List.length_cons, List.length_cons, datsV_length (ds := p.1) (al := p.2) q]
  | .feed :: vs, ds, al, e => by simp [datsV] at e
  | .exc x :: vs, ds, al, e => by simp [datsV] at e
theorem VsOk.length {us : List V} (w : VsOk K c fps H0 H us vs) : us.length = vs.length := by
  obtain ⟨fp, h, _⟩ := w.ex
  exact h.length
theorem Vs.dats (h : Vs K c fps H fp us vs) (mu : ∀ S a, av c fps S a → Mu (H a)) (nfp : ∀ a ∈ fp, ¬ av c fps [] a) : ∀ {ds : List PyData} {al : Al}, datsV vs = some (ds, al) → DqAll K (hid (av c fps (al.getD [])) H) us ds ∧ (al = none → OwAll K H fp us ds) := by
  induction h with
  | nil =>
    intro ds al e
    simp only [datsV, Option.some.injEq, Prod.mk.injEq] at e
    obtain ⟨rfl, rfl⟩ := e
    exact ⟨.nil, fun _ => .nil⟩
  | @cons fp fp' u us v vs h1 h2 ih =>
    intro ds al e
    cases v with
    | dat d a0 =>
      simp only [datsV] at e
      cases q : datsV vs with
      | none => rw [q] at e; cases e
      | some p =>
        rw [q] at e
        simp only [Option.map_some, Option.some.injEq, Prod.mk.injEq] at e
        obtain ⟨rfl, rfl⟩ := e
        obtain ⟨i1, i2⟩ := ih (fun a z => nfp a (by simp [z])) (ds := p.1) (al := p.2) q
        have hd : Dq K (hid (av c fps ((joinAl a0 p.2).getD [])) H) u d := by
          cases a0 with
          | none => exact Ow.dq (mu _) h1 fun a z w => nfp a (by simp [z]) (av_mono (fun i q => by simp at q) w)
          | some S =>
            refine Dq.same (hid_mono fun a z => av_mono (fun i hi => ?_) z) h1.2
            cases p.2 with
            | none => exact hi
            | some b => simp [joinAl, hi]
        refine ⟨.cons hd (DqAll.same (hid_mono fun a z => av_mono (fun i hi => ?_) z) i1), fun z => ?_⟩
        · cases a0 with
          | none => simpa [joinAl] using hi
          | some S =>
            cases hp : p.2 with
            | none => rw [hp] at hi; simp at hi
            | some b => rw [hp] at hi; simp [joinAl]; exact .inr (by simpa using hi)
        · cases a0 with
          | none => exact .cons h1 (i2 (by simpa [joinAl] using z))
          | some S =>
            cases hp : p.2 with
            | none => rw [hp] at z; simp [joinAl] at z
            | some b => rw [hp] at z; simp [joinAl] at z
    | feed => simp [datsV] at e
    | exc x => simp [datsV] at e
end
def QE (G : Gx) (X : Cx) (e : Expr) (ie : IE) : Prop :=
  ∃ t : TE, PE X e t ∧ ∀ (c : Amb) (fps : Nat → List Addr) (ρ : Env) (F : Feed) (σ : L2.St) (H : Hp) (Q : VK), Sim X.K c fps ρ F σ H →
    PostM c G.W H (evE G.cfg ie ρ F) (fun v F' => ∀ u H', Aft c F' H H' → VOk X.K c fps H H' u v → Q u H') → t σ H Q
def QA (G : Gx) (X : Cx) (es : List Expr) (ies : IEs) : Prop :=
  ∃ t : TA, PA X es t ∧ ∀ (c : Amb) (fps : Nat → List Addr) (ρ : Env) (F : Feed) (σ : L2.St) (H : Hp) (Q : List V → Hp → Prop), Sim X.K c fps ρ F σ H →
    PostM c G.W H (evEs G.cfg ies ρ F) (fun vs F' => ∀ us H', Aft c F' H H' → VsOk X.K c fps H H' us vs → Q us H') → t σ H Q
def QT (G : Gx) (X : Cx) (e : Expr) (ie : IE) : Prop :=
  ∃ t : TT, PT X e t ∧ ∀ (c : Amb) (fps : Nat → List Addr) (ρ : Env) (F : Feed) (σ : L2.St) (H : Hp) (Q : Bool → Hp → Prop), Sim X.K c fps ρ F σ H →
    PostM c G.W H ((evE G.cfg ie ρ F).bind fun v F => R.of (truV v) F) (fun k F' => ∀ H', Aft c F' H H' → Q k H') → t σ H Q
section
variable {G : Gx} {X : Cx} {pos : Pos} {a b : Expr} {ia ib : IE}
theorem q_var {x : Str} (i : Nat) (hN : X.N[i]? = some x := by rfl) (hv : Vis X.env.scope x := by first | exact Or.inl rfl | exact Or.inr (Or.inl rfl) | exact Or.inr (Or.inr rfl)) (hd : (x == ("__debug__" : Str)) = false := by decide) (hcd : (x == ("__classdict__" : Str)) = false := by decide) : QE G X (.Name x pos) (.var i) := by
  refine ⟨tVar i, pe_var hN hv hd hcd, fun c fps ρ F σ H Q s h => ?_⟩
  simp only [evE] at h
  cases q : ρ[i]? with
  | none => rw [q] at h; exact h.elim
  | some o =>
    cases o with
    | none => rw [q] at h; exact h.elim
    | some v =>
      rw [q] at h
      obtain ⟨u, h1, h2⟩ := s.slot i v q
      refine ⟨u, h1, h u H (Aft.refl s.feed) ?_⟩
      cases v with
      | dat d al =>
        cases al with
        | none =>
          refine Ow.dq (s.avMu [i]) h2 fun a z w => ?_
          rcases w with w | ⟨j, n, w⟩
          · exact s.nN i a z w
          · exact n (by rw [s.dj i j a z w]; simp)
        | some S => exact h2
      | feed => exact h2
      | exc x => exact h2
theorem q_int {i : Int} {j : Nat} : QE G X (.Constant (.int i) j pos) (.con (.int i)) := ⟨_, pe_int, fun c fps ρ F σ H Q s h => h (.int i) H (Aft.refl s.feed) ⟨[], .flat rfl (.int i), List.nodup_nil, fun a z => by simp at z⟩⟩
theorem q_bl {i : Bool} {j : Nat} : QE G X (.Constant (.bool i) j pos) (.con (.bool i)) := ⟨_, pe_bl, fun c fps ρ F σ H Q s h => h (.bl i) H (Aft.refl s.feed) ⟨[], .flat rfl (.bl i), List.nodup_nil, fun a z => by simp at z⟩⟩
theorem q_str {i : Str} {j : Nat} : QE G X (.Constant (.str i) j pos) (.con (.str i)) := ⟨_, pe_str, fun c fps ρ F σ H Q s h => h (.str i) H (Aft.refl s.feed) ⟨[], .flat rfl (.str i), List.nodup_nil, fun a z => by simp at z⟩⟩
structure VN (K : PySem.W.Frag) (N : Addr → Prop) (H H' : Hp) (u : V) (z : PyData) : Prop where
  same : Same H H'
  dq : Dq K (hid N H') u z
  own : (match z with | .list ds => flatAll ds | .tuple ds => flatAll ds | .dict _ => false | _ => true) = true → ∃ fp, Ow K H' fp u z ∧ fp.Nodup ∧ ∀ a ∈ fp, H a = none
theorem VN.vok {c : Amb} {fps : Nat → List Addr} {S : List Nat} {H H' : Hp} {u : V} {z : PyData} {al : Al} (h : VN X.K (av c fps S) H H' u z) (e : al.getD [] = S) : VOk X.K c fps H H' u (.dat z (alOp z al)) := by
  subst e
  have key : ∀ ds : List PyData, z = .list ds ∨ z = .tuple ds → VOk X.K c fps H H' u (.dat z (alNew ds (some (al.getD [])))) := by
    intro ds hz
    unfold alNew
    by_cases f : flatAll ds = true
    · simp only [f, if_true]
      refine h.own ?_
      rcases hz with rfl | rfl <;> exact f
    · simp only [f]
      exact h.dq
  cases z with
  | list ds => exact key ds (.inl rfl)
  | tuple ds => exact key ds (.inr rfl)
  | dict kvs => exact h.dq
  | none => exact h.own rfl
  | bool b => exact h.own rfl
  | int i => exact h.own rfl
  | str x => exact h.own rfl
def rB (K : PySem.W.Frag) (g : PyData → PyData → Option PyData) : R2 := fun x y H Q => ∃ (N : Addr → Prop) (d e z : PyData), (∀ a, N a → Mu (H a)) ∧ Dq K (hid N H) x d ∧ Dq K (hid N H) y e ∧ g d e = some z ∧ ∀ u H', VN K N H H' u z → Q u H'
def rC (K : PySem.W.Frag) (g : PyData → PyData → Option Bool) : R2 := fun x y H Q => ∃ (d e : PyData) (z : Bool), Dq K H x d ∧ Dq K H y e ∧ g d e = some z ∧ Q (.bl z) H
theorem joinAl_getD (a b : Al) : (joinAl a b).getD [] = a.getD [] ++ b.getD [] := by
  cases a <;> cases b <;> simp [joinAl]
theorem q_bin {op : Operator} {f : Bop} (ho : OpR X (binaryOp op) (rB X.K (bopD f))) (ha : QE G X a ia) (hb : QE G X b ib) : QE G X (.BinOp a op b pos) (.bin f ia ib) := by
  obtain ⟨ta, pa, ha⟩ := ha
  obtain ⟨tb, pb, hb⟩ := hb
  refine ⟨_, pe_op ho pa pb, fun c fps ρ F σ H Q s h => ?_⟩
  simp only [evE] at h
  refine ha c fps ρ F σ H _ s (h.bind.mono fun v1 F1 g1 u1 H1 e1 w1 => ?_)
  have s1 := s.aft e1
  refine hb c fps ρ F1 σ H1 _ s1 ((g1.bind.aft e1).mono fun v2 F2 g2 u2 H2 e2 w2 => ?_)
  have s2 := s1.aft e2
  obtain ⟨d, al, ev1, g3⟩ := g2.dat
  obtain ⟨e, al', ev2, g4⟩ := PostM.dat (v := v2) g3
  obtain ⟨z, ez, g5⟩ := g4.of
  subst ev1 ev2
  have a1 : Dq X.K (hid (av c fps (al.getD [] ++ al'.getD [])) H2) u1 d := VOk.dq s2 (w1.aft s e1 e2) (e1.trans e2) (fun a z => s.avSome z) fun i z => by simp [z]
  have a2 : Dq X.K (hid (av c fps (al.getD [] ++ al'.getD [])) H2) u2 e := VOk.dq s2 w2 e2 (fun a z => s1.avSome z) fun i z => by simp [z]
  refine ⟨_, d, e, z, s2.avMu _, a1, a2, ez, fun u H3 vn => ?_⟩
  refine g5 u H3 ((e1.trans e2).trans (Aft.of s2.feed vn.same)) ?_
  exact (VN.vok vn (joinAl_getD _ _)).back (e1.trans e2) s2.feed.some
theorem q_cmp {op : CmpOp} {f : Cop} (ho : OpR X (compareOp op) (rC X.K (copD f))) (ha : QE G X a ia) (hb : QE G X b ib) (hm : behindInMarks op b = false) : QE G X (.Compare a [op] [b] pos) (.cmp f ia ib) := by
  obtain ⟨ta, pa, ha⟩ := ha
  obtain ⟨tb, pb, hb⟩ := hb
  refine ⟨_, pe_cmpR ho pa pb hm, fun c fps ρ F σ H Q s h => ?_⟩
  simp only [evE] at h
  refine ha c fps ρ F σ H _ s (h.bind.mono fun v1 F1 g1 u1 H1 e1 w1 => ?_)
  have s1 := s.aft e1
  refine hb c fps ρ F1 σ H1 _ s1 ((g1.bind.aft e1).mono fun v2 F2 g2 u2 H2 e2 w2 => ?_)
  have s2 := s1.aft e2
  obtain ⟨d, al, ev1, g3⟩ := g2.dat
  obtain ⟨e, al', ev2, g4⟩ := PostM.dat (v := v2) g3
  obtain ⟨z, ez, g5⟩ := g4.of
  subst ev1 ev2
  have a1 : Dq X.K (hid (av c fps (al.getD [])) H2) u1 d := VOk.dq s2 (w1.aft s e1 e2) (e1.trans e2) (fun a z => s.avSome z) fun i z => z
  have a2 : Dq X.K (hid (av c fps (al'.getD [])) H2) u2 e := VOk.dq s2 w2 e2 (fun a z => s1.avSome z) fun i z => z
  exact ⟨d, e, z, a1.un, a2.un, ez, g5 (.bl z) H2 (e1.trans e2) ⟨[], .flat rfl (.bl z), List.nodup_nil, fun a z => by simp at z⟩⟩
theorem bl_ok {K : PySem.W.Frag} {c : Amb} {fps : Nat → List Addr} {H0 H : Hp} (z : Bool) : VOk K c fps H0 H (.bl z) (.dat (.bool z) none) := ⟨[], .flat rfl (.bl z), List.nodup_nil, fun a z => by simp at z⟩
theorem int_ok {K : PySem.W.Frag} {c : Amb} {fps : Nat → List Addr} {H0 H : Hp} (z : Int) : VOk K c fps H0 H (.int z) (.dat (.int z) none) := ⟨[], .flat rfl (.int z), List.nodup_nil, fun a z => by simp at z⟩
theorem q_neg (ha : QE G X a ia) : QE G X (.UnaryOp .USub a pos) (.neg ia) := by
  obtain ⟨ta, pa, ha⟩ := ha
  refine ⟨_, pe_un un_neg pa, fun c fps ρ F σ H Q s h => ?_⟩
  simp only [evE] at h
  refine ha c fps ρ F σ H _ s (h.bind.mono fun v1 F1 g1 u1 H1 e1 w1 => ?_)
  have s1 := s.aft e1
  obtain ⟨d, al, ev1, g3⟩ := g1.dat
  obtain ⟨z, ez, g5⟩ := g3.of
  subst ev1
  have a1 : Dq X.K (hid (av c fps (al.getD [])) H1) u1 d := VOk.dq s1 w1 e1 (fun a z => s.avSome z) fun i z => z
  cases d with
  | int i =>
    cases a1
    simp only [negD, Option.some.injEq] at ez
    subst ez
    exact ⟨i, rfl, g5 _ H1 e1 (int_ok _)⟩
  | _ => simp [negD] at ez
theorem tru_of {K : PySem.W.Frag} {H : Hp} {u : V} {d : PyData} {k : Bool} (h : Dq K H u d) (e : truD d = some k) : TruV K u H k := by
  cases h with
  | non => cases e; rfl
  | bl b => cases e; rfl
  | int i => cases e; rfl
  | str x =>
    simp only [truD] at e
    split at e
    · rename_i hz
      cases e
      exact ⟨hz, rfl⟩
    · cases e
  | lst hs ha =>
    cases e
    refine .inl ⟨_, SqL.of hs, ?_⟩
    cases ha <;> rfl
  | tup hs ha =>
    cases e
    refine .inr (.inl ⟨_, hs, ?_⟩)
    cases ha <;> rfl
  | dct hs ha =>
    cases e
    refine .inr (.inr ⟨_, hs, ?_⟩)
    cases ha <;> rfl
theorem t_val (ha : QE G X a ia) (he : ∀ whole, isTrue a X.env whole = (do let v ← whole; standAt a.pos; holding [v] (truthy v)) := by intro _; rfl) : QT G X a ia := by
  obtain ⟨ta, pa, ha⟩ := ha
  refine ⟨_, pt_truth pa he, fun c fps ρ F σ H Q s h => ?_⟩
  refine ha c fps ρ F σ H _ s (h.bind.mono fun v1 F1 g1 u1 H1 e1 w1 => ?_)
  have s1 := s.aft e1
  obtain ⟨k, ek, g2⟩ := g1.of'
  cases v1 with
  | dat d al =>
    have a1 : Dq X.K (hid (av c fps (al.getD [])) H1) u1 d := VOk.dq s1 w1 e1 (fun a z => s.avSome z) fun i z => z
    exact ⟨k, tru_of a1.un ek, g2 H1 e1⟩
  | feed => simp [truV] at ek
  | exc x => simp [truV] at ek
end
end Pv
namespace Pv
open PySem L2
variable [Tabs]
section
variable {K : PySem.W.Frag} {c : Amb} {fps : Nat → List Addr} {ρ : Env} {F F' F1 : Feed} {σ : L2.St} {H H' H0 H1 : Hp} {u : V} {us : List V} {v : Val} {vs : List Val} {d : PyData} {ds : List PyData} {al : Al} {S S' : List Nat} {fp : List Addr} {N : Addr → Prop}
theorem Ow.same (e : Same H H') (h : Ow K H fp u d) : Ow K H' fp u d := Ow.keep (fun a xs q => e.seqT q) h (fun a o _ q => e a o q) fun v d _ q => q.same e
theorem OwAll.same (e : Same H H') (h : OwAll K H fp us ds) : OwAll K H' fp us ds := OwAll.keep (fun a xs q => e.seqT q) h (fun a o _ q => e a o q) fun v d _ q => q.same e
theorem Mu.same (e : Same H H') (m : ∀ a, N a → Mu (H a)) : ∀ a, N a → Mu (H' a) := fun a h => by
  have := m a h
  cases q : H a with
  | none => rw [q] at this; exact this.elim
  | some o => rw [e a o q]; rw [q] at this; exact this
theorem Mu.some (m : ∀ a, N a → Mu (H a)) {a : Addr} (h : N a) : H a ≠ none := fun z => by
  have := m a h
  rw [z] at this
  exact this
theorem hid_ext (e : Same H H') : Same (hid N H) (hid N H') := hid_same fun a o n q => ⟨n, e a o q⟩
theorem sqt_upd {p : Addr} {xs : List V} : SqT K (upd H p (.tup xs)) p xs := SqT.of upd_same
theorem vn_tup (m : ∀ a, N a → Mu (H a)) (e : Same H H') {p : Addr} {xs : List V} (h : SqT K H' p xs) (q : DqAll K (hid N H) xs ds) : VN K N H H' (.ref p) (.tuple ds) :=
  ⟨e, .tup (Mu.ntup (Mu.same e m) h) (q.same (hid_ext e)), fun f => ⟨[], .flat (by simpa [Pv.flat] using f) (.tup h (q.un.same e)), List.nodup_nil, fun a z => by simp at z⟩⟩
theorem vn_lst (m : ∀ a, N a → Mu (H a)) {p : Addr} {xs : List V} (hp : H p = none) (q : DqAll K (hid N H) xs ds) : VN K N H (upd H p (.lst xs)) (.ref p) (.list ds) := by
  have e : Same H (upd H p (.lst xs)) := Same.upd hp
  refine ⟨e, .lst (hid_some.mpr ⟨fun z => Mu.some m z hp, upd_same⟩) (q.same (hid_ext e)), fun f => ⟨[p], .lst upd_same (OwAll.flat f (q.un.same e)), by simp, fun a z => ?_⟩⟩
  have : a = p := by simpa using z
  rw [this]
  exact hp
theorem vn_int (i : Int) : VN K N H H (.int i) (.int i) := ⟨Same.refl H, .int i, fun _ => ⟨[], .flat rfl (.int i), List.nodup_nil, fun a z => by simp at z⟩⟩
theorem vn_str (i : Str) : VN K N H H (.str i) (.str i) := ⟨Same.refl H, .str i, fun _ => ⟨[], .flat rfl (.str i), List.nodup_nil, fun a z => by simp at z⟩⟩
theorem fresh_nav (s : Sim K c fps ρ F σ H0) (f : ∀ a ∈ fp, H0 a = none) : ∀ a ∈ fp, ¬ av c fps [] a := fun a m z => s.avSome z (f a m)
theorem back_none (e : Aft c F1 H0 H1) (f : H1 c.p ≠ none) {a : Addr} (h : H1 a = none) : H0 a = none := by
  cases q : H0 a with
  | none => rfl
  | some o =>
    have := e.keep a o q fun z => f (z ▸ h)
    rw [h] at this
    cases this
theorem new_tup (s : Sim K c fps ρ F σ H0) (e : Aft c F1 H0 H1) (w : VsOk K c fps H0 H1 us vs) (hd : datsV vs = some (ds, al)) {q : Addr} (hq : H1 q = none) : VOk K c fps H0 (upd H1 q (.tup us)) (.ref q) (.dat (.tuple ds) (alNew ds al)) := by
  obtain ⟨fp, h1, h2, h3⟩ := w.ex
  have s1 := s.aft e
  obtain ⟨a1, a2⟩ := h1.dats (fun S => s1.avMu S) (fresh_nav s h3) hd
  have sm : Same H1 (upd H1 q (.tup us)) := Same.upd hq
  cases al with
  | none => exact ⟨fp, .tup sqt_upd ((a2 rfl).same sm), h2, h3⟩
  | some S =>
    unfold alNew
    by_cases f : flatAll ds = true
    · simp only [f, if_true]
      exact ⟨[], .flat (by simpa [Pv.flat] using f) (.tup sqt_upd (a1.un.same sm)), List.nodup_nil, fun a z => by simp at z⟩
    · simp only [f]
      exact .tup (Mu.ntup (Mu.same sm (s1.avMu _)) sqt_upd) (a1.same (hid_ext sm))
theorem new_lst (s : Sim K c fps ρ F σ H0) (e : Aft c F1 H0 H1) (w : VsOk K c fps H0 H1 us vs) (hd : datsV vs = some (ds, al)) {q : Addr} (hq : H1 q = none) : VOk K c fps H0 (upd H1 q (.lst us)) (.ref q) (.dat (.list ds) (alNew ds al)) := by
  obtain ⟨fp, h1, h2, h3⟩ := w.ex
  have s1 := s.aft e
  obtain ⟨a1, a2⟩ := h1.dats (fun S => s1.avMu S) (fresh_nav s h3) hd
  have sm : Same H1 (upd H1 q (.lst us)) := Same.upd hq
  have q0 := back_none e s1.feed.some hq
  cases al with
  | none =>
    refine ⟨q :: fp, .lst upd_same ((a2 rfl).same sm), List.nodup_cons.mpr ⟨fun z => ?_, h2⟩, fun a z => ?_⟩
    · obtain ⟨xs, e⟩ := (a2 rfl).lists q z
      rw [hq] at e
      cases e
    · rcases List.mem_cons.mp z with rfl | z
      · exact q0
      · exact h3 a z
  | some S =>
    unfold alNew
    by_cases f : flatAll ds = true
    · simp only [f, if_true]
      refine ⟨[q], .lst upd_same (OwAll.flat f (a1.un.same sm)), by simp, fun a z => ?_⟩
      have : a = q := by simpa using z
      rw [this]
      exact q0
    · simp only [f]
      exact .lst (hid_some.mpr ⟨fun z => s1.avSome z hq, upd_same⟩) (a1.same (hid_ext sm))
end
section
variable {G : Gx} {X : Cx} {pos : Pos} {a b e : Expr} {es : List Expr} {ia ib ie : IE} {ies : IEs}
theorem a_nil : QA G X [] .nil := ⟨_, pa_nil, fun c fps ρ F σ H Q s h => h [] H (Aft.refl s.feed) VsOk.nil⟩
theorem a_cons (he : QE G X e ie) (hr : QA G X es ies) (hs : starEach (e :: es) X.env = (false, eval e X.env) :: starEach es X.env := by rfl) : QA G X (e :: es) (.cons ie ies) := by
  obtain ⟨te, pe, he⟩ := he
  obtain ⟨tr, pr, hr⟩ := hr
  refine ⟨_, pa_cons pe pr hs, fun c fps ρ F σ H Q s h => ?_⟩
  simp only [evEs] at h
  refine he c fps ρ F σ H _ s (h.bind.mono fun v1 F1 g1 u1 H1 e1 w1 => ?_)
  refine hr c fps ρ F1 σ H1 _ (s.aft e1) ((g1.bind.aft e1).mono fun v2 F2 g2 u2 H2 e2 w2 => ?_)
  exact g2 _ H2 (e1.trans e2) (VsOk.cons s e1 w1 e2 w2)
theorem q_tup {x1 : Nat} (h : QA G X es ies) : QE G X (.Tuple es x1 pos) (.tup ies) := by
  obtain ⟨t, p, hr⟩ := h
  refine ⟨_, pe_tup p, fun c fps ρ F σ H Q s h => ?_⟩
  simp only [evE] at h
  refine hr c fps ρ F σ H _ s (h.bind.mono fun v1 F1 g1 u1 H1 e1 w1 => ?_)
  obtain ⟨p, ep, g2⟩ := g1.of
  by_cases hz : p.1.length ≤ sizeLine
  · simp only [hz, if_true] at g2
    have hl := w1.length
    have hl2 := datsV_length (ds := p.1) (al := p.2) ep
    exact ⟨by omega, fun q hq => g2 _ _ (e1.trans (Aft.of e1.feed (Same.upd hq))) (new_tup s e1 w1 ep hq)⟩
  · simp only [hz, if_false] at g2
    exact g2.elim
theorem q_lst (h : QA G X es ies) : QE G X (.List es pos) (.lst ies) := by
  obtain ⟨t, p, hr⟩ := h
  refine ⟨_, pe_lst p, fun c fps ρ F σ H Q s h => ?_⟩
  simp only [evE] at h
  refine hr c fps ρ F σ H _ s (h.bind.mono fun v1 F1 g1 u1 H1 e1 w1 => ?_)
  obtain ⟨p, ep, g2⟩ := g1.of
  by_cases hz : p.1.length ≤ sizeLine
  · simp only [hz, if_true] at g2
    have hl := w1.length
    have hl2 := datsV_length (ds := p.1) (al := p.2) ep
    exact ⟨by omega, fun q hq => g2 _ _ (e1.trans (Aft.of e1.feed (Same.upd hq))) (new_lst s e1 w1 ep hq)⟩
  · simp only [hz, if_false] at g2
    exact g2.elim
theorem t_cmp {op : CmpOp} {f : Cop} (ho : OpR X (compareOp op) (rC X.K (copD f))) (ha : QE G X a ia) (hb : QE G X b ib) (hm : behindInMarks op b = false) : QT G X (.Compare a [op] [b] pos) (.cmp f ia ib) := by
  obtain ⟨ta, pa, ha⟩ := ha
  obtain ⟨tb, pb, hb⟩ := hb
  refine ⟨_, pt_cmpR ho pa pb hm, fun c fps ρ F σ H Q s h => ?_⟩
  replace h := h.bind
  simp only [evE] at h
  refine ha c fps ρ F σ H _ s (h.bind.mono fun v1 F1 g1 u1 H1 e1 w1 => ?_)
  have s1 := s.aft e1
  refine hb c fps ρ F1 σ H1 _ s1 ((g1.bind.aft e1).mono fun v2 F2 g2 u2 H2 e2 w2 => ?_)
  have s2 := s1.aft e2
  obtain ⟨d, al, ev1, g3⟩ := g2.dat
  obtain ⟨e, al', ev2, g4⟩ := PostM.dat (v := v2) g3
  obtain ⟨z, ez, g5⟩ := g4.of
  subst ev1 ev2
  have a1 : Dq X.K (hid (av c fps (al.getD [])) H2) u1 d := VOk.dq s2 (w1.aft s e1 e2) (e1.trans e2) (fun a z => s.avSome z) fun i z => z
  have a2 : Dq X.K (hid (av c fps (al'.getD [])) H2) u2 e := VOk.dq s2 w2 e2 (fun a z => s1.avSome z) fun i z => z
  exact ⟨d, e, z, a1.un, a2.un, ez, z, rfl, g5 H2 (e1.trans e2)⟩
theorem t_not (ha : QT G X a ia) : QT G X (.UnaryOp .Not a pos) (.not ia) := by
  obtain ⟨ta, pa, ha⟩ := ha
  refine ⟨_, pt_not pa, fun c fps ρ F σ H Q s h => ?_⟩
  replace h := h.bind
  simp only [evE] at h
  refine ha c fps ρ F σ H _ s ?_
  cases q : evE G.cfg ia ρ F with
  | stuck => rw [q] at h; exact h.elim
  | exc x F1 => rw [q] at h; exact h
  | ok v F1 =>
    rw [q] at h
    obtain ⟨k, ek, g⟩ := PostM.of h
    show PostM _ _ _ (R.of (truV v) F1) _
    rw [ek]
    exact fun H' e => g H' e
def QW (G : Gx) (X : Cx) (e : Expr) (ie : IE) : Prop :=
  ∃ t : TT, PW X e t ∧ ∀ (c : Amb) (fps : Nat → List Addr) (ρ : Env) (F : Feed) (σ : L2.St) (H : Hp) (Q : Bool → Hp → Prop), Sim X.K c fps ρ F σ H →
    PostM c G.W H ((evE G.cfg ie ρ F).bind fun v F => R.of (truV v) F) (fun k F' => ∀ H', Aft c F' H H' → Q k H') → t σ H Q
theorem QW.t (h : QW G X e ie) : QT G X e ie := by
  obtain ⟨t, p, h⟩ := h
  exact ⟨t, PW.pt p, h⟩
theorem w_or1 (ha : QT G X a ia) : QW G X (.BoolOp .Or [a] pos) ia := by
  obtain ⟨t, p, h⟩ := ha
  exact ⟨t, pw_or1 p, h⟩
theorem w_or {rest : List Expr} (ha : QT G X a ia) (hb : QW G X (.BoolOp .Or (b :: rest) pos) ib) : QW G X (.BoolOp .Or (a :: b :: rest) pos) (.orT ia ib) := by
  obtain ⟨ta, pa, ha⟩ := ha
  obtain ⟨tb, pb, hb⟩ := hb
  refine ⟨_, pw_or pa pb, fun c fps ρ F σ H Q s h => ?_⟩
  simp only [evE] at h
  refine ha c fps ρ F σ H _ s ?_
  cases q : evE G.cfg ia ρ F with
  | stuck => rw [q] at h; exact h.elim
  | exc x F1 => rw [q] at h; exact h
  | ok v F1 =>
    rw [q] at h
    obtain ⟨k, ek, g⟩ := PostM.of (PostM.bind h)
    show PostM _ _ _ (R.of (truV v) F1) _
    rw [ek]
    intro H1 e1
    cases k with
    | true =>
      simp only [if_true] at g ⊢
      exact g H1 e1
    | false =>
      simp only [Bool.false_eq_true, if_false] at g ⊢
      refine hb c fps ρ F1 σ H1 _ (s.aft e1) ?_
      cases q2 : evE G.cfg ib ρ F1 with
      | stuck => rw [q2] at g; exact g.elim
      | exc x F2 => rw [q2] at g; exact fun H' e' => g H' (e1.trans e')
      | ok v2 F2 =>
        rw [q2] at g
        obtain ⟨k2, ek2, g2⟩ := PostM.of g
        show PostM _ _ _ (R.of (truV v2) F2) _
        rw [ek2]
        exact fun H2 e2 => g2 H2 (e1.trans e2)
theorem q_one {op : BoolOp} (h : QE G X a ia) : QE G X (.BoolOp op [a] pos) ia := by
  obtain ⟨t, p, h⟩ := h
  exact ⟨t, pe_one p, h⟩
theorem bl_of {K : PySem.W.Frag} {c : Amb} {fps : Nat → List Addr} {ρ : Env} {F : Feed} {σ : L2.St} {H0 H : Hp} {u : V} {k : Bool} {al : Al} (s : Sim K c fps ρ F σ H) (h : VOk K c fps H0 H u (.dat (.bool k) al)) : u = .bl k := by
  cases al with
  | none =>
    obtain ⟨fp, h1, _⟩ := h
    cases h1 with
    | flat _ q => cases q; rfl
  | some S => cases h; rfl
theorem q_and {rest : List Expr} (ha : QE G X a ia) (hb : QE G X (.BoolOp .And (b :: rest) pos) ib) : QE G X (.BoolOp .And (a :: b :: rest) pos) (.andV ia ib) := by
  obtain ⟨ta, pa, ha⟩ := ha
  obtain ⟨tb, pb, hb⟩ := hb
  refine ⟨_, pe_and pa pb, fun c fps ρ F σ H Q s h => ?_⟩
  simp only [evE] at h
  refine ha c fps ρ F σ H _ s (h.bind.mono fun v1 F1 g1 u1 H1 e1 w1 => ?_)
  have s1 := s.aft e1
  match v1, g1, w1 with
  | .dat (.bool k) al, g1, w1 =>
    refine ⟨k, bl_of s1 w1, ?_⟩
    cases k with
    | false => exact g1 _ H1 e1 (bl_ok _)
    | true => exact hb c fps ρ F1 σ H1 _ s1 ((PostM.aft e1 g1).mono fun v2 F2 g2 u2 H2 e2 w2 => g2 u2 H2 (e1.trans e2) (w2.back e1 s1.feed.some))
end
end Pv
namespace Pv
open PySem PySem.Spec PyProof.Rows
theorem noFill_tuple_mul : fillsNumberSlot (.type "tuple") "mul" = pure false :=
  PySem.fillsNumberSlot_seq (id := "tuple.__mul__") (r := some (.builtin "tuple.__rmul__")) F.slot_tuple_mul.lookup (by decide +kernel) F.slot_tuple_rmul.lookup (by decide +kernel)
theorem repeat_tuple : seqRepeat? (.type "tuple") = pure (some (.builtin "tuple.__mul__")) := by
  unfold seqRepeat?
  rw [PySem.seqSlot_of (T := "tuple") (name := "__mul__") (id := "tuple.__mul__") F.slot_tuple_mul.lookup (by decide +kernel), PySem.seqSlot_of (T := "tuple") (name := "__rmul__") (id := "tuple.__rmul__") F.slot_tuple_rmul.lookup (by decide +kernel)]
  rfl
theorem rmul_tup (a : Int) (t : Tok) (l : Addr) (items : Array Value) (n : Nat) (dd : Option Addr) (sl : Array (Option Value)) :
    Meets (Builtin.«int.__rmul__» ⟨[.int a t, .ref l], []⟩) (fun _ R s => s.heap.get? l = some { cls := .type "tuple", dict := dd, data := .seq items n, slots := sl } ∧ R (.ok (.ret Value.notImplemented)) s) :=
  .of_wp fun prog w A R s h => by obtain ⟨hp, g, d, tk, os⟩ := s; obtain ⟨hl, h⟩ := h; wp_walk; exact ⟨_, rfl, h⟩
section
variable (l : Addr) (items : Array Value) (n : Nat) (dd : Option Addr) (sl : Array (Option Value)) (k : Int) (t : Tok) (h1 : ¬ (decide (k < -(2 ^ 63)) || decide (k ≥ 2 ^ 63)) = true)
include h1
theorem mul_tup0 (h2 : (items.isEmpty || k == 1) = true) :
    Meets (Builtin.«tuple.__mul__» ⟨[.ref l, .int k t], []⟩) (fun _ R s => s.heap.get? l = some { cls := .type "tuple", dict := dd, data := .seq items n, slots := sl } ∧ R (.ok (.ret (.ref l))) s) :=
  .of_wp fun prog w A R s h => by
    obtain ⟨hl, h⟩ := h
    have ht : IsTup s.heap l items := ⟨_, hl, rfl, n, rfl⟩
    obtain ⟨hp, g, d, tk, os⟩ := s; have f1 := AutoSeq1.idx_int
    wp_walk using wpAny_loadPart' hl
    rw [if_neg h1]
    refine wpAny_bind (tupleItemsOf_ ht ?_)
    dsimp only
    rw [if_pos h2]
    unfold Builtin.Tuple.tupleIsExact
    refine wpAny_bind (wpAny_bind (wpAny_typeOf ht.typeIs (wpAny_pure ?_)))
    rw [if_pos (by decide)]
    exact wpAny_bind (wpAny_rule (wpAny_pure ⟨_, rfl, h⟩))
theorem mul_tup1 (h2 : ¬ (items.isEmpty || k == 1) = true) (h3 : (decide (k ≤ 0) || items.isEmpty) = true) :
    Meets (Builtin.«tuple.__mul__» ⟨[.ref l, .int k t], []⟩) (fun _ R s => s.heap.get? l = some { cls := .type "tuple", dict := dd, data := .seq items n, slots := sl } ∧ R (.ok (.ret (.ref s.heap.objs.size))) { s with heap := s.heap.push { cls := .type "tuple", data := .seq #[] } }) :=
  .of_wp fun prog w A R s h => by
    obtain ⟨hl, h⟩ := h
    have ht : IsTup s.heap l items := ⟨_, hl, rfl, n, rfl⟩
    obtain ⟨hp, g, d, tk, os⟩ := s; have f1 := AutoSeq1.idx_int
    wp_walk using wpAny_loadPart' hl
    rw [if_neg h1]
    refine wpAny_bind (tupleItemsOf_ ht ?_)
    dsimp only
    rw [if_neg h2, if_pos h3]
    refine wpAny_bind (m := Builtin.Tuple.tupleExact _) (wpAny_newObj_type (wpAny_pure ⟨_, rfl, h⟩) (by show 0 ≤ sizeLine; decide))
theorem mul_tup2 (h2 : ¬ (items.isEmpty || k == 1) = true) (h3 : ¬ (decide (k ≤ 0) || items.isEmpty) = true)
    (h4 : ¬ (items.size : Int) * k > (2 ^ 63 - 1) / 8) (h5 : ¬ Builtin.Tuple.tupleTooMany (items.size * k) = true) (hsz : ((List.replicate k.toNat items).foldl (· ++ ·) #[]).size ≤ sizeLine) :
    Meets (Builtin.«tuple.__mul__» ⟨[.ref l, .int k t], []⟩) (fun _ R s => s.heap.get? l = some { cls := .type "tuple", dict := dd, data := .seq items n, slots := sl } ∧ R (.ok (.ret (.ref s.heap.objs.size))) { s with heap := s.heap.push { cls := .type "tuple", data := .seq ((List.replicate k.toNat items).foldl (· ++ ·) #[]) } }) :=
  .of_wp fun prog w A R s h => by
    obtain ⟨hl, h⟩ := h
    have ht : IsTup s.heap l items := ⟨_, hl, rfl, n, rfl⟩
    obtain ⟨hp, g, d, tk, os⟩ := s; have f1 := AutoSeq1.idx_int
    wp_walk using wpAny_loadPart' hl
    rw [if_neg h1]
    refine wpAny_bind (tupleItemsOf_ ht ?_)
    dsimp only
    rw [if_neg h2, if_neg h3, if_neg h4, if_neg h5]
    refine wpAny_bind (m := Builtin.Tuple.tupleExact _) (wpAny_newObj_type (wpAny_pure ⟨_, rfl, h⟩) hsz)
end
theorem tup_mul {prog : Program} {w : World} {A : Around} {E : Value → Shared → Prop} {s : Shared} {a : Addr} {its : List Value} {k : Int} {t : Tok} {Q : Value → Shared → Prop} (ht : IsTup s.heap a its.toArray) (h1 : -(2 ^ 63) ≤ k) (h2 : k < 2 ^ 63) (hz : its.length * k.toNat ≤ sizeLine)
    (hs : (List.replicate k.toNat its).flatten = its → Q (.ref a) s) (hn : Q (.ref s.heap.objs.size) { s with heap := s.heap.push { cls := .type "tuple", data := .seq (List.replicate k.toNat its).flatten.toArray } }) : wpAny (model prog w) A (binaryOp .Mult (.ref a) (.int k t)) Q E s := by
  obtain ⟨⟨c1, d1, e1, l1⟩, ho, hc, n, hd⟩ := id ht
  simp only at hc hd
  subst hc hd
  have hc1 : ¬ (decide (k < -(2 ^ 63)) || decide (k ≥ 2 ^ 63)) = true := by simp; omega
  have f0 : ∀ m : Nat, List.foldl (fun x1 x2 => x1 ++ x2) #[] (List.replicate m its.toArray) = (List.replicate m its).flatten.toArray := fun m => by
    have := L2.foldl_rep its m []
    rw [List.nil_append] at this
    exact this
  refine wpAny_binaryOp_repeat_ref (T := "tuple") (U := "int") (by decide) ⟨_, ho, rfl⟩ (fun s' => typeIs_int s' k t) noFill_tuple_mul F.fills_int_mul F.slot_int_rmul repeat_tuple F.slot_int_index.lookup
    (call_meets F.slot_int_rmul (typeIs_int s k t) F.entry_int_rmul (F.args_int_rmul_2 _ _) (rmul_tup k t a its.toArray n d1 l1) ⟨ho, rfl, ⟨_, ho, rfl⟩, ?_⟩)
  by_cases c2 : (its.toArray.isEmpty || k == 1) = true
  · refine call_meets F.slot_tuple_mul ⟨_, ho, rfl⟩ F.entry_tuple_mul (F.args_tuple_mul_2 _ _) (mul_tup0 a its.toArray n d1 l1 k t hc1 c2) ⟨ho, hs ?_⟩
    simp only [Bool.or_eq_true, beq_iff_eq] at c2
    rcases c2 with c2 | c2
    · have : its = [] := by simpa using c2
      subst this
      simp
    · subst c2
      simp
  · by_cases c3 : (decide (k ≤ 0) || its.toArray.isEmpty) = true
    · refine call_meets F.slot_tuple_mul ⟨_, ho, rfl⟩ F.entry_tuple_mul (F.args_tuple_mul_2 _ _) (mul_tup1 a its.toArray n d1 l1 k t hc1 c2 c3) ⟨ho, ?_⟩
      have hk : (List.replicate k.toNat its).flatten = [] := by
        simp only [Bool.or_eq_true, decide_eq_true_eq] at c3
        rcases c3 with c3 | c3
        · rw [show k.toNat = 0 by omega]
          simp
        · have : its = [] := by simpa using c3
          subst this
          simp
      rw [hk] at hn
      exact hn
    · have hk : 0 < k := by
        simp only [Bool.or_eq_true, decide_eq_true_eq, not_or] at c3
        omega
      have hmul : (its.toArray.size : Int) * k = ((its.length * k.toNat : Nat) : Int) := by
        rw [List.size_toArray, Int.natCast_mul, Int.toNat_of_nonneg (by omega)]
      have hsl : (sizeLine : Nat) ≤ (2 ^ 63 - 1) / 8 := by decide
      refine call_meets F.slot_tuple_mul ⟨_, ho, rfl⟩ F.entry_tuple_mul (F.args_tuple_mul_2 _ _) (mul_tup2 a its.toArray n d1 l1 k t hc1 c2 c3 ?_ ?_ ?_) ⟨ho, ?_⟩
      · rw [hmul]
        omega
      · intro z
        have z' : ((its.toArray.size : Int) * k) > (sizeLine : Int) := of_decide_eq_true z
        rw [hmul] at z'
        have := Int.ofNat_lt.mp z'
        omega
      · rw [f0, List.size_toArray, L2.len_rep, Nat.mul_comm]
        exact hz
      · rw [f0]
        exact hn
end Pv
namespace Pv
open PySem L2
variable [Tabs]
section
variable {X : Cx}
theorem OpR.by {f : Value → Value → Sem Value} {r : R2} (h : ∀ x y H Q, r x y H Q → ∃ r', OpR X f r' ∧ r' x y H Q) : OpR X f r := by
  intro pins s σ H x y v u Q I rx ry q
  obtain ⟨r', o, q'⟩ := h x y H Q q
  exact o pins s σ H x y v u Q I rx ry q'
theorem CallR.by {f : Value} {r : List V → Hp → VK → Prop} (h : ∀ xs H Q, r xs H Q → ∃ r', CallR X f r' ∧ r' xs H Q) : CallR X f r := by
  intro pins s σ H xs us Q I rs q
  obtain ⟨r', o, q'⟩ := h xs H Q q
  exact o pins s σ H xs us Q I rs q'
theorem op_powX : OpR X (binaryOp .Pow) (rI (fun i j => 0 ≤ j ∧ (i.natAbs.log2 + 1 : Nat) * j ≤ 134217728) fun i j => .int (i ^ j.toNat)) := opI fun i j _ _ _ _ _ hc q => by
  refine PyProof.Rows.pow_int hc.1 (Int.le_trans ?_ hc.2) q
  exact Int.mul_le_mul_of_nonneg_right (by have := bits_le i; omega) hc.1
def rCatQ (K : PySem.W.Frag) : R2 := fun x y H Q => ∃ a b xs ys, x = .ref a ∧ y = .ref b ∧ SqT K H a xs ∧ SqT K H b ys ∧ xs.length + ys.length ≤ sizeLine ∧ ∀ p H', Same H H' → SqT K H' p (xs ++ ys) → Q (.ref p) H'
theorem op_catQ : OpR X (binaryOp .Add) (rCatQ X.K) := by
  intro pins s σ H x y v u Q I rx ry h
  obtain ⟨a, b, xs, ys, rfl, rfl, ha, hb, hz, q⟩ := h
  by_cases hx : xs = []
  · subst hx
    cases rx
    cases ry
    obtain ⟨its, r1, p1, _⟩ := I.tuple ha
    obtain ⟨its2, r2, p2, _⟩ := I.tuple hb
    exact HT.cat_tup0 p1 p2 (r1.nil_iff.mpr rfl) ⟨.ref b, H, I, rfl, q b H (Same.refl H) hb⟩
  · refine op_catT pins s σ H (.ref a) (.ref b) v u Q I rx ry ⟨a, b, xs, ys, rfl, rfl, ha, hb, hx, hz, fun e => ?_, fun _ p hp => q p _ (Same.upd hp) sqt_upd⟩
    subst e
    rw [List.append_nil] at q
    exact q a H (Same.refl H) ha
def rRepQ (K : PySem.W.Frag) : R2 := fun x y H Q => ∃ a k xs, x = .ref a ∧ y = .int k ∧ SqT K H a xs ∧ -(2 ^ 63) ≤ k ∧ k < 2 ^ 63 ∧ xs.length * k.toNat ≤ sizeLine ∧ ∀ p H', Same H H' → SqT K H' p (List.replicate k.toNat xs).flatten → Q (.ref p) H'
theorem vals_rep {xs : List V} {us : List Value} (r : Vals xs us) : ∀ n : Nat, Vals (List.replicate n xs).flatten (List.replicate n us).flatten
  | 0 => by simp; exact .nil
  | n + 1 => by
    rw [List.replicate_succ, List.replicate_succ, List.flatten_cons, List.flatten_cons]
    exact r.append (vals_rep r n)
theorem op_repQ : OpR X (binaryOp .Mult) (rRepQ X.K) := by
  intro pins s σ H x y v u Q I rx ry h
  obtain ⟨a, k, xs, rfl, rfl, ha, h1, h2, hz, q⟩ := h
  cases rx
  obtain ⟨t, rfl⟩ := ry
  obtain ⟨its, r, ht, hl⟩ := I.tuple ha
  have hf := I.hok.fresh (Nat.le_refl _)
  refine tup_mul ht h1 h2 (by rw [← r.length]; exact hz) (fun e => ⟨.ref a, H, I, rfl, q a H (Same.refl H) ?_⟩) ⟨.ref _, _, I.laid (t' := s.toks) (o := .tup (List.replicate k.toNat xs).flatten) (fun b ob q => Heap.get?_push_of_some _ q) (Nat.le_refl _) ?_, rfl, q _ _ (Same.upd hf) sqt_upd⟩
  · have rr := vals_rep r k.toNat
    rw [e] at rr
    rw [rr.inj r]
    exact ha
  · refine ⟨by rw [len_rep, Nat.mul_comm]; exact hz, _, vals_rep r k.toNat, ?_⟩
    exact PyProof.Rows.IsTup.new s.heap _
theorem DqAll.rep {K : PySem.W.Frag} {H : Hp} {vs : List V} {ds : List PyData} (h : DqAll K H vs ds) : ∀ n : Nat, DqAll K H (List.replicate n vs).flatten (List.replicate n ds).flatten
  | 0 => by simp; exact .nil
  | n + 1 => by
    rw [List.replicate_succ, List.replicate_succ, List.flatten_cons, List.flatten_cons]
    exact h.append (h.rep n)
theorem x_add : OpR X (binaryOp .Add) (rB X.K (bopD .add)) := by
  refine OpR.by fun x y H Q ⟨N, d, e, z, m, hd, he, ez, q⟩ => ?_
  have ez : addD d e = some z := ez
  cases d with
  | int i =>
    cases hd
    cases e with
    | int j =>
      cases he
      cases ez
      exact ⟨_, op_add, i, j, rfl, rfl, q _ _ (vn_int _)⟩
    | bool k =>
      cases he
      cases ez
      exact ⟨_, op_add_ib, i, k, rfl, rfl, q _ _ (by cases k <;> exact vn_int _)⟩
    | _ => simp [addD] at ez
  | str a =>
    cases hd
    cases e with
    | str b =>
      cases he
      simp only [addD] at ez
      split at ez
      · rename_i hz
        cases ez
        exact ⟨_, op_add_str, a, b, rfl, rfl, hz, q _ _ (vn_str _)⟩
      · cases ez
    | _ => simp [addD] at ez
  | tuple xs =>
    cases hd with
    | tup h1 h2 =>
      cases e with
      | tuple ys =>
        cases he with
        | tup k1 k2 =>
          simp only [addD] at ez
          split at ez
          · rename_i hz
            cases ez
            exact ⟨_, op_catQ, _, _, _, _, rfl, rfl, hid_un.seqT h1, hid_un.seqT k1, by rw [h2.length, k2.length]; exact hz, fun p H' sm h => q _ _ (vn_tup m sm h (h2.append k2))⟩
          · cases ez
      | _ => simp [addD] at ez
  | list xs =>
    cases hd with
    | lst h1 h2 =>
      cases e with
      | list ys =>
        cases he with
        | lst k1 k2 =>
          simp only [addD] at ez
          split at ez
          · rename_i hz
            cases ez
            exact ⟨_, op_cat, _, _, _, _, rfl, rfl, (hid_some.mp h1).2, (hid_some.mp k1).2, by rw [h2.length, k2.length]; exact hz, fun p hp => q _ _ (vn_lst m hp (h2.append k2))⟩
          · cases ez
      | _ => simp [addD] at ez
  | _ => cases e <;> simp [addD] at ez
theorem x_sub : OpR X (binaryOp .Sub) (rB X.K (bopD .sub)) := by
  refine OpR.by fun x y H Q ⟨N, d, e, z, m, hd, he, ez, q⟩ => ?_
  have ez : subD d e = some z := ez
  cases d with
  | int i =>
    cases hd
    cases e with
    | int j =>
      cases he
      cases ez
      exact ⟨_, op_sub, i, j, rfl, rfl, q _ _ (vn_int _)⟩
    | _ => simp [subD] at ez
  | _ => cases e <;> simp [subD] at ez
theorem x_mul : OpR X (binaryOp .Mult) (rB X.K (bopD .mul)) := by
  refine OpR.by fun x y H Q ⟨N, d, e, z, m, hd, he, ez, q⟩ => ?_
  have ez : mulD d e = some z := ez
  cases d with
  | int i =>
    cases hd
    cases e with
    | int j =>
      cases he
      simp only [mulD] at ez
      split at ez
      · rename_i hz
        cases ez
        exact ⟨_, op_mulB, i, j, rfl, rfl, (show CMulB i j from of_decide_eq_true (p := i.natAbs.log2 + j.natAbs.log2 < 100000000) hz), q _ _ (vn_int _)⟩
      · cases ez
    | _ => simp [mulD] at ez
  | list xs =>
    cases hd with
    | lst h1 h2 =>
      cases e with
      | int k =>
        cases he
        simp only [mulD] at ez
        split at ez
        · rename_i hz
          cases ez
          exact ⟨_, op_rep, _, k, _, rfl, rfl, (hid_some.mp h1).2, hz.1, hz.2.1, by rw [h2.length]; exact hz.2.2, fun p hp => q _ _ (vn_lst m hp (h2.rep _))⟩
        · cases ez
      | _ => simp [mulD] at ez
  | tuple xs =>
    cases hd with
    | tup h1 h2 =>
      cases e with
      | int k =>
        cases he
        simp only [mulD] at ez
        split at ez
        · rename_i hz
          cases ez
          exact ⟨_, op_repQ, _, k, _, rfl, rfl, hid_un.seqT h1, hz.1, hz.2.1, by rw [h2.length]; exact hz.2.2, fun p H' sm h => q _ _ (vn_tup m sm h (h2.rep _))⟩
        · cases ez
      | _ => simp [mulD] at ez
  | _ => cases e <;> simp [mulD] at ez
theorem x_fdiv (h : OpR X (binaryOp .FloorDiv) (rI (fun _ j => j ≠ 0) fun i j => .int (i.fdiv j))) : OpR X (binaryOp .FloorDiv) (rB X.K (bopD .fdiv)) := by
  refine OpR.by fun x y H Q ⟨N, d, e, z, m, hd, he, ez, q⟩ => ?_
  have ez : fdivD d e = some z := ez
  cases d with
  | int i =>
    cases hd
    cases e with
    | int j =>
      cases he
      simp only [fdivD] at ez
      split at ez
      · rename_i hz
        cases ez
        exact ⟨_, h, i, j, rfl, rfl, hz, q _ _ (vn_int _)⟩
      · cases ez
    | _ => simp [fdivD] at ez
  | _ => cases e <;> simp [fdivD] at ez
theorem x_mod : OpR X (binaryOp .Mod) (rB X.K (bopD .mod)) := by
  refine OpR.by fun x y H Q ⟨N, d, e, z, m, hd, he, ez, q⟩ => ?_
  have ez : modD d e = some z := ez
  cases d with
  | int i =>
    cases hd
    cases e with
    | int j =>
      cases he
      simp only [modD] at ez
      split at ez
      · rename_i hz
        cases ez
        exact ⟨_, op_modN, i, j, rfl, rfl, hz, q _ _ (vn_int _)⟩
      · cases ez
    | _ => simp [modD] at ez
  | _ => cases e <;> simp [modD] at ez
theorem x_pow : OpR X (binaryOp .Pow) (rB X.K (bopD .pow)) := by
  refine OpR.by fun x y H Q ⟨N, d, e, z, m, hd, he, ez, q⟩ => ?_
  have ez : powD d e = some z := ez
  cases d with
  | int i =>
    cases hd
    cases e with
    | int j =>
      cases he
      simp only [powD] at ez
      split at ez
      · rename_i hz
        cases ez
        exact ⟨_, op_powX, i, j, rfl, rfl, of_decide_eq_true hz, q _ _ (vn_int _)⟩
      · cases ez
    | _ => simp [powD] at ez
  | _ => cases e <;> simp [powD] at ez
theorem x_ints {op : CmpOp} {f : Cop} {g : Int → Int → Bool} (hf : copD f = intsD g) (ho : OpR X (compareOp op) (rI0 fun i j => .bl (g i j))) : OpR X (compareOp op) (rC X.K (copD f)) := by
  refine OpR.by fun x y H Q ⟨d, e, z, hd, he, ez, q⟩ => ?_
  rw [hf] at ez
  cases d with
  | int i =>
    cases hd
    cases e with
    | int j =>
      cases he
      cases ez
      exact ⟨_, ho, i, j, rfl, rfl, q⟩
    | _ => simp [intsD] at ez
  | _ => cases e <;> simp [intsD] at ez
theorem x_lt : OpR X (compareOp .Lt) (rC X.K (copD .lt)) := x_ints (by funext d e; rfl) op_lt
theorem x_gt : OpR X (compareOp .Gt) (rC X.K (copD .gt)) := x_ints (by funext d e; rfl) op_gt
mutual
theorem Dq.dp {K : PySem.W.Frag} {H : Hp} : ∀ {d : PyData} {v : V}, d.canLay0 = true → Dq K H v d → Dp K H v d
  | .none, _, _, h => by cases h; exact .non
  | .bool b, _, _, h => by cases h; exact .bl b
  | .int i, _, _, h => by cases h; exact .int i
  | .str x, _, _, h => by cases h; exact .str x
  | .list ds, _, f, h => by
    cases h with
    | lst hs ha => exact .lst (SqL.of hs) (DqAll.dp (by simpa [PyData.canLay0] using f) ha)
  | .tuple ds, _, f, h => by
    cases h with
    | tup hs ha => exact .tup hs (DqAll.dp (by simpa [PyData.canLay0] using f) ha)
  | .dict ds, _, f, h => by simp [PyData.canLay0] at f
theorem DqAll.dp {K : PySem.W.Frag} {H : Hp} : ∀ {ds : List PyData} {vs : List V}, PyData.canLayAll0 ds = true → DqAll K H vs ds → DpAll K H vs ds
  | [], _, _, h => by cases h; exact .nil
  | d :: ds, _, f, h => by
    have f' : d.canLay0 = true ∧ PyData.canLayAll0 ds = true := by simpa [PyData.canLayAll0] using f
    cases h with
    | cons h1 h2 => exact .cons (Dq.dp f'.1 h1) (DqAll.dp f'.2 h2)
end
theorem shaped_lay {d : PyData} (h : shaped d = true) : d.canLay0 = true := by
  unfold shaped SeqAt.shaped at h
  simp only [Bool.and_eq_true] at h
  exact h.1
theorem x_eq (hu : X.A.units + 64 < cLine) : OpR X (compareOp .Eq) (rC X.K (copD .eq)) := by
  refine OpR.by fun x y H Q ⟨d, e, z, hd, he, ez, q⟩ => ?_
  have ez : eqD d e = some z := ez
  unfold eqD at ez
  cases hz : strsD d e with
  | some z' =>
    rw [hz] at ez
    match d, e, hz, hd, he with
    | .str a, .str b, hz, hd, he =>
      cases hd
      cases he
      cases hz
      cases ez
      refine ⟨_, op_eq, rfl, ?_⟩
      have : decide (V.str a = V.str b) = decide (a = b) := by simp
      rw [this]
      exact q
  | none =>
  rw [hz] at ez
  dsimp only at ez
  split at ez
  · rename_i hs
    simp only [Bool.and_eq_true] at hs
    cases ez
    exact ⟨_, op_eqD hu, d, e, hd.dp (shaped_lay hs.1), he.dp (shaped_lay hs.2), hs.1, hs.2, q⟩
  · cases ez
theorem x_ne (hu : X.A.units + 64 < cLine) : OpR X (compareOp .NotEq) (rC X.K (copD .ne)) := by
  refine OpR.by fun x y H Q ⟨d, e, z, hd, he, ez, q⟩ => ?_
  have ez : (eqD d e).map (!·) = some z := ez
  unfold eqD at ez
  cases hz : strsD d e with
  | some z' =>
    rw [hz] at ez
    match d, e, hz, hd, he with
    | .str a, .str b, hz, hd, he =>
      cases hd
      cases he
      cases hz
      cases ez
      refine ⟨_, op_ne, rfl, ?_⟩
      have : decide (V.str a = V.str b) = decide (a = b) := by simp
      rw [this]
      exact q
  | none =>
  rw [hz] at ez
  dsimp only at ez
  split at ez
  · rename_i hs
    simp only [Bool.and_eq_true] at hs
    cases ez
    exact ⟨_, op_neD hu, d, e, hd.dp (shaped_lay hs.1), he.dp (shaped_lay hs.2), hs.1, hs.2, q⟩
  · cases ez
theorem okIn_of {x : PyData} {ys : List PyData} (h : okIn x ys = true) : x.canLay0 = true ∧ x.depth ≤ 60 ∧ PyData.canLayAll0 ys = true := by
  unfold okIn at h
  rw [Bool.and_eq_true, Bool.and_eq_true] at h
  exact ⟨h.1.1, of_decide_eq_true h.1.2, h.2⟩
theorem in_room {a n m : Nat} (hu : a + 64 < cLine) (h : m ≤ 60) : a + 1 + min n m < cLine := by
  have := Nat.min_le_right n m
  omega
end
end Pv
namespace Pv
open PySem L2
variable [Tabs]
section
variable {G : Gx} {X : Cx} {pos p p2 : Pos} {a b e : Expr} {es : List Expr} {ia ib ie it : IE} {ies : IEs}
theorem q_ite {t : Expr} (ht : QT G X t it) (ha : QE G X a ia) (hb : QE G X b ib) : QE G X (.IfExp t a b pos) (.ite it ia ib) := by
  obtain ⟨tt, pt, ht⟩ := ht
  obtain ⟨ta, pa, ha⟩ := ha
  obtain ⟨tb, pb, hb⟩ := hb
  refine ⟨_, pe_ifExp pt pa pb, fun c fps ρ F σ H Q s h => ?_⟩
  simp only [evE] at h
  refine ht c fps ρ F σ H _ s ?_
  cases q : evE G.cfg it ρ F with
  | stuck => rw [q] at h; exact h.elim
  | exc x F1 => rw [q] at h; exact h
  | ok v F1 =>
    rw [q] at h
    obtain ⟨k, ek, g⟩ := PostM.of h
    show PostM _ _ _ (R.of (truV v) F1) _
    rw [ek]
    intro H1 e1
    have s1 := s.aft e1
    cases k with
    | true => exact ha c fps ρ F1 σ H1 _ s1 ((PostM.aft e1 g).mono fun v2 F2 g2 u2 H2 e2 w2 => g2 u2 H2 (e1.trans e2) (w2.back e1 s1.feed.some))
    | false => exact hb c fps ρ F1 σ H1 _ s1 ((PostM.aft e1 g).mono fun v2 F2 g2 u2 H2 e2 w2 => g2 u2 H2 (e1.trans e2) (w2.back e1 s1.feed.some))
theorem atI_dq {K : PySem.W.Frag} {H : Hp} {vs : List V} {ds : List PyData} {i : Int} {z : PyData} (h : DqAll K H vs ds) (e : atI ds i = some z) : ∃ v, atI vs i = some v ∧ Dq K H v z := by
  unfold atI at e ⊢
  rw [h.length]
  cases q : ixN ds.length i with
  | none => rw [q] at e; cases e
  | some j =>
    rw [q] at e
    exact h.get e
theorem q_idx (ha : QE G X a ia) (hb : QE G X b ib) (hs : PlainIx b := by exact fun _ _ => rfl) : QE G X (.Subscript a b pos) (.idx ia ib) := by
  obtain ⟨ta, pa, ha⟩ := ha
  obtain ⟨tb, pb, hb⟩ := hb
  refine ⟨_, pe_ix ix_seq pa pb hs, fun c fps ρ F σ H Q s h => ?_⟩
  simp only [evE] at h
  refine ha c fps ρ F σ H _ s (h.bind.mono fun v1 F1 g1 u1 H1 e1 w1 => ?_)
  have s1 := s.aft e1
  refine hb c fps ρ F1 σ H1 _ s1 ((g1.bind.aft e1).mono fun v2 F2 g2 u2 H2 e2 w2 => ?_)
  have s2 := s1.aft e2
  obtain ⟨d, al, ev1, g3⟩ := g2.dat
  obtain ⟨e, al', ev2, g4⟩ := PostM.dat (v := v2) g3
  obtain ⟨z, ez, g5⟩ := g4.of
  subst ev1 ev2
  have a1 : Dq X.K (hid (av c fps (al.getD [])) H2) u1 d := VOk.dq s2 (w1.aft s e1 e2) (e1.trans e2) (fun a z => s.avSome z) fun i z => z
  have a2 : Dq X.K (hid (av c fps (al'.getD [])) H2) u2 e := VOk.dq s2 w2 e2 (fun a z => s1.avSome z) fun i z => z
  have fin : ∀ u, Dq X.K (hid (av c fps (al.getD [])) H2) u z → Q u H2 := fun u h => g5 u H2 (e1.trans e2) (by
    cases al with
    | none => exact h
    | some S => exact h)
  cases d with
  | tuple xs =>
    cases e with
    | int i =>
      cases a1 with
      | tup h1 h2 =>
        cases a2
        obtain ⟨v, h3, h4⟩ := atI_dq h2 ez
        exact .inr (.inl ⟨_, _, i, v, rfl, rfl, hid_un.seqT h1, h3, fin v h4⟩)
    | _ => simp [idxD] at ez
  | list xs =>
    cases e with
    | int i =>
      cases a1 with
      | lst h1 h2 =>
        cases a2
        obtain ⟨v, h3, h4⟩ := atI_dq h2 ez
        exact .inl ⟨_, _, i, v, rfl, rfl, SqL.of (hid_some.mp h1).2, h3, fin v h4⟩
    | _ => simp [idxD] at ez
  | str x =>
    cases e with
    | int i =>
      cases a1
      cases a2
      simp only [idxD] at ez
      split at ez
      · rename_i hz
        cases q : atI x.cps.toList i with
        | none => rw [show at? x.cps.toList i = none from q] at ez; cases ez
        | some ch =>
          rw [show at? x.cps.toList i = some ch from q] at ez
          cases ez
          exact .inr (.inr ⟨x, i, ch, rfl, rfl, hz, q, fin _ (.str _)⟩)
      · cases ez
    | _ => simp [idxD] at ez
  | _ => cases e <;> simp [idxD] at ez
def QO (G : Gx) (X : Cx) (e : Option Expr) (ie : IO) : Prop :=
  ∃ t : TO, PO X e t ∧ ∀ (c : Amb) (fps : Nat → List Addr) (ρ : Env) (F : Feed) (σ : L2.St) (H : Hp) (Q : Option Int → Hp → Prop), Sim X.K c fps ρ F σ H →
    PostM c G.W H (evO G.cfg ie ρ F) (fun k F' => ∀ H', Aft c F' H H' → Q k H') → t σ H Q
def rSlQ (K : PySem.W.Frag) : V → Option Int → Option Int → Hp → VK → Prop := fun x lo hi H Q => ∃ a xs, x = .ref a ∧ SqT K H a xs ∧ ∀ p H', Same H H' → SqT K H' p (cutV xs lo hi) → Q (.ref p) H'
theorem DqAll.cut {K : PySem.W.Frag} {H : Hp} {vs : List V} {ds : List PyData} {lo hi : Option Int} (h : DqAll K H vs ds) : DqAll K H (cutV vs lo hi) (Pv.cut ds lo hi) := by
  unfold cutV Pv.cut clip
  rw [h.length]
  exact (h.drop _).take _
def tRevQ (K : PySem.W.Frag) (te : TE) : TE := fun σ H Q => te σ H fun x H1 => ∃ a xs, x = .ref a ∧ SqT K H1 a xs ∧ ∀ p H', Same H1 H' → SqT K H' p xs.reverse → Q (.ref p) H'
def rL (K : PySem.W.Frag) (g : List PyData → Option PyData) : List V → Hp → VK → Prop := fun xs H Q => ∃ (N : Addr → Prop) (ds : List PyData) (z : PyData), (∀ a, N a → Mu (H a)) ∧ DqAll K (hid N H) xs ds ∧ g ds = some z ∧ ∀ u H', VN K N H H' u z → Q u H'
theorem blt_core {f : Blt} {t : TA} (ha : ∀ (c : Amb) (fps : Nat → List Addr) (ρ : Env) (F : Feed) (σ : L2.St) (H : Hp) (Q : List V → Hp → Prop), Sim X.K c fps ρ F σ H →
    PostM c G.W H (evEs G.cfg ies ρ F) (fun vs F' => ∀ us H', Aft c F' H H' → VsOk X.K c fps H H' us vs → Q us H') → t σ H Q) :
    ∀ (c : Amb) (fps : Nat → List Addr) (ρ : Env) (F : Feed) (σ : L2.St) (H : Hp) (Q : VK), Sim X.K c fps ρ F σ H →
    PostM c G.W H (evE G.cfg (.blt f ies) ρ F) (fun v F' => ∀ u H', Aft c F' H H' → VOk X.K c fps H H' u v → Q u H') → tCB (rL X.K (bltD f)) t σ H Q := by
  intro c fps ρ F σ H Q s h
  simp only [evE] at h
  refine ha c fps ρ F σ H _ s (h.bind.mono fun v1 F1 g1 u1 H1 e1 w1 => ?_)
  have s1 := s.aft e1
  obtain ⟨p, ep, g2⟩ := g1.of
  obtain ⟨z, ez, g3⟩ := g2.of
  obtain ⟨fp, h1, h2, h3⟩ := w1.ex
  obtain ⟨a1, a2⟩ := h1.dats (fun S => s1.avMu S) (fresh_nav s h3) (ds := p.1) (al := p.2) ep
  exact ⟨_, p.1, z, s1.avMu _, a1, ez, fun u H' vn => g3 u H' (e1.trans (Aft.of s1.feed vn.same)) ((VN.vok vn rfl).back e1 s1.feed.some)⟩
theorem q_bltB {f : Blt} {id : String} {x : Str} (hc : CallR X (.builtin id) (rL X.K (bltD f))) (hm : X.mg x = none) (ha : QA G X (e :: es) ies) (hv : bootBuiltins x = some (.builtin id) := by decide +kernel) (hg : Gl X x := by rfl) (hn : x ≠ "__name__" := by decide) (hdb : (x == ("__debug__" : Str)) = false := by decide)
    (he : starEach (e :: es) X.env = (false, eval e X.env) :: starEach es X.env := by rfl) (hpl : (backTo pos (starEach es X.env)).any (·.1) = false := by rfl) : QE G X (.Call (.Name x p) (e :: es) [] pos) (.blt f ies) := by
  obtain ⟨t, pa, ha⟩ := ha
  exact ⟨_, pe_callB hc hg hm hv pa hn hdb he hpl, blt_core ha⟩
theorem q_bltT {f : Blt} {T : String} {x : Str} (hc : CallR X (.type T) (rL X.K (bltD f))) (hm : X.mg x = none) (ha : QA G X (e :: es) ies) (hv : bootBuiltins x = some (.type T) := by decide +kernel) (hg : Gl X x := by rfl) (hn : x ≠ "__name__" := by decide) (hdb : (x == ("__debug__" : Str)) = false := by decide)
    (he : starEach (e :: es) X.env = (false, eval e X.env) :: starEach es X.env := by rfl) (hpl : (backTo pos (starEach es X.env)).any (·.1) = false := by rfl) : QE G X (.Call (.Name x p) (e :: es) [] pos) (.blt f ies) := by
  obtain ⟨t, pa, ha⟩ := ha
  exact ⟨_, pe_callTy hc hg hm hv pa hn hdb he hpl, blt_core ha⟩
theorem DqAll.one {K : PySem.W.Frag} {H : Hp} {xs : List V} {d : PyData} (h : DqAll K H xs [d]) : ∃ x, xs = [x] ∧ Dq K H x d := by
  cases h with
  | cons h1 h2 => cases h2; exact ⟨_, rfl, h1⟩
theorem DqAll.two {K : PySem.W.Frag} {H : Hp} {xs : List V} {d e : PyData} (h : DqAll K H xs [d, e]) : ∃ x y, xs = [x, y] ∧ Dq K H x d ∧ Dq K H y e := by
  cases h with
  | cons h1 h2 =>
    obtain ⟨y, rfl, h3⟩ := h2.one
    exact ⟨_, _, rfl, h1, h3⟩
theorem x_abs : CallR X (.builtin "abs") (rL X.K (bltD .abs)) := by
  refine CallR.by fun xs H Q ⟨N, ds, z, m, hd, ez, q⟩ => ?_
  match ds, hd, ez with
  | [.int i], hd, ez =>
    obtain ⟨x, rfl, h⟩ := hd.one
    cases ez
    cases h
    exact ⟨_, call_abs, i, rfl, q _ _ (vn_int _)⟩
theorem x_int : CallR X (.type "int") (rL X.K (bltD .int)) := by
  refine CallR.by fun xs H Q ⟨N, ds, z, m, hd, ez, q⟩ => ?_
  match ds, hd, ez with
  | [.int i], hd, ez =>
    obtain ⟨x, rfl, h⟩ := hd.one
    cases ez
    cases h
    exact ⟨_, call_int1, .inl ⟨i, rfl, q _ _ (vn_int _)⟩⟩
  | [.bool i], hd, ez =>
    obtain ⟨x, rfl, h⟩ := hd.one
    cases ez
    cases h
    exact ⟨_, call_int1, .inr ⟨i, rfl, q _ _ (vn_int _)⟩⟩
end
end Pv
namespace Pv
open PySem L2 PyProof.Rows
variable [Tabs]
section
variable {X : Cx} {pins : List (Addr × Obj)} {σ : L2.St} {H : Hp} {s : Shared}
theorem kv_vals {kvs : List (Key × V)} {vs : List (Key × Value)} (r : KV kvs vs) : Vals (kvs.map (·.2)) (vs.map (·.2)) := by
  unfold KV at r
  induction r with
  | nil => exact .nil
  | cons h t ih => exact .cons h.2 ih
inductive KeysAre : List Value → List PyData → Prop
  | nil : KeysAre [] []
  | cons {k : Int} {t : Tok} {us : List Value} {ds : List PyData} : KeysAre us ds → KeysAre (.int k t :: us) (.int k :: ds)
theorem keysX {K : PySem.W.Frag} {P : Program} {w : World} : ∀ {ds : List (PyData × PyData)} {kvs : List (Key × V)} {vs : List (Key × Value)} {es : List DictEntry}, DqKv K H kvs ds → KV kvs vs → Pairs (mixKind P w) es vs →
    ∃ _ : True, KeysAre (es.map (·.key)) (ds.map (·.1)) ∧ es.map (·.val) = vs.map (·.2)
  | [], _, _, _, h, r, p => by
    cases h
    cases r
    cases p
    exact ⟨trivial, .nil, rfl⟩
  | (_, d) :: ds, _, _, _, h, r, p => by
    cases h with
    | @cons k v _ kvs _ h1 h2 =>
      cases r with
      | cons r1 r2 =>
        cases p with
        | cons p1 p2 p3 =>
          obtain ⟨_, e1, e2⟩ := keysX h2 r2 p3
          rw [← r1.1] at p1
          rcases keyIs_shape (k := Sum.inl k) p1 with ⟨i, t, f1, f2⟩ | ⟨x, t, f1, f2⟩
          · cases f1
            refine ⟨trivial, ?_, ?_⟩
            · rw [List.map_cons, List.map_cons, f2]
              exact .cons e1
            · rw [List.map_cons, List.map_cons, p2, e2]
          · cases f1
theorem keysR (I : Inv X pins σ H s) : ∀ {us : List Value} {ds : List PyData}, KeysAre us ds → GB.okXAll ds = true → (∀ t ∈ PyData.shownAll ds, t.length ≤ sizeLine) →
    ∃ bs, ReadAtMost s.heap (PyData.depthAll ds) bs ∧ ReadsAll s.heap us ds [] ∧ ReprAllK X.prog X.w bs s.heap (PyData.depthAll ds) us (PyData.shownAll ds)
  | _, _, .nil, _, _ => ⟨[], (fun _ h => nomatch h), .nil, by simp only [PyData.shownAll]; exact .nil⟩
  | _, _, .cons (k := k) (t := t) (us := us) (ds := ds) r, hs, hz => by
    have hs2 : k.natAbs.log2 < 12900 ∧ GB.okXAll ds = true := by simpa [GB.okXAll, GB.okX] using hs
    obtain ⟨bs, hb, q, kk⟩ := keysR I r hs2.2 (fun t ht => hz t (by simp only [PyData.shownAll]; exact List.mem_cons_of_mem _ ht))
    refine ⟨bs, hb.mono (by simp only [PyData.depthAll]; omega), .cons (as := []) (.int k t) q, ?_⟩
    simp only [PyData.depthAll, PyData.shownAll, PyData.shown]
    exact .cons (GB.reprK_int hs2.1 I.nodigits _ _) (kk.more_le (fun b hb => hb) (by omega))
mutual
theorem reprX (I : Inv X pins σ H s) : ∀ (d : PyData) (v : V) (u : Value), Dq X.K H v d → RelV v u → GB.okX d = true → d.shown.length ≤ sizeLine → ∃ as bs, Reads s.heap u d as ∧ ReadAtMost s.heap d.depth bs ∧ ReprK X.prog X.w bs s.heap d.depth u d.shown
  | .none, _, _, h, r, _, _ => by
    cases h
    cases r
    exact ⟨_, [], .none, (fun _ h => nomatch h), by simp only [PyData.shown]; exact .of_is ReprIs.none _ _ _⟩
  | .bool b, _, _, h, r, _, _ => by
    cases h
    cases r
    exact ⟨_, [], .bool b, (fun _ h => nomatch h), by simp only [PyData.shown]; exact .of_is (ReprIs.bool b) _ _ _⟩
  | .int i, _, _, h, r, hs, _ => by
    cases h
    obtain ⟨t, rfl⟩ := r
    exact ⟨_, [], .int i t, (fun _ h => nomatch h), by simp only [PyData.shown]; exact GB.reprK_int (by simpa [GB.okX] using hs) I.nodigits _ _⟩
  | .str x, _, _, h, r, _, hz => by
    cases h
    obtain ⟨t, rfl⟩ := r
    exact ⟨_, [], .str x t, (fun _ h => nomatch h), by simp only [PyData.shown]; exact .of_is (ReprIs.str x t (by simpa only [PyData.shown] using hz)) _ _ _⟩
  | .list ds, _, _, h, r, hs, hz => by
    cases h with
    | @lst a xs _ ha hd =>
      cases r
      obtain ⟨its, rv, ⟨o, n, ho, hc, _, hdt⟩, _⟩ := I.list (SqL.of ha)
      have hz2 : (listText (PyData.shownAll ds)).length ≤ sizeLine := by simpa only [PyData.shown] using hz
      obtain ⟨as, bs, hr, hb, hk⟩ := reprXAll I ds _ its hd rv (by simpa [GB.okX] using hs) (fun t ht => Nat.le_trans (listText_mem_le ht) hz2)
      have rd : Reads s.heap (.ref a) (.list ds) _ := .list ho hc hdt hr
      have nin : a ∉ bs := not_mem_of_deeper rd (by simp only [PyData.depth]; omega) hb
      refine ⟨_, a :: bs, rd, ReadAtMost.cons rd (by simp only [PyData.depth]; omega) hb, ?_⟩
      simp only [PyData.depth, PyData.shown]
      cases its with
      | nil =>
        cases hr
        simp only [PyData.shownAll, listText_nil]
        exact ReprK.listEmpty ho hc hdt
      | cons x l => exact ReprK.list ho hc hdt nin (by simpa using hk.length_eq) (fun i y e => hk.item i y (by simpa using e))
  | .tuple ds, _, _, h, r, hs, hz => by
    cases h with
    | @tup a xs _ ha hd =>
      cases r
      obtain ⟨its, rv, ⟨o, ho, hc, n, hdt⟩, _⟩ := I.tuple ha
      have hz2 : (tupleText (PyData.shownAll ds)).length ≤ sizeLine := by simpa only [PyData.shown] using hz
      obtain ⟨as, bs, hr, hb, hk⟩ := reprXAll I ds _ its hd rv (by simpa [GB.okX] using hs) (fun t ht => Nat.le_trans (tupleText_mem_le ht) hz2)
      have rd : Reads s.heap (.ref a) (.tuple ds) _ := .tuple ho hc hdt hr
      have nin : a ∉ bs := not_mem_of_deeper rd (by simp only [PyData.depth]; omega) hb
      refine ⟨_, a :: bs, rd, ReadAtMost.cons rd (by simp only [PyData.depth]; omega) hb, ?_⟩
      simp only [PyData.depth, PyData.shown]
      exact ReprK.tuple ho hc hdt nin (by simpa using hk)
  | .dict ds, _, _, h, r, hs, hz => by
    cases h with
    | @dct a kvs _ ha hd =>
      cases r
      obtain ⟨_, hsys, vs, kv, o, es, ep, ho, hc, hdt, hes⟩ := (show ObjOk X.prog X.w H s.heap a (.dK kvs) from I.hok a _ ha)
      have hz2 : (dictText (PyData.shownKv ds)).length ≤ sizeLine := by simpa only [PyData.shown] using hz
      obtain ⟨ok1, ok2⟩ := GB.okXKv_split ds (by simpa [GB.okX] using hs)
      obtain ⟨hks, hps, hnd⟩ := hes
      obtain ⟨ks, e1, e2⟩ := keysX hd kv hps
      obtain ⟨b1, hb1, rk1, k1⟩ := keysR (X := X) (s := s) I e1 ok1 (fun t ht => let ⟨p, hp, hl⟩ := PyData.shownKv_key_le ds t ht; Nat.le_trans hl (Nat.le_trans (dictText_mem_le hp) hz2))
      obtain ⟨a2, b2, q2, hb2, k2⟩ := reprXKv I ds _ _ hd (kv_vals kv) ok2 (fun t ht => let ⟨p, hp, hl⟩ := PyData.shownKv_val_le ds t ht; Nat.le_trans hl (Nat.le_trans (dictText_mem_le hp) hz2))
      rw [← e2] at q2 k2
      have rd : Reads s.heap (.ref a) (.dict ds) _ := .dict ho hc.1 hdt rk1 q2
      have hb : ReadAtMost s.heap (PyData.depthKv ds) (b1 ++ b2) := (hb1.mono (PyData.depthAll_keys_le ds)).append (hb2.mono (PyData.depthAll_vals_le ds))
      have nin : a ∉ b1 ++ b2 := not_mem_of_deeper rd (by simp only [PyData.depth]; omega) hb
      refine ⟨_, a :: (b1 ++ b2), rd, ReadAtMost.cons rd (by simp only [PyData.depth]; omega) hb, ?_⟩
      simp only [PyData.depth, PyData.shown, PyData.shownKv_eq]
      exact ReprK.dict ho hc.1 hdt hsys nin (ReprEntriesK.of_two es.toList _ _ (k1.more_le (fun b hb => List.mem_append_left _ hb) (PyData.depthAll_keys_le ds)) (k2.more_le (fun b hb => List.mem_append_right _ hb) (PyData.depthAll_vals_le ds)))
theorem reprXKv (I : Inv X pins σ H s) : ∀ (ds : List (PyData × PyData)) (kvs : List (Key × V)) (us : List Value), DqKv X.K H kvs ds → Vals (kvs.map (·.2)) us → GB.okXAll (ds.map (·.2)) = true → (∀ t ∈ PyData.shownAll (ds.map (·.2)), t.length ≤ sizeLine) →
    ∃ as bs, ReadsAll s.heap us (ds.map (·.2)) as ∧ ReadAtMost s.heap (PyData.depthAll (ds.map (·.2))) bs ∧ ReprAllK X.prog X.w bs s.heap (PyData.depthAll (ds.map (·.2))) us (PyData.shownAll (ds.map (·.2)))
  | [], _, _, h, r, _, _ => by
    cases h
    cases r
    exact ⟨_, [], .nil, (fun _ h => nomatch h), by simp only [List.map_nil, PyData.shownAll]; exact .nil⟩
  | (_, d) :: ds, _, _, h, r, hs, hz => by
    cases h with
    | cons h1 h2 =>
      cases r with
      | cons r1 r2 =>
        have hs2 : GB.okX d = true ∧ GB.okXAll (ds.map (·.2)) = true := by simpa [GB.okXAll] using hs
        obtain ⟨a1, b1, q1, hb1, k1⟩ := reprX I d _ _ h1 r1 hs2.1 (hz _ (by simp only [List.map_cons, PyData.shownAll]; exact List.mem_cons_self ..))
        obtain ⟨a2, b2, q2, hb2, k2⟩ := reprXKv I ds _ _ h2 r2 hs2.2 (fun t ht => hz t (by simp only [List.map_cons, PyData.shownAll]; exact List.mem_cons_of_mem _ ht))
        refine ⟨_, b1 ++ b2, .cons q1 q2, ?_, ?_⟩
        · simp only [List.map_cons, PyData.depthAll]
          exact (hb1.mono (Nat.le_max_left _ _)).append (hb2.mono (Nat.le_max_right _ _))
        · simp only [List.map_cons, PyData.depthAll, PyData.shownAll]
          exact .cons ((k1.more fun b hb => List.mem_append_left _ hb).level_le (Nat.le_max_left _ _)) (k2.more_le (fun b hb => List.mem_append_right _ hb) (Nat.le_max_right _ _))
theorem reprXAll (I : Inv X pins σ H s) : ∀ (ds : List PyData) (vs : List V) (us : List Value), DqAll X.K H vs ds → Vals vs us → GB.okXAll ds = true → (∀ t ∈ PyData.shownAll ds, t.length ≤ sizeLine) →
    ∃ as bs, ReadsAll s.heap us ds as ∧ ReadAtMost s.heap (PyData.depthAll ds) bs ∧ ReprAllK X.prog X.w bs s.heap (PyData.depthAll ds) us (PyData.shownAll ds)
  | [], _, _, h, r, _, _ => by
    cases h
    cases r
    exact ⟨_, [], .nil, (fun _ h => nomatch h), by simp only [PyData.shownAll]; exact .nil⟩
  | d :: ds, _, _, h, r, hs, hz => by
    cases h with
    | cons h1 h2 =>
      cases r with
      | cons r1 r2 =>
        have hs2 : GB.okX d = true ∧ GB.okXAll ds = true := by simpa [GB.okXAll] using hs
        obtain ⟨a1, b1, q1, hb1, k1⟩ := reprX I d _ _ h1 r1 hs2.1 (hz _ (by simp only [PyData.shownAll]; exact List.mem_cons_self ..))
        obtain ⟨a2, b2, q2, hb2, k2⟩ := reprXAll I ds _ _ h2 r2 hs2.2 (fun t ht => hz t (by simp only [PyData.shownAll]; exact List.mem_cons_of_mem _ ht))
        refine ⟨_, b1 ++ b2, .cons q1 q2, ?_, ?_⟩
        · simp only [PyData.depthAll]
          exact (hb1.mono (Nat.le_max_left _ _)).append (hb2.mono (Nat.le_max_right _ _))
        · simp only [PyData.depthAll, PyData.shownAll]
          exact .cons ((k1.more fun b hb => List.mem_append_left _ hb).level_le (Nat.le_max_left _ _)) (k2.more_le (fun b hb => List.mem_append_right _ hb) (Nat.le_max_right _ _))
end
def rReprQ (K : PySem.W.Frag) : List V → Hp → VK → Prop := fun xs H Q => ∃ v d, xs = [v] ∧ Dq K H v d ∧ GB.okX d = true ∧ d.depth ≤ 60 ∧ d.shown.length ≤ sizeLine ∧ Q (.str d.shown) H
theorem call_reprQ (hu : X.A.units + 64 < cLine) (hg : X.A.guards = some []) : CallR X (.builtin "repr") (rReprQ X.K) := by
  intro pins s σ H xs us Q I r h
  obtain ⟨v, d, rfl, hd, hs, hp, hz, q⟩ := h
  obtain ⟨u, rfl, rv⟩ := vals1 r
  cases hd with
  | non =>
    cases rv
    exact P.repr_of_none ⟨.str (PyData.shown .none), H, I.tok _, ⟨s.toks, by simp only [PyData.shown]⟩, q⟩
  | bl b =>
    cases rv
    exact P.repr_of_bool ⟨.str (PyData.shown (.bool b)), H, I.tok _, ⟨s.toks, by cases b <;> simp [PyData.shown]⟩, q⟩
  | int i =>
    obtain ⟨t, rfl⟩ := rv
    exact call_repr_slot (by omega) (typeIs_int s i t) F.slot_int_repr.toG (GB.call_int_reprB (by simpa [GB.okX] using hs) I.nodigits ⟨_, _, rfl, ⟨.str (PyData.shown (.int i)), H, I.tok _, ⟨s.toks, by simp only [PyData.shown]⟩, q⟩⟩)
  | str x =>
    obtain ⟨t, rfl⟩ := rv
    exact P.repr_of_str ⟨.str (PyData.shown (.str x)), H, I.tok _, ⟨s.toks, by simp only [PyData.shown]⟩, q⟩ (by simpa only [PyData.shown] using hz)
  | @lst a xs ds ha hd =>
    cases rv
    obtain ⟨its, rv, ⟨o, n, ho, hc, _, hdt⟩, _⟩ := I.list (SqL.of ha)
    have hz2 : (listText (PyData.shownAll ds)).length ≤ sizeLine := by simpa only [PyData.shown] using hz
    obtain ⟨as, bs, hr, hb, hk⟩ := reprXAll I ds _ its hd rv (by simpa [GB.okX] using hs) (fun t ht => Nat.le_trans (listText_mem_le ht) hz2)
    have nin := not_mem_of_deeper (.list ho hc hdt hr) (by simp only [PyData.depth]; omega) hb
    have fin : ∀ h' u tk, (∀ b o, s.heap.get? b = some o → h'.get? b = some o) → EP X pins σ Q (.str (listText (PyData.shownAll ds)) u) { s with heap := h', toks := tk } := fun h' u tk hk' => ⟨.str (PyData.shown (.list ds)), H, I.kept hk', ⟨u, by simp only [PyData.shown]⟩, q⟩
    simp only [PyData.depth] at hp
    cases its with
    | nil =>
      cases hr
      simp only [PyData.shownAll, listText_nil] at fin
      exact call_repr_slot (by omega) ⟨o, ho, hc⟩ F.slot_list_repr.toG (call_list_repr_empty ⟨o, ho, hc⟩ ho hdt ⟨_, _, rfl, fin s.heap _ _ fun _ _ e => e⟩)
    | cons x l =>
      exact call_repr_slot (by omega) ⟨o, ho, hc⟩ F.slot_list_repr.toG (call_list_reprK ho hc hdt nin (by simpa using hk.length_eq) (fun i y e => hk.item i y (by simpa using e)) hg (fun b _ => Clear.nil b) (by show X.A.units + 1 + _ < _; omega) (fun _ _ e => e) (fun h' u tk hk' => ⟨_, _, rfl, fin h' u tk hk'⟩) hz2)
  | @tup a xs ds ha hd =>
    cases rv
    obtain ⟨its, rv, ⟨o, ho, hc, n, hdt⟩, _⟩ := I.tuple ha
    have hz2 : (tupleText (PyData.shownAll ds)).length ≤ sizeLine := by simpa only [PyData.shown] using hz
    obtain ⟨as, bs, hr, hb, hk⟩ := reprXAll I ds _ its hd rv (by simpa [GB.okX] using hs) (fun t ht => Nat.le_trans (tupleText_mem_le ht) hz2)
    have nin := not_mem_of_deeper (.tuple ho hc hdt hr) (by simp only [PyData.depth]; omega) hb
    simp only [PyData.depth] at hp
    exact call_repr_slot (by omega) ⟨o, ho, hc⟩ F.slot_tuple_repr (call_tuple_reprK ho hc hdt nin (by simpa using hk) hg (fun b _ => Clear.nil b) (by show X.A.units + 1 + _ < _; omega) (fun _ _ e => e) (fun h' u tk hk' => ⟨_, _, rfl, ⟨.str (PyData.shown (.tuple ds)), H, I.kept hk', ⟨u, by simp only [PyData.shown]⟩, q⟩⟩) hz2)
  | @dct a kvs ds ha hd =>
    cases rv
    obtain ⟨_, hsys, vs, kv, o, es, ep, ho, hc, hdt, hks, hps, hnd⟩ := (show ObjOk X.prog X.w H s.heap a (.dK kvs) from I.hok a _ ha)
    have hz2 : (dictText (PyData.shownKv ds)).length ≤ sizeLine := by simpa only [PyData.shown] using hz
    obtain ⟨ok1, ok2⟩ := GB.okXKv_split ds (by simpa [GB.okX] using hs)
    obtain ⟨_, e1, e2⟩ := keysX hd kv hps
    obtain ⟨b1, hb1, rk1, k1⟩ := keysR (X := X) (s := s) I e1 ok1 (fun t ht => let ⟨p, hp, hl⟩ := PyData.shownKv_key_le ds t ht; Nat.le_trans hl (Nat.le_trans (dictText_mem_le hp) hz2))
    obtain ⟨a2, b2, q2, hb2, k2⟩ := reprXKv I ds _ _ hd (kv_vals kv) ok2 (fun t ht => let ⟨p, hp, hl⟩ := PyData.shownKv_val_le ds t ht; Nat.le_trans hl (Nat.le_trans (dictText_mem_le hp) hz2))
    rw [← e2] at q2 k2
    have hb : ReadAtMost s.heap (PyData.depthKv ds) (b1 ++ b2) := (hb1.mono (PyData.depthAll_keys_le ds)).append (hb2.mono (PyData.depthAll_vals_le ds))
    have nin : a ∉ b1 ++ b2 := not_mem_of_deeper (.dict ho hc.1 hdt rk1 q2) (by simp only [PyData.depth]; omega) hb
    simp only [PyData.depth] at hp
    have fin : ∀ h' u tk, (∀ b o, s.heap.get? b = some o → h'.get? b = some o) → EP X pins σ Q (.str (dictText (List.zipWith (fun k v : Str => k ++ ": " ++ v) (PyData.shownAll (ds.map (·.1))) (PyData.shownAll (ds.map (·.2))))) u) { s with heap := h', toks := tk } := fun h' u tk hk' => ⟨.str (PyData.shown (.dict ds)), H, I.kept hk', ⟨u, by simp only [PyData.shown, PyData.shownKv_eq]⟩, q⟩
    exact call_repr_slot (by omega) ⟨o, ho, hc.1⟩ F.slot_dict_repr (call_dict_reprK ho hc.1 hdt hsys nin (ReprEntriesK.of_two es.toList _ _ (k1.more_le (fun b hb => List.mem_append_left _ hb) (PyData.depthAll_keys_le ds)) (k2.more_le (fun b hb => List.mem_append_right _ hb) (PyData.depthAll_vals_le ds)))
      hg (fun b _ => Clear.nil b) (by show X.A.units + 1 + _ < _; omega) (fun _ _ e => e) (fun h' u tk hk' => ⟨_, _, rfl, fin h' u tk hk'⟩) (by rw [← PyData.shownKv_eq]; exact hz2))
end
section
variable {X : Cx}
theorem x_repr (hu : X.A.units + 64 < cLine) (hg : X.A.guards = some []) : CallR X (.builtin "repr") (rL X.K (bltD .repr)) := by
  refine CallR.by fun xs H Q ⟨N, ds, z, m, hd, ez, q⟩ => ?_
  match ds, hd, ez with
  | [d], hd, ez =>
    obtain ⟨x, rfl, h⟩ := hd.one
    simp only [bltD] at ez
    split at ez
    · rename_i hz
      cases ez
      unfold okRepr at hz
      simp only [Bool.and_eq_true, decide_eq_true_eq] at hz
      exact ⟨_, call_reprQ hu hg, x, d, rfl, h.un, hz.1.1, hz.1.2, hz.2, q _ _ (vn_str _)⟩
    · cases ez
end
end Pv
namespace Pv
open PySem L2
variable [Tabs]
section
variable {K : PySem.W.Frag} {c : Amb} {fps fps' : Nat → List Addr} {ρ : Env} {F F' F1 : Feed} {σ : L2.St} {H H' H0 H1 : Hp} {u : V} {v : Val} {d : PyData} {al : Al} {S S' : List Nat} {fp : List Addr} {i : Nat}
theorem get_set {α : Type} {l : List α} {i j : Nat} {x : α} : (l.set i x)[j]? = if i = j ∧ i < l.length then some x else l[j]? := by
  rw [List.getElem?_set]
  by_cases h : i = j
  · subst h
    by_cases h2 : i < l.length
    · simp [h2]
    · simp [h2]
  · simp [h]
theorem Sim.put (s : Sim K c fps ρ F σ H) (fps' : Nat → List Addr) (hk : ∀ k, k ≠ i → fps' k = fps k) (v : Val) (hv : SlotOk K c fps' H i u v) (he : (∀ d, v ≠ .dat d none) → fps' i = []) (hn : (fps' i).Nodup) (hw : ∀ a ∈ fps' i, c.E0 a = none ∧ ¬ c.N a ∧ ∀ k, k ≠ i → a ∉ fps k)
    (ho : ∀ k, k ≠ i → ∀ w d S, σ[k]? = some (some w) → ρ[k]? = some (some (.dat d (some S))) → Dq K (hid (av c fps' []) H) w d) (hi : i < ρ.length) : Sim K c fps' (ρ.set i (some v)) F (σ.set i (some u)) H where
  len := by rw [List.length_set, List.length_set]; exact s.len
  slot := fun k w e => by
    rw [get_set] at e ⊢
    by_cases q : i = k
    · subst q
      rw [if_pos ⟨rfl, hi⟩] at e
      rw [if_pos ⟨rfl, by rw [← s.len]; exact hi⟩]
      cases e
      exact ⟨u, rfl, hv⟩
    · rw [if_neg fun z => q z.1] at e ⊢
      obtain ⟨w', h1, h2⟩ := s.slot k w e
      refine ⟨w', h1, ?_⟩
      cases w with
      | dat d al =>
        cases al with
        | none =>
          show Ow K H (fps' k) w' d
          rw [hk k fun z => q z.symm]
          exact h2
        | some S => exact ho k (fun z => q z.symm) w' d S h1 e
      | feed => exact h2
      | exc x => exact h2
  emp := fun k h => by
    by_cases q : k = i
    · subst q
      refine he fun d z => h d ?_
      rw [get_set, if_pos ⟨rfl, hi⟩, z]
    · rw [hk k q]
      refine s.emp k fun d z => h d ?_
      rw [get_set, if_neg fun w => q w.1.symm]
      exact z
  nd := fun k => by
    by_cases q : k = i
    · subst q; exact hn
    · rw [hk k q]; exact s.nd k
  dj := fun j k a h1 h2 => by
    by_cases q : j = i
    · by_cases q2 : k = i
      · rw [q, q2]
      · subst q
        rw [hk k q2] at h2
        exact absurd h2 ((hw a h1).2.2 k q2)
    · by_cases q2 : k = i
      · subst q2
        rw [hk j q] at h1
        exact absurd h1 ((hw a h2).2.2 j q)
      · rw [hk j q] at h1
        rw [hk k q2] at h2
        exact s.dj j k a h1 h2
  new := fun k a h => by
    by_cases q : k = i
    · subst q; exact (hw a h).1
    · rw [hk k q] at h; exact s.new k a h
  ent := s.ent
  p0 := s.p0
  tb := s.tb
  ce0 := s.ce0
  feed := s.feed
  np := s.np
  mu := s.mu
  nN := fun k a h => by
    by_cases q : k = i
    · subst q; exact (hw a h).2.1
    · rw [hk k q] at h; exact s.nN k a h
theorem Sim.put0 (s : Sim K c fps ρ F σ H) (v : Val) (hv : SlotOk K c (fun k => if k = i then [] else fps k) H i u v) (hi : i < ρ.length) : Sim K c (fun k => if k = i then [] else fps k) (ρ.set i (some v)) F (σ.set i (some u)) H := by
  refine s.put _ (fun k hk => if_neg hk) v hv (fun _ => if_pos rfl) (by simp) (fun a h => by simp at h) (fun k hk w d S h1 h2 => ?_) hi
  obtain ⟨w', h3, h4⟩ := s.slot k _ h2
  rw [h1] at h3
  cases h3
  refine Dq.same (hid_mono fun a z => ?_) h4
  rcases z with z | ⟨j, n, z⟩
  · exact .inl z
  · refine .inr ⟨j, n, ?_⟩
    by_cases q : j = i
    · simp [q] at z
    · simpa [q] using z
theorem set_self {α : Type} : ∀ {l : List α} {i : Nat} {x : α}, l[i]? = some x → l.set i x = l
  | [], i, x, h => by simp at h
  | y :: l, 0, x, h => by
    have : y = x := by simpa using h
    rw [this]
    rfl
  | y :: l, i + 1, x, h => by
    have := set_self (l := l) (i := i) (x := x) (by simpa using h)
    show y :: l.set i x = y :: l
    rw [this]
theorem lt_of_get {α : Type} {l : List α} {i : Nat} {x : α} (h : l[i]? = some x) : i < l.length := (List.getElem?_eq_some_iff.mp h).1
theorem Sim.freeze1 (s : Sim K c fps ρ F σ H) (j : Nat) : ∃ fps', Sim K c fps' (freeze1 j ρ) F σ H ∧ fps' j = [] ∧ ∀ k, k ≠ j → fps' k = fps k := by
  unfold Pv.freeze1
  cases q : ρ[j]? with
  | none =>
    refine ⟨fps, s, s.emp j fun d z => ?_, fun k _ => rfl⟩
    rw [q] at z
    cases z
  | some o =>
    cases o with
    | none =>
      refine ⟨fps, s, s.emp j fun d z => ?_, fun k _ => rfl⟩
      rw [q] at z
      cases z
    | some v =>
      cases v with
      | feed =>
        refine ⟨fps, s, s.emp j fun d z => ?_, fun k _ => rfl⟩
        rw [q] at z
        cases z
      | exc x =>
        refine ⟨fps, s, s.emp j fun d z => ?_, fun k _ => rfl⟩
        rw [q] at z
        cases z
      | dat d al =>
        obtain ⟨u, h1, h2⟩ := s.slot j _ q
        have hs := s.put0 (i := j) (u := u) (.dat d (some [])) ?_ (lt_of_get q)
        · rw [set_self h1] at hs
          exact ⟨_, hs, if_pos rfl, fun k hk => if_neg hk⟩
        · have sub : ∀ a, av c (fun k => if k = j then [] else fps k) [] a → av c fps [] a ∧ a ∉ fps j := fun a z => by
            rcases z with z | ⟨k, n, z⟩
            · exact ⟨.inl z, fun w => s.nN j a w z⟩
            · by_cases hk : k = j
              · simp [hk] at z
              · have z : a ∈ fps k := by simpa [hk] using z
                exact ⟨.inr ⟨k, n, z⟩, fun w => hk (s.dj k j a z w)⟩
          cases al with
          | none => exact Ow.dq (fun a z => s.avMu [] a (sub a z).1) h2 fun a m z => (sub a z).2 m
          | some S => exact Dq.same (hid_mono fun a z => (sub a z).1) h2
theorem Sim.freeze (s : Sim K c fps ρ F σ H) : ∀ S : List Nat, ∃ fps', Sim K c fps' (freeze S ρ) F σ H ∧ (∀ k ∈ S, fps' k = []) ∧ ∀ k, k ∉ S → fps' k = fps k
  | [] => ⟨fps, s, fun k h => by simp at h, fun k _ => rfl⟩
  | j :: S => by
    obtain ⟨f1, s1, h1, h2⟩ := Sim.freeze s S
    obtain ⟨f2, s2, h3, h4⟩ := s1.freeze1 j
    refine ⟨f2, s2, fun k hk => ?_, fun k hk => ?_⟩
    · by_cases q : k = j
      · rw [q]; exact h3
      · rw [h4 k q]
        exact h1 k ((List.mem_cons.mp hk).resolve_left q)
    · have q : k ≠ j := fun z => hk (by simp [z])
      rw [h4 k q]
      exact h2 k fun z => hk (by simp [z])
theorem freeze1_len (j : Nat) (ρ : Env) : (Pv.freeze1 j ρ).length = ρ.length := by
  unfold Pv.freeze1
  split <;> simp
theorem freeze_len : ∀ (S : List Nat) (ρ : Env), (Pv.freeze S ρ).length = ρ.length
  | [], _ => rfl
  | j :: S, ρ => by
    show (Pv.freeze1 j (Pv.freeze S ρ)).length = _
    rw [freeze1_len, freeze_len S ρ]
theorem av_sub (h1 : ∀ k ∈ S, fps' k = []) (h2 : ∀ k, k ∉ S → fps' k = fps k) {a : Addr} (z : av c fps' [] a) : av c fps S a := by
  rcases z with z | ⟨k, n, z⟩
  · exact .inl z
  · by_cases q : k ∈ S
    · rw [h1 k q] at z
      simp at z
    · rw [h2 k q] at z
      exact .inr ⟨k, q, z⟩
theorem Sim.storeS (s : Sim K c fps ρ F σ H) (h : Dq K (hid (av c fps S) H) u d) (hi : i < ρ.length) : ∃ fps', Sim K c fps' (store ρ i (.dat d (some S))) F (σ.set i (some u)) H ∧ (∀ k, fps' k = [] ∨ fps' k = fps k) ∧ ∀ k, k ∉ S → k ≠ i → fps' k = fps k := by
  unfold Pv.store
  by_cases f : flat d = true
  · simp only [f, if_true]
    refine ⟨_, s.put0 (.dat d none) ?_ hi, fun k => ?_, fun k _ q => if_neg q⟩
    · show Ow K H (if i = i then [] else fps i) u d
      rw [if_pos rfl]
      exact .flat f h.un
    · by_cases q : k = i
      · exact .inl (if_pos q)
      · exact .inr (if_neg q)
  · simp only [f]
    obtain ⟨f1, s1, h1, h2⟩ := s.freeze S
    refine ⟨_, s1.put0 (.dat d (some [])) ?_ (by rw [freeze_len]; exact hi), fun k => ?_, fun k z q => by rw [if_neg q]; exact h2 k z⟩
    · refine Dq.same (hid_mono fun a z => ?_) h
      refine av_sub h1 h2 ?_
      rcases z with z | ⟨k, n, z⟩
      · exact .inl z
      · by_cases q : k = i
        · simp [q] at z
        · exact .inr ⟨k, n, by simpa [q] using z⟩
    · by_cases q : k = i
      · exact .inl (if_pos q)
      · rw [if_neg q]
        by_cases q2 : k ∈ S
        · exact .inl (h1 k q2)
        · exact .inr (h2 k q2)
mutual
theorem Ow.nil : ∀ {d : PyData} {fp : List Addr} {v : V}, Pv.flat d = true → Ow K H fp v d → fp = []
  | .none, _, _, _, h => by cases h; rfl
  | .bool b, _, _, _, h => by cases h; rfl
  | .int i, _, _, _, h => by cases h; rfl
  | .str x, _, _, _, h => by cases h; rfl
  | .list ds, _, _, f, _ => by simp [Pv.flat] at f
  | .tuple ds, _, _, f, h => by
    cases h with
    | flat _ _ => rfl
    | tup hs ha => exact OwAll.nilAll (by simpa [Pv.flat] using f) ha
  | .dict ds, _, _, f, _ => by simp [Pv.flat] at f
theorem OwAll.nilAll : ∀ {ds : List PyData} {fp : List Addr} {vs : List V}, flatAll ds = true → OwAll K H fp vs ds → fp = []
  | [], _, _, _, h => by cases h; rfl
  | d :: ds, _, _, f, h => by
    have f' : Pv.flat d = true ∧ flatAll ds = true := by simpa [flatAll] using f
    cases h with
    | cons h1 h2 => rw [Ow.nil f'.1 h1, OwAll.nilAll f'.2 h2]; rfl
end
theorem Sim.store (s : Sim K c fps ρ F σ H0) (e : Aft c F1 H0 H) (h : VOk K c fps H0 H u v) (hi : i < ρ.length) : ∃ fps', Sim K c fps' (store ρ i v) F1 (σ.set i (some u)) H ∧ ((∀ k, fps' k = [] ∨ fps' k = fps k) ∨ ∃ d, v = .dat d none ∧ flat d = false) := by
  have s1 := s.aft e
  cases v with
  | feed =>
    refine ⟨_, s1.put0 .feed h hi, .inl fun k => ?_⟩
    by_cases q : k = i
    · exact .inl (if_pos q)
    · exact .inr (if_neg q)
  | exc x =>
    refine ⟨_, s1.put0 (.exc x) h hi, .inl fun k => ?_⟩
    by_cases q : k = i
    · exact .inl (if_pos q)
    · exact .inr (if_neg q)
  | dat d al =>
    cases al with
    | some S =>
      obtain ⟨f, h1, h2, _⟩ := s1.storeS (i := i) h hi
      exact ⟨f, h1, .inl h2⟩
    | none =>
      obtain ⟨fp, h1, h2, h3⟩ := h
      refine ⟨fun k => if k = i then fp else fps k, s1.put _ (fun k hk => if_neg hk) (.dat d none) ?_ (fun z => absurd rfl (z d)) ?_ (fun a ha => ?_) (fun k hk w d' S g1 g2 => ?_) hi, ?_⟩
      · show Ow K H (if i = i then fp else fps i) u d
        rw [if_pos rfl]
        exact h1
      · rw [if_pos rfl]
        exact h2
      · rw [if_pos rfl] at ha
        have h0 := h3 a ha
        refine ⟨?_, fun z => ?_, fun k hk z => ?_⟩
        · cases q : c.E0 a with
          | none => rfl
          | some o =>
            by_cases hp : a = c.p
            · subst hp
              exact absurd h0 s.feed.some
            · have := s.ent a o q hp
              rw [h0] at this
              cases this
        · exact Mu.some s.mu z h0
        · obtain ⟨xs, e'⟩ := s.lists z
          rw [h0] at e'
          cases e'
      · obtain ⟨w', g3, g4⟩ := s.slot k _ g2
        rw [g1] at g3
        cases g3
        refine Dq.same (hid_same fun a o n q => ⟨fun z => ?_, e.keep a o q fun z => n (.inl (z ▸ s.np))⟩) g4
        rcases z with z | ⟨j, nj, z⟩
        · exact n (.inl z)
        · by_cases hj : j = i
          · simp only [hj, if_true] at z
            rw [h3 a z] at q
            cases q
          · simp only [hj, if_false] at z
            exact n (.inr ⟨j, nj, z⟩)
      · by_cases f : flat d = true
        · refine .inl fun k => ?_
          have := h1.nil f
          subst this
          by_cases q : k = i
          · exact .inl (if_pos q)
          · exact .inr (if_neg q)
        · exact .inr ⟨d, rfl, by simpa using f⟩
theorem set_out {α : Type} {l : List α} {i : Nat} {x : α} (h : ¬ i < l.length) : l.set i x = l := List.set_eq_of_length_le (by omega)
theorem Sim.storeS' (s : Sim K c fps ρ F σ H) (i : Nat) (h : Dq K (hid (av c fps S) H) u d) : ∃ fps', Sim K c fps' (Pv.store ρ i (.dat d (some S))) F (σ.set i (some u)) H ∧ (∀ k, fps' k = [] ∨ fps' k = fps k) ∧ ∀ k, k ∉ S → k ≠ i → fps' k = fps k := by
  by_cases hi : i < ρ.length
  · exact s.storeS h hi
  · rw [set_out (l := σ) (by rw [← s.len]; exact hi)]
    unfold Pv.store
    by_cases f : flat d = true
    · simp only [f, if_true]
      rw [set_out hi]
      exact ⟨fps, s, fun k => .inr rfl, fun k _ _ => rfl⟩
    · simp only [f]
      obtain ⟨f1, s1, h1, h2⟩ := s.freeze S
      refine ⟨f1, ?_, fun k => ?_, fun k z _ => h2 k z⟩
      · have e : (Pv.freeze S ρ).set i (some (Val.dat d (some []))) = Pv.freeze S ρ := set_out (by rw [freeze_len]; exact hi)
        show Sim K c f1 ((Pv.freeze S ρ).set i (some (Val.dat d (some [])))) F σ H
        rw [e]
        exact s1
      · by_cases q2 : k ∈ S
        · exact .inl (h1 k q2)
        · exact .inr (h2 k q2)
theorem Sim.store' (s : Sim K c fps ρ F σ H0) (i : Nat) (e : Aft c F1 H0 H) (h : VOk K c fps H0 H u v) : ∃ fps', Sim K c fps' (Pv.store ρ i v) F1 (σ.set i (some u)) H ∧ ((∀ k, fps' k = [] ∨ fps' k = fps k) ∨ ∃ d, v = .dat d none ∧ flat d = false) := by
  by_cases hi : i < ρ.length
  · exact s.store e h hi
  · have s1 := s.aft e
    cases v with
    | exc x =>
      rw [set_out (l := σ) (by rw [← s.len]; exact hi)]
      dsimp only [Pv.store]
      rw [set_out hi]
      exact ⟨fps, s1, .inl fun k => .inr rfl⟩
    | feed =>
      rw [set_out (l := σ) (by rw [← s.len]; exact hi)]
      dsimp only [Pv.store]
      rw [set_out hi]
      exact ⟨fps, s1, .inl fun k => .inr rfl⟩
    | dat d al =>
      cases al with
      | none =>
        rw [set_out (l := σ) (by rw [← s.len]; exact hi)]
        dsimp only [Pv.store]
        rw [set_out hi]
        exact ⟨fps, s1, .inl fun k => .inr rfl⟩
      | some S =>
        obtain ⟨f, h1, h2, _⟩ := s1.storeS' i h
        exact ⟨f, h1, .inl h2⟩
theorem av_shrink (h : ∀ k, fps' k = [] ∨ fps' k = fps k) {a : Addr} (z : av c fps' S a) : av c fps S a := by
  rcases z with z | ⟨k, n, z⟩
  · exact .inl z
  · rcases h k with e | e
    · rw [e] at z; simp at z
    · rw [e] at z; exact .inr ⟨k, n, z⟩
theorem shrink_trans {fps'' : Nat → List Addr} (h : ∀ k, fps' k = [] ∨ fps' k = fps k) (h' : ∀ k, fps'' k = [] ∨ fps'' k = fps' k) : ∀ k, fps'' k = [] ∨ fps'' k = fps k := fun k => by
  rcases h' k with e | e
  · exact .inl e
  · rw [e]; exact h k
end
mutual
def tgV : Tg → List Nat
  | .nm i => [i]
  | .tp ts => tgsV ts
def tgsV : Tgs → List Nat
  | .nil => []
  | .cons t ts => tgV t ++ tgsV ts
end
def tgsLen : Tgs → Nat
  | .nil => 0
  | .cons _ ts => tgsLen ts + 1
def QG (G : Gx) (X : Cx) (tg : Expr) (it : Tg) : Prop :=
  ∃ g : TG, PG X tg g ∧ ∀ (c : Amb) (fps : Nat → List Addr) (ρ : Env) (F : Feed) (σ : L2.St) (H : Hp) (u : V) (d : PyData) (S : List Nat) (ρ' : Env) (Q : L2.St → Hp → Prop), Sim X.K c fps ρ F σ H → Dq X.K (hid (av c fps S) H) u d →
    bindT it d (some S) ρ = some ρ' → (∀ fps' σ', Sim X.K c fps' ρ' F σ' H → (∀ k, fps' k = [] ∨ fps' k = fps k) → (∀ k, k ∉ tgV it → σ'[k]? = σ[k]?) → (∀ k, k ∉ S → k ∉ tgV it → fps' k = fps k) → Q σ' H) → g u σ H Q
def QGs (G : Gx) (X : Cx) (tg : List Expr) (it : Tgs) : Prop :=
  ∃ g : TGs, PGs X tg g ∧ ∀ (c : Amb) (fps : Nat → List Addr) (ρ : Env) (F : Feed) (σ : L2.St) (H : Hp) (us : List V) (ds : List PyData) (S : List Nat) (ρ' : Env) (Q : L2.St → Hp → Prop), Sim X.K c fps ρ F σ H → DqAll X.K (hid (av c fps S) H) us ds →
    bindTs it ds (some S) ρ = some ρ' → (∀ fps' σ', Sim X.K c fps' ρ' F σ' H → (∀ k, fps' k = [] ∨ fps' k = fps k) → (∀ k, k ∉ tgsV it → σ'[k]? = σ[k]?) → (∀ k, k ∉ S → k ∉ tgsV it → fps' k = fps k) → Q σ' H) → g us σ H Q
section
variable {G : Gx} {X : Cx} {pos : Pos}
theorem g_name {x : Str} (i : Nat) (hN : X.N.Nodup) (hi : X.N[i]? = some x := by rfl) (hx : Loc X.env.scope x := by first | exact Or.inl rfl | exact Or.inr rfl) (hf : X.fn x = true ∨ X.env.scope.names.lookup x = some .local := by first | exact .inl rfl | exact .inr rfl | assumption) : QG G X (.Name x pos) (.nm i) := by
  refine ⟨_, pg_name hN hi hx hf, fun c fps ρ F σ H u d S ρ' Q s h e q => ?_⟩
  simp only [bindT, Option.some.injEq] at e
  subst e
  obtain ⟨f, h1, h2, h3⟩ := s.storeS' i h
  exact q f _ h1 h2 (fun k hk => by rw [get_set, if_neg fun z => hk (by simp [tgV, z.1])]) fun k z hk => h3 k z fun w => hk (by simp [tgV, w])
theorem gs_nil : QGs G X [] .nil := by
  refine ⟨_, pgs_nil, fun c fps ρ F σ H us ds S ρ' Q s h e q => ?_⟩
  cases ds with
  | nil =>
    cases h
    simp only [bindTs, Option.some.injEq] at e
    subst e
    exact ⟨rfl, q fps σ s (fun k => .inr rfl) (fun k _ => rfl) fun k _ _ => rfl⟩
  | cons d ds => simp [bindTs] at e
theorem gs_cons {t : Expr} {ts : List Expr} {it : Tg} {its : Tgs} (h1 : QG G X t it) (h2 : QGs G X ts its) (hs : (assignEach (t :: ts) X.env).map (·.2) = assign t X.env :: (assignEach ts X.env).map (·.2) := by rfl) : QGs G X (t :: ts) (.cons it its) := by
  obtain ⟨g, p, h1⟩ := h1
  obtain ⟨gs, ps, h2⟩ := h2
  refine ⟨_, pgs_cons p ps hs, fun c fps ρ F σ H us ds S ρ' Q s h e q => ?_⟩
  cases ds with
  | nil => simp [bindTs] at e
  | cons d ds =>
    cases h with
    | cons a1 a2 =>
      simp only [bindTs] at e
      cases eb : bindT it d (some S) ρ with
      | none => rw [eb] at e; cases e
      | some ρ1 =>
        rw [eb] at e
        refine ⟨_, _, rfl, h1 c fps ρ F σ H _ d S ρ1 _ s a1 eb fun f1 σ1 s1 sh k1 k1' => ?_⟩
        exact h2 c f1 ρ1 F σ1 H _ ds S ρ' Q s1 (DqAll.same (hid_mono fun a z => av_shrink sh z) a2) e fun f2 σ2 s2 sh2 k2 k2' => q f2 σ2 s2 (shrink_trans sh sh2) (fun k hk => by
          rw [k2 k fun z => hk (by simp [tgsV, z]), k1 k fun z => hk (by simp [tgsV, z])]) fun k z hk => by
          rw [k2' k z fun w => hk (by simp [tgsV, w]), k1' k z fun w => hk (by simp [tgsV, w])]
theorem bindTs_len : ∀ {its : Tgs} {ds ds' : List PyData} {al al' : Al} {ρ ρ' : Env}, bindTs its ds al ρ = some ρ' → ∀ {n : Nat}, tgsLen its = n → ds.length = n
  | .nil, [], _, _, _, _, _, _, _, h => by subst h; rfl
  | .nil, _ :: _, _, _, _, _, _, e, _, _ => by simp [bindTs] at e
  | .cons t ts, [], _, _, _, _, _, e, _, _ => by simp [bindTs] at e
  | .cons t ts, d :: ds, ds', al, al', ρ, ρ', e, n, h => by
    simp only [bindTs] at e
    cases eb : bindT t d al ρ with
    | none => rw [eb] at e; cases e
    | some ρ1 =>
      rw [eb] at e
      subst h
      rw [List.length_cons, bindTs_len (ds' := ds) (al' := al) e rfl]
      rfl
theorem g_tup {ts : List Expr} {its : Tgs} {k n : Nat} (hc : X.calm = true) (h : QGs G X ts its) (hl : tgsLen its = n) (hn : (assignEach ts X.env).length = n := by rfl) (hst : (assignEach ts X.env).findIdx? (·.1) = none := by rfl) : QG G X (.Tuple ts k pos) (.tp its) := by
  obtain ⟨g, p, h⟩ := h
  refine ⟨_, pg_tup hc p hn hst, fun c fps ρ F σ H u d S ρ' Q s hd e q => ?_⟩
  cases d with
  | tuple ds =>
    cases hd with
    | tup h1 h2 =>
      have e : bindTs its ds (some S) ρ = some ρ' := e
      exact ⟨_, _, rfl, hid_un.seqT h1, by rw [h2.length]; exact bindTs_len (ds' := ds) (al' := none) e hl, h c fps ρ F σ H _ ds S ρ' Q s h2 e q⟩
  | _ => simp [bindT] at e
def PostS (K : PySem.W.Frag) (c : Amb) (W : Exc → Feed → Hp → Prop) (D : Ends) (m : R Fl) : Prop := PostM c W c.E0 m fun fl F' => match fl with
  | .next ρ' => ∀ fps' σ' H', Sim K c fps' ρ' F' σ' H' → D.nx σ' H'
  | .brk ρ' => ∀ fps' σ' H', Sim K c fps' ρ' F' σ' H' → D.bk σ' H'
  | .cont ρ' => ∀ fps' σ' H', Sim K c fps' ρ' F' σ' H' → D.ct σ' H'
  | .ret v => ∀ u H', Aft c F' c.E0 H' → VOk K c (fun _ => []) c.E0 H' u v → D.rt u H'
def QS (G : Gx) (X : Cx) (st : Stmt) (is : IS) : Prop :=
  ∃ t : TS, PS X st t ∧ ∀ (c : Amb) (fps : Nat → List Addr) (ρ : Env) (F : Feed) (σ : L2.St) (H : Hp) (D : Ends), Sim X.K c fps ρ F σ H → PostS X.K c G.W D (evS G.cfg is ρ F) → t D σ H
def QSs (G : Gx) (X : Cx) (st : List Stmt) (is : ISs) : Prop :=
  ∃ t : TS, PSs X st t ∧ ∀ (c : Amb) (fps : Nat → List Addr) (ρ : Env) (F : Feed) (σ : L2.St) (H : Hp) (D : Ends), Sim X.K c fps ρ F σ H → PostS X.K c G.W D (evSs G.cfg is ρ F) → t D σ H
theorem Sim.e0 {K : PySem.W.Frag} {c : Amb} {fps : Nat → List Addr} {ρ : Env} {F : Feed} {σ : L2.St} {H : Hp} (s : Sim K c fps ρ F σ H) : Aft c F c.E0 H := ⟨s.ent, s.feed⟩
theorem ss_nil : QSs G X [] .nil := ⟨_, pss_nil, fun c fps ρ F σ H D s h => h fps σ H s⟩
theorem ss_cons {st : Stmt} {rest : List Stmt} {is : IS} {iss : ISs} (h1 : QS G X st is) (h2 : QSs G X rest iss) : QSs G X (st :: rest) (.cons is iss) := by
  obtain ⟨t1, p1, h1⟩ := h1
  obtain ⟨t2, p2, h2⟩ := h2
  refine ⟨_, pss_cons p1 p2, fun c fps ρ F σ H D s h => ?_⟩
  unfold PostS at h
  simp only [evSs] at h
  refine h1 c fps ρ F σ H _ s (h.bind.mono fun fl F1 g => ?_)
  cases fl with
  | next ρ' => exact fun f1 σ1 H1 s1 => h2 c f1 ρ' F1 σ1 H1 D s1 g
  | brk ρ' => exact g
  | cont ρ' => exact g
  | ret v => exact g
theorem s_set {x : Str} {e : Expr} {ie : IE} {pos' : Pos} (i : Nat) (hN : X.N.Nodup) (he : QE G X e ie) (hi : X.N[i]? = some x := by rfl) (hx : Loc X.env.scope x := by first | exact Or.inl rfl | exact Or.inr rfl) (hs : swapsWith e (some (.Name x pos')) pos.line X.env = pure false := by rfl) (hf : X.fn x = true ∨ X.env.scope.names.lookup x = some .local := by first | exact .inl rfl | exact .inr rfl | assumption) :
    QS G X (.Assign [.Name x pos'] e pos) (.set i ie) := by
  obtain ⟨te, pe, he⟩ := he
  refine ⟨_, ps_set hN hi hx pe hs hf, fun c fps ρ F σ H D s h => ?_⟩
  unfold PostS at h
  simp only [evS] at h
  refine he c fps ρ F σ H _ s ((h.bind.aft s.e0).mono fun v F1 g u H1 e1 w => ?_)
  obtain ⟨f, s1, _⟩ := s.store' i e1 w
  exact g f _ H1 s1
theorem s_unp {tg e : Expr} {it : Tg} {ie : IE} (he : QE G X e ie) (hg : QG G X tg it) (hs : swapsWithSole [tg] e pos.line X.env = pure false := by rfl) (hw : swappedStores [tg] e X.env = pure none := by rfl)
    (h1 : (assignEach [tg] X.env).map (·.2) = [assign tg X.env] := by rfl) : QS G X (.Assign [tg] e pos) (.unp it ie) := by
  obtain ⟨te, pe, he⟩ := he
  obtain ⟨g, pg, hg⟩ := hg
  refine ⟨_, ps_asg pe pg hs hw h1, fun c fps ρ F σ H D s h => ?_⟩
  unfold PostS at h
  simp only [evS] at h
  refine he c fps ρ F σ H _ s ((h.bind.aft s.e0).mono fun v F1 g u H1 e1 w => ?_)
  have s1 := s.aft e1
  obtain ⟨d, al, ev, g2⟩ := g.dat
  obtain ⟨ρ', eb, g3⟩ := g2.of
  subst ev
  have a1 : Dq X.K (hid (av c fps (al.getD [])) H1) u d := VOk.dq s1 w e1 (fun a z => s.avSome z) fun i z => z
  have eb : bindT it d (some (al.getD [])) ρ = some ρ' := by
    cases al with
    | none => exact eb
    | some S => exact eb
  exact hg c fps ρ F1 σ H1 u d _ ρ' _ s1 a1 eb fun f σ' s' _ _ _ => g3 f σ' H1 s'
theorem s_par {x y : Str} {a b : Expr} {ia ib : IE} {px py pt : Pos} {kt k2 : Nat} {pt2 : Pos} (i j : Nat) (hN : X.N.Nodup) (ha : QE G X a ia) (hb : QE G X b ib) (hc : X.calm = true := by rfl) (hi : X.N[i]? = some x := by rfl) (hj : X.N[j]? = some y := by rfl) (hij : i ≠ j := by decide)
    (hx : X.env.scope.names.lookup x = some .local := by rfl) (hy : X.env.scope.names.lookup y = some .local := by rfl)
    (hw : swappedStores [.Tuple [.Name x px, .Name y py] kt pt] (.Tuple [a, b] k2 pt2) X.env = pure (some [x, y]) := by rfl)
    (hs : swapsWithSole [.Tuple [.Name x px, .Name y py] kt pt] (.Tuple [a, b] k2 pt2) pos.line X.env = pure false := by rfl)
    (h1 : starEach [a, b] X.env = (false, eval a X.env) :: starEach [b] X.env := by rfl) (h2 : starEach [b] X.env = (false, eval b X.env) :: starEach [] X.env := by rfl) :
    QS G X (.Assign [.Tuple [.Name x px, .Name y py] kt pt] (.Tuple [a, b] k2 pt2) pos) (.par i j ia ib) := by
  obtain ⟨ta, pa, ha⟩ := ha
  obtain ⟨tb, pb, hb⟩ := hb
  refine ⟨_, ps_par hc hN hi hj hij hx hy (pa_cons pa (pa_cons pb pa_nil h2) h1) hw hs, fun c fps ρ F σ H D s h => ?_⟩
  unfold PostS at h
  simp only [evS] at h
  refine ha c fps ρ F σ H _ s ((h.bind.aft s.e0).mono fun v1 F1 g1 u1 H1 e1 w1 => ?_)
  have s1 := s.aft e1
  refine hb c fps ρ F1 σ H1 _ s1 ((g1.bind.aft s1.e0).mono fun v2 F2 g2 u2 H2 e2 w2 => ?_)
  refine ⟨u1, u2, rfl, ?_⟩
  have w1' : VOk X.K c fps H H1 u1 (parV v1 v2) := by
    cases v1 with
    | feed => exact w1
    | exc x => exact w1
    | dat d1 al1 =>
      cases al1 with
      | some S => exact w1
      | none =>
        cases v2 with
        | feed => exact w1
        | exc x => exact w1
        | dat d2 al2 =>
          cases al2 with
          | none => exact w1
          | some S =>
            unfold parV
            by_cases f : (flat d1 || flat d2) = true
            · simp only [f, if_true]
              exact w1
            · simp only [f]
              exact VOk.dq s1 w1 e1 (fun a z => s.avSome z) fun i z => by simp at z
  obtain ⟨f1, s2, sh⟩ := s.store' i e1 w1'
  have w2' : VOk X.K c f1 H1 H2 u2 v2 := by
    cases v2 with
    | feed => exact w2
    | exc x => exact w2
    | dat d2 al2 =>
      cases al2 with
      | none => exact w2
      | some S =>
        by_cases f2 : flat d2 = true
        · exact Dq.flat (fun a z => (s2.aft e2).avMu S a z) f2 (Dq.un w2)
        · rcases sh with sh | ⟨d, ed⟩
          · exact Dq.same (hid_mono fun a z => av_shrink sh z) w2
          · cases v1 with
            | feed => cases ed.1
            | exc x => cases ed.1
            | dat d1 al1 =>
              cases al1 with
              | some S' => cases ed.1
              | none =>
                unfold parV at ed
                by_cases f1' : flat d1 = true
                · simp only [f1', Bool.true_or, if_true] at ed
                  obtain ⟨ed, nf⟩ := ed
                  cases ed
                  rw [f1'] at nf
                  cases nf
                · simp [f1', f2] at ed
  obtain ⟨f3, s3, _⟩ := s2.store' j e2 w2'
  exact g2 f3 _ H2 s3
end
end Pv
namespace Pv
open PySem L2
variable [Tabs]
section
variable {K : PySem.W.Frag} {c : Amb} {fps fps' : Nat → List Addr} {ρ : Env} {F F' F1 : Feed} {σ : L2.St} {H H' H0 H1 : Hp} {u : V} {v : Val} {d : PyData} {ds : List PyData} {al : Al} {S S' : List Nat} {fp fp' : List Addr} {i x : Nat} {vs : List V}
theorem sqt_keep {P : Addr → Prop} (m : ∀ a, P a → Mu (H a)) (k : ∀ b o, H b = some o → ¬ P b → H' b = some o) : ∀ a xs, SqT K H a xs → SqT K H' a xs := fun a xs h => by
  have h' := Mu.ntup m h
  rcases h' with (h | ⟨o, h⟩) | h
  · obtain ⟨n, h⟩ := hid_some.mp h
    exact .inl (.inl (k _ _ h n))
  · obtain ⟨n, h⟩ := hid_some.mp h
    exact .inl (.inr ⟨o, k _ _ h n⟩)
  · exact .inr h
theorem flat_keep {P : Addr → Prop} (m : ∀ a, P a → Mu (H a)) (k : ∀ b o, H b = some o → ¬ P b → H' b = some o) : ∀ v d, Pv.flat d = true → Dq K H v d → Dq K H' v d := fun v d f h =>
  (Dq.flat m f h).same fun a o e => k a o (hid_some.mp e).2 (hid_some.mp e).1
theorem Ow.keepP {P : Addr → Prop} (m : ∀ a, P a → Mu (H a)) (k : ∀ b o, H b = some o → ¬ P b → H' b = some o) (h : Ow K H fp u d) (n : ∀ a ∈ fp, ¬ P a) : Ow K H' fp u d :=
  Ow.keep (sqt_keep m k) h (fun a o z q => k a o q (n a z)) (flat_keep m k)
theorem OwAll.keepP {P : Addr → Prop} (m : ∀ a, P a → Mu (H a)) (k : ∀ b o, H b = some o → ¬ P b → H' b = some o) (h : OwAll K H fp vs ds) (n : ∀ a ∈ fp, ¬ P a) : OwAll K H' fp vs ds :=
  OwAll.keep (sqt_keep m k) h (fun a o z q => k a o q (n a z)) (flat_keep m k)
theorem Sim.mutate (s : Sim K c fps ρ F σ H0) (e : Aft c F1 H0 H1) {a : Addr} (ha : a ∈ fps x) (xs' : List V) (fp2 : List Addr) (h2 : ∀ b ∈ fp2, b ∈ fps x ∨ H0 b = none) (hn : fp2.Nodup) (v2 : Val)
    (hv : SlotOk K c (fun k => if k = x then fp2 else fps k) (upd H1 a (.lst xs')) x u v2) (hu : σ[x]? = some (some u)) (he : (∀ d, v2 ≠ .dat d none) → fp2 = []) : Sim K c (fun k => if k = x then fp2 else fps k) (ρ.set x (some v2)) F1 σ (upd H1 a (.lst xs')) := by
  have s1 := s.aft e
  have nap : a ≠ c.p := fun z => s.nfp x (z ▸ ha)
  have nace : a ≠ c.ce := fun z => s.ce0 (z ▸ s.new x a ha)
  obtain ⟨xs0, ex0⟩ := s.lists ha
  have hx : x < ρ.length := by rw [s.len]; exact lt_of_get hu
  have keep : ∀ b o, H0 b = some o → ¬ (b = c.p ∨ b = a) → upd H1 a (.lst xs') b = some o := fun b o q n => by
    rw [upd_ne fun z => n (.inr z)]
    exact e.keep b o q fun z => n (.inl z)
  have mm : ∀ b, (b = c.p ∨ b = a) → Mu (H0 b) := fun b z => by
    rcases z with z | z
    · rw [z]; exact s.feed.mu
    · rw [z, ex0]; trivial
  have newE : ∀ b ∈ fp2, c.E0 b = none ∧ ¬ c.N b ∧ ∀ k, k ≠ x → b ∉ fps k := fun b hb => by
    rcases h2 b hb with q | q
    · exact ⟨s.new x b q, s.nN x b q, fun k hk z => hk (s.dj k x b z q)⟩
    · refine ⟨?_, fun z => Mu.some s.mu z q, fun k hk z => ?_⟩
      · cases q' : c.E0 b with
        | none => rfl
        | some o =>
          by_cases hp : b = c.p
          · subst hp
            exact absurd q s.feed.some
          · have := s.ent b o q' hp
            rw [q] at this
            cases this
      · obtain ⟨xs, e'⟩ := s.lists z
        rw [q] at e'
        cases e'
  exact {
    len := by rw [List.length_set]; exact s.len
    slot := fun k w e1 => by
      rw [get_set] at e1
      by_cases q : x = k
      · subst q
        rw [if_pos ⟨rfl, hx⟩] at e1
        cases e1
        exact ⟨u, hu, hv⟩
      · rw [if_neg fun z => q z.1] at e1
        obtain ⟨w', h3, h4⟩ := s.slot k w e1
        refine ⟨w', h3, ?_⟩
        have qk : ¬ k = x := fun z => q z.symm
        cases w with
        | dat d al =>
          cases al with
          | none =>
            show Ow K _ (if k = x then fp2 else fps k) w' d
            rw [if_neg qk]
            refine Ow.keepP mm keep h4 fun b hb z => ?_
            rcases z with z | z
            · exact s.nfp k (z ▸ hb)
            · exact qk (s.dj k x a (z ▸ hb) ha)
          | some S =>
            refine Dq.same (hid_same fun b o n q2 => ⟨fun z => ?_, keep b o q2 fun z => ?_⟩) h4
            · rcases z with z | ⟨j, nj, z⟩
              · exact n (.inl z)
              · by_cases hj : j = x
                · simp only [hj, if_true] at z
                  rcases h2 b z with q3 | q3
                  · exact n (.inr ⟨x, by simp, q3⟩)
                  · rw [q3] at q2
                    cases q2
                · simp only [hj, if_false] at z
                  exact n (.inr ⟨j, nj, z⟩)
            · rcases z with z | z
              · exact n (.inl (z ▸ s.np))
              · exact n (.inr ⟨x, by simp, z ▸ ha⟩)
        | feed => exact h4
        | exc y => exact XV.keep h4 (fun b o n q2 => keep b o q2 fun z => n (by have m := mm b z; rw [q2] at m; exact m)) fun v d f q2 => (Dq.flat mm f q2).same fun b o e4 => keep b o (hid_some.mp e4).2 (hid_some.mp e4).1
    emp := fun k h => by
      by_cases q : k = x
      · subst q
        simp only [if_true]
        refine he fun d z => h d ?_
        rw [get_set, if_pos ⟨rfl, hx⟩, z]
      · simp only [q, if_false]
        refine s.emp k fun d z => h d ?_
        rw [get_set, if_neg fun w => q w.1.symm]
        exact z
    nd := fun k => by
      by_cases q : k = x
      · simp only [q, if_true]; exact hn
      · simp only [q, if_false]; exact s.nd k
    dj := fun j k b z1 z2 => by
      by_cases q : j = x
      · by_cases q2 : k = x
        · rw [q, q2]
        · simp only [q, if_true] at z1
          simp only [q2, if_false] at z2
          exact absurd z2 ((newE b z1).2.2 k q2)
      · by_cases q2 : k = x
        · simp only [q, if_false] at z1
          simp only [q2, if_true] at z2
          exact absurd z1 ((newE b z2).2.2 j q)
        · simp only [q, if_false] at z1
          simp only [q2, if_false] at z2
          exact s.dj j k b z1 z2
    new := fun k b z => by
      by_cases q : k = x
      · simp only [q, if_true] at z; exact (newE b z).1
      · simp only [q, if_false] at z; exact s.new k b z
    ent := fun b o q n => by
      rw [upd_ne fun z => by rw [z, s.new x a ha] at q; cases q]
      exact e.keep b o (s.ent b o q n) n
    p0 := s.p0
    tb := s.tb
    ce0 := s.ce0
    feed := by
      have f := e.feed
      refine ⟨by rw [upd_ne (fun z => nap z.symm)]; exact f.at_p, by rw [upd_ne (fun z => nace z.symm)]; exact f.at_ce, f.len, f.turn, f.ne⟩
    np := s.np
    mu := fun b z => by
      rw [upd_ne (show b ≠ a from fun w => s.nN x a ha (w ▸ z))]
      exact s1.mu b z
    nN := fun k b z => by
      by_cases q : k = x
      · simp only [q, if_true] at z; exact (newE b z).2.1
      · simp only [q, if_false] at z; exact s.nN k b z }
theorem OwAll.append : ∀ {vs ws : List V} {ds es : List PyData} {fp fp' : List Addr}, OwAll K H fp vs ds → OwAll K H fp' ws es → OwAll K H (fp ++ fp') (vs ++ ws) (ds ++ es)
  | _, _, [], _, _, _, h, q => by cases h; exact q
  | _, _, _ :: _, _, _, _, h, q => by
    cases h with
    | cons h1 h2 =>
      rw [List.append_assoc]
      exact .cons h1 (h2.append q)
theorem OwAll.set : ∀ {vs : List V} {ds : List PyData} {fp fpv : List Addr} {w : V} {d : PyData} (j : Nat), OwAll K H fp vs ds → Ow K H fpv w d → (fp ++ fpv).Nodup → ∃ fp', OwAll K H fp' (vs.set j w) (ds.set j d) ∧ (∀ a ∈ fp', a ∈ fp ∨ a ∈ fpv) ∧ fp'.Nodup
  | _, [], fp, fpv, w, d, j, h, q, n => by
    cases h
    exact ⟨[], by simp; exact .nil, fun a z => by simp at z, List.nodup_nil⟩
  | _, d0 :: ds, fp, fpv, w, d, 0, h, q, n => by
    cases h with
    | @cons f1 f2 v1 vs1 _ _ h1 h2 =>
      refine ⟨fpv ++ f2, .cons q h2, fun a z => ?_, ?_⟩
      · rcases List.mem_append.mp z with z | z
        · exact .inr z
        · exact .inl (by simp [z])
      · have n' := (List.nodup_append.mp n)
        have n1 := (List.nodup_append.mp n'.1)
        refine List.nodup_append.mpr ⟨n'.2.1, n1.2.1, fun a ha b hb z => ?_⟩
        exact n'.2.2 b (by simp [hb]) a ha z.symm
  | _, d0 :: ds, fp, fpv, w, d, j + 1, h, q, n => by
    cases h with
    | @cons f1 f2 v1 vs1 _ _ h1 h2 =>
      have n' := (List.nodup_append.mp n)
      have n1 := (List.nodup_append.mp n'.1)
      have n2 : (f2 ++ fpv).Nodup := List.nodup_append.mpr ⟨n1.2.1, n'.2.1, fun a ha b hb => n'.2.2 a (by simp [ha]) b hb⟩
      obtain ⟨f3, g1, g2, g3⟩ := OwAll.set j h2 q n2
      refine ⟨f1 ++ f3, .cons h1 g1, fun a z => ?_, List.nodup_append.mpr ⟨n1.1, g3, fun a ha b hb z => ?_⟩⟩
      · rcases List.mem_append.mp z with z | z
        · exact .inl (by simp [z])
        · rcases g2 a z with z | z
          · exact .inl (by simp [z])
          · exact .inr z
      · subst z
        rcases g2 a hb with z | z
        · exact n1.2.2 a ha a z rfl
        · exact n'.2.2 a (by simp [ha]) a z rfl
theorem ownL_some {ds : List PyData} (h : ownL ρ x = some ds) : ρ[x]? = some (some (.dat (.list ds) none)) := by
  unfold ownL at h
  split at h
  · rename_i q
    cases h
    exact q
  · cases h
theorem put_ow (s : Sim K c fps ρ F σ H0) (e : Aft c F1 H0 H1) (h : VOk K c fps H0 H1 u (.dat d al)) (ok : okPut d al = true) : ∃ fp, Ow K H1 fp u d ∧ fp.Nodup ∧ ∀ a ∈ fp, H0 a = none := by
  cases al with
  | none => exact h
  | some S => exact VOk.flat (s.aft e) h e (fun a z => s.avSome z) ok
theorem Sim.ownAt (s : Sim K c fps ρ F σ H) (h : ownL ρ x = some ds) : ∃ a xs fp, σ[x]? = some (some (.ref a)) ∧ H a = some (.lst xs) ∧ OwAll K H fp xs ds ∧ fps x = a :: fp := by
  obtain ⟨u, h1, h2⟩ := s.slot x _ (ownL_some h)
  have h2 : Ow K H (fps x) u (.list ds) := h2
  generalize hf : fps x = fx at h2
  cases h2 with
  | flat f _ => simp [flat] at f
  | @lst a fp xs _ h3 h4 => exact ⟨a, xs, fp, h1, h3, h4, rfl⟩
theorem OwAll.aft (s : Sim K c fps ρ F σ H0) (e : Aft c F1 H0 H1) (h : OwAll K H0 fp vs ds) (n : c.p ∉ fp) : OwAll K H1 fp vs ds :=
  OwAll.keepP (P := fun b => b = c.p) (fun b z => z ▸ s.feed.mu) (fun b o q z => e.keep b o q z) h fun a m z => n (z ▸ m)
theorem Sim.renew (s : Sim K c fps ρ F σ H0) (e : Aft c F1 H0 H1) {a : Addr} {xs xs' : List V} {ds' : List PyData} (h1 : σ[x]? = some (some (.ref a))) (h2 : H0 a = some (.lst xs)) (h4 : fps x = a :: fp) (h5 : OwAll K H1 fp' xs' ds') (h6 : ∀ b ∈ fp', b ∈ fp ∨ H0 b = none) (h7 : fp'.Nodup) :
    Sim K c (fun k => if k = x then a :: fp' else fps k) (ρ.set x (some (.dat (.list ds') none))) F1 σ (upd H1 a (.lst xs')) := by
  have nd := s.nd x
  rw [h4] at nd
  obtain ⟨nd1, nd2⟩ := List.nodup_cons.mp nd
  have na : a ∉ fp' := fun z => by
    rcases h6 a z with q | q
    · exact nd1 q
    · rw [h2] at q; cases q
  have hH1 : H1 a = some (.lst xs) := e.keep a _ h2 fun z => s.nfp x (by rw [h4, z]; simp)
  refine s.mutate (x := x) (u := .ref a) e (a := a) (by rw [h4]; simp) xs' (a :: fp') (fun b hb => ?_) (List.nodup_cons.mpr ⟨na, h7⟩) (.dat (.list ds') none) ?_ h1 (fun z => absurd rfl (z _))
  · rcases List.mem_cons.mp hb with rfl | hb
    · exact .inl (by rw [h4]; simp)
    · rcases h6 b hb with q | q
      · exact .inl (by rw [h4]; simp [q])
      · exact .inr q
  · show Ow K _ (if x = x then _ else _) _ _
    rw [if_pos rfl]
    exact .lst upd_same (OwAll.keepP (P := fun b => b = a) (fun b z => by rw [z, hH1]; trivial) (fun b o q n => by rw [upd_ne n]; exact q) h5 fun b hb z => na (z ▸ hb))
theorem nd_join {a : Addr} (nd : (a :: fp).Nodup) (h3 : OwAll K H0 fp vs ds) {fp1 : List Addr} (w3 : fp1.Nodup) (w4 : ∀ a ∈ fp1, H0 a = none) : (fp ++ fp1).Nodup := by
  refine List.nodup_append.mpr ⟨(List.nodup_cons.mp nd).2, w3, fun b hb b' hb' z => ?_⟩
  subst z
  obtain ⟨ys, e'⟩ := h3.lists b hb
  rw [w4 b hb'] at e'
  cases e'
theorem OwAll.dropLast : ∀ {vs : List V} {ds : List PyData} {fp : List Addr}, OwAll K H fp vs ds → fp.Nodup → ∃ fp', OwAll K H fp' vs.dropLast ds.dropLast ∧ (∀ a ∈ fp', a ∈ fp) ∧ fp'.Nodup
  | _, [], fp, h, n => by
    cases h
    exact ⟨[], .nil, fun a z => z, n⟩
  | _, [d], fp, h, n => by
    cases h with
    | cons h1 h2 =>
      cases h2
      exact ⟨[], .nil, fun a z => by simp at z, List.nodup_nil⟩
  | _, d :: d' :: ds, fp, h, n => by
    cases h with
    | @cons f1 f2 v1 vs1 _ _ h1 h2 =>
      have n1 := (List.nodup_append.mp n)
      obtain ⟨f3, g1, g2, g3⟩ := OwAll.dropLast h2 n1.2.1
      refine ⟨f1 ++ f3, ?_, fun a z => ?_, List.nodup_append.mpr ⟨n1.1, g3, fun a ha b hb => n1.2.2 a ha b (g2 b hb)⟩⟩
      · cases h2 with
        | cons _ _ => exact .cons h1 g1
      · rcases List.mem_append.mp z with z | z
        · simp [z]
        · simp [g2 a z]
theorem OwAll.reverse : ∀ {vs : List V} {ds : List PyData} {fp : List Addr}, OwAll K H fp vs ds → fp.Nodup → ∃ fp', OwAll K H fp' vs.reverse ds.reverse ∧ (∀ a ∈ fp', a ∈ fp) ∧ fp'.Nodup
  | _, [], fp, h, n => by
    cases h
    exact ⟨[], .nil, fun a z => z, n⟩
  | _, d :: ds, fp, h, n => by
    cases h with
    | @cons f1 f2 v1 vs1 _ _ h1 h2 =>
      have n1 := (List.nodup_append.mp n)
      obtain ⟨f3, g1, g2, g3⟩ := OwAll.reverse h2 n1.2.1
      refine ⟨f3 ++ (f1 ++ []), ?_, fun a z => ?_, ?_⟩
      · rw [List.reverse_cons, List.reverse_cons]
        exact g1.append (.cons h1 .nil)
      · simp only [List.append_nil, List.mem_append] at z
        rcases z with z | z
        · simp [g2 a z]
        · simp [z]
      · simp only [List.append_nil]
        exact List.nodup_append.mpr ⟨g3, n1.1, fun a ha b hb z => n1.2.2 b hb a (g2 a ha) z.symm⟩
end
section
variable {G : Gx} {X : Cx} {pos : Pos}
theorem s_app {y : Str} {e : Expr} {ie : IE} {p1 apos cpos : Pos} (x : Nat) (he : QE G X e ie) (hN : X.N[x]? = some y := by rfl) (hv : Vis X.env.scope y := by first | exact Or.inl rfl | exact Or.inr (Or.inl rfl) | exact Or.inr (Or.inr rfl)) (hd : (y == ("__debug__" : Str)) = false := by decide) (hcd : (y == ("__classdict__" : Str)) = false := by decide)
    (hbase : attributeBase (.Name y p1) "append" X.env (eval (.Name y p1) X.env) = eval (.Name y p1) X.env := by rfl)
    (hfew : ((backTo cpos (starEach [e] X.env)).all (fun x => !x.1) && (backToKw cpos (keywordEach [] X.env)).all (fun x => x.1.isSome)
      && decide ([e].length + ([] : List Keyword).length + (if ([] : List Keyword).isEmpty then 0 else 1) < 30)) = true := by rfl)
    (hline : (apos.endLine == cpos.line) = true := by rfl) (hst : starEach [e] X.env = (false, eval e X.env) :: starEach [] X.env := by rfl) (hplain : (backTo cpos (starEach [] X.env)).any (·.1) = false := by rfl)
    (hs : swapsWith (.Call (.Attribute (.Name y p1) "append" apos) [e] [] cpos) none pos.line X.env = pure false := by rfl) :
    QS G X (.Expr (.Call (.Attribute (.Name y p1) "append" apos) [e] [] cpos) pos) (.app x ie) := by
  obtain ⟨te, pe, he⟩ := he
  refine ⟨_, ps_expr (pe_bm PySem.F.plainAttrs_list PySem.F.slot_list_append PySem.F.type_list_append mt_append (pe_var hN hv hd hcd) (pa_cons pe pa_nil hst) hbase hfew hline hst hplain) hs, fun c fps ρ F σ H D s h => ?_⟩
  unfold PostS at h
  simp only [evS] at h
  obtain ⟨ds, ho, g⟩ := h.of
  obtain ⟨a, xs, fp, h1, h2, h3, h4⟩ := s.ownAt ho
  refine ⟨.ref a, h1, .inl ⟨rfl, xs, SqL.of h2⟩, ?_⟩
  refine he c fps ρ F σ H _ s ((g.bind.aft s.e0).mono fun v1 F1 g1 u1 H1 e1 w1 => ?_)
  obtain ⟨d, al, ev, g2⟩ := g1.dat
  subst ev
  by_cases hz : ds.length < sizeLine ∧ okPut d al = true
  · rw [if_pos hz] at g2
    obtain ⟨fp1, w2, w3, w4⟩ := put_ow s e1 w1 hz.2
    have np : c.p ∉ fp := fun z => s.nfp x (by rw [h4]; simp [z])
    have nd := s.nd x
    rw [h4] at nd
    refine ⟨a, xs, u1, rfl, rfl, e1.keep a _ h2 fun z => s.nfp x (by rw [h4, z]; simp), by rw [h3.length]; exact hz.1, ?_⟩
    refine g2 _ _ _ (s.renew (ds' := ds ++ [d]) e1 h1 h2 h4 ((OwAll.aft s e1 h3 np).append (.cons w2 .nil)) (fun b hb => ?_) ?_)
    · simp only [List.append_nil, List.mem_append] at hb
      rcases hb with hb | hb
      · exact .inl hb
      · exact .inr (w4 b hb)
    · simp only [List.append_nil]
      exact nd_join nd h3 w3 w4
  · rw [if_neg hz] at g2
    exact g2.elim
theorem int_of {K : PySem.W.Frag} {c : Amb} {fps : Nat → List Addr} {H0 H : Hp} {u : V} {k : Int} {al : Al} (h : VOk K c fps H0 H u (.dat (.int k) al)) : u = .int k := by
  cases al with
  | none =>
    obtain ⟨fp, h1, _⟩ := h
    cases h1 with
    | flat _ q => cases q; rfl
  | some S => cases h; rfl
theorem s_if {t : Expr} {it : IE} {a b : List Stmt} {ia ib : ISs} (ht : QT G X t it) (ha : QSs G X a ia) (hb : QSs G X b ib) : QS G X (.If t a b pos) (.ite it ia ib) := by
  obtain ⟨tt, pt, ht⟩ := ht
  obtain ⟨ta, pa, ha⟩ := ha
  obtain ⟨tb, pb, hb⟩ := hb
  refine ⟨_, ps_if pt pa pb, fun c fps ρ F σ H D s h => ?_⟩
  unfold PostS at h
  simp only [evS] at h
  refine ht c fps ρ F σ H _ s ?_
  cases q : evE G.cfg it ρ F with
  | stuck => rw [q] at h; exact h.elim
  | exc x F1 => rw [q] at h; exact fun H' e => h H' (s.e0.trans e)
  | ok v F1 =>
    rw [q] at h
    obtain ⟨k, ek, g⟩ := PostM.of h
    show PostM _ _ _ (R.of (truV v) F1) _
    rw [ek]
    intro H1 e1
    have s1 := s.aft e1
    cases k with
    | true => exact ha c fps ρ F1 σ H1 D s1 g
    | false => exact hb c fps ρ F1 σ H1 D s1 g
theorem whileR_n {test : Env → Feed → R Bool} {body : Env → Feed → R Fl} {ρ : Env} {F : Feed} (h : whileR test body ρ F ≠ .stuck) : ∃ n, whileR test body ρ F = whileN test body n ρ F := by
  unfold whileR at h ⊢
  split
  · exact ⟨_, rfl⟩
  · rename_i q
    simp [q] at h
theorem s_while {t : Expr} {it : IE} {b : List Stmt} {ib : ISs} (hp : PassesOwn (model X.prog X.w) X.A X.env X.xe) (ht : QT G X t it) (hb : QSs G X b ib) : QS G X (.While t b [] pos) (.whl it ib) := by
  obtain ⟨tt, pt, ht⟩ := ht
  obtain ⟨tb, pb, hb⟩ := hb
  refine ⟨_, ps_while hp pt pb, fun c fps ρ F σ H D s h => ?_⟩
  unfold PostS at h
  simp only [evS] at h
  have hns : whileR (fun ρ F => (evE G.cfg it ρ F).bind fun v F => R.of (truV v) F) (fun ρ F => evSs G.cfg ib ρ F) ρ F ≠ .stuck := fun z => by rw [z] at h; exact h
  obtain ⟨n, en⟩ := whileR_n hns
  rw [en] at h
  refine ⟨fun m σ H => ∃ fps ρ F, Sim X.K c fps ρ F σ H ∧ PostS X.K c G.W D (whileN (fun ρ F => (evE G.cfg it ρ F).bind fun v F => R.of (truV v) F) (fun ρ F => evSs G.cfg ib ρ F) m ρ F), ⟨n, fps, ρ, F, s, h⟩, ?_⟩
  rintro m σ H ⟨fps, ρ, F, s, h⟩
  cases m with
  | zero => exact h.elim
  | succ m =>
    unfold PostS at h
    simp only [whileN] at h
    refine ht c fps ρ F σ H _ s ((h.bind.aft s.e0).mono fun k F1 g H1 e1 => ?_)
    have s1 := s.aft e1
    cases k with
    | false =>
      rw [if_neg (by decide)]
      exact g fps σ H1 s1
    | true =>
      rw [if_pos rfl]
      refine ⟨fun σ' H' => ∃ fps ρ F, Sim X.K c fps ρ F σ' H' ∧ PostS X.K c G.W D (whileN (fun ρ F => (evE G.cfg it ρ F).bind fun v F => R.of (truV v) F) (fun ρ F => evSs G.cfg ib ρ F) m ρ F), fun σ' H' q => ⟨m, by omega, q⟩, ?_⟩
      refine hb c fps ρ F1 σ H1 _ s1 (PostM.mono (PostM.bind g) fun fl F2 g2 => ?_)
      cases fl with
      | next ρ' => exact fun f σ' H' s' => ⟨f, ρ', F2, s', g2⟩
      | cont ρ' => exact fun f σ' H' s' => ⟨f, ρ', F2, s', g2⟩
      | brk ρ' => exact g2
      | ret v => exact g2
theorem VOk.out {K : PySem.W.Frag} {c : Amb} {fps : Nat → List Addr} {ρ : Env} {F F' : Feed} {σ : L2.St} {H H' : Hp} {u : V} {v : Val} (s : Sim K c fps ρ F σ H) (h : VOk K c fps H H' u v) : VOk K c (fun _ => []) c.E0 H' u v := by
  cases v with
  | dat d al =>
    cases al with
    | none =>
      obtain ⟨fp, h1, h2, h3⟩ := h
      exact ⟨fp, h1, h2, fun a z => back_none s.e0 s.feed.some (h3 a z)⟩
    | some S =>
      refine Dq.same (hid_mono fun a z => ?_) h
      rcases z with z | ⟨j, _, z⟩
      · exact .inl z
      · simp at z
  | feed => exact h
  | exc x => exact h
theorem SlotOk.out {K : PySem.W.Frag} {c : Amb} {fps : Nat → List Addr} {ρ : Env} {F : Feed} {σ : L2.St} {H : Hp} {u : V} {v : Val} {i : Nat} (s : Sim K c fps ρ F σ H) (h : SlotOk K c fps H i u v) : VOk K c (fun _ => []) c.E0 H u v := by
  cases v with
  | dat d al =>
    cases al with
    | none => exact ⟨fps i, h, s.nd i, fun a z => s.new i a z⟩
    | some S =>
      refine Dq.same (hid_mono fun a z => ?_) h
      rcases z with z | ⟨j, _, z⟩
      · exact .inl z
      · simp at z
  | feed => exact h
  | exc x => exact h
theorem s_ret {e : Expr} {ie : IE} (he : QE G X e ie) (hv : ∀ i, ie ≠ .var i := by intro i z; cases z) : QS G X (.Return (some e) pos) (.ret ie) := by
  obtain ⟨te, pe, he⟩ := he
  refine ⟨_, ps_ret pe, fun c fps ρ F σ H D s h => ?_⟩
  unfold PostS at h
  have e1 : evS G.cfg (.ret ie) ρ F = (evE G.cfg ie ρ F).bind fun v F => .ok (.ret v) F := by
    cases ie <;> first | rfl | exact absurd rfl (hv _)
  rw [e1] at h
  exact he c fps ρ F σ H _ s ((h.bind.aft s.e0).mono fun v1 F1 g1 u1 H1 e1 w1 => g1 u1 H1 (s.e0.trans e1) (VOk.out (F' := F1) s w1))
theorem s_retV {x : Str} {p1 : Pos} (i : Nat) (hN : X.N[i]? = some x := by rfl) (hv : Vis X.env.scope x := by first | exact Or.inl rfl | exact Or.inr (Or.inl rfl) | exact Or.inr (Or.inr rfl)) (hd : (x == ("__debug__" : Str)) = false := by decide) (hcd : (x == ("__classdict__" : Str)) = false := by decide) : QS G X (.Return (some (.Name x p1)) pos) (.ret (.var i)) := by
  refine ⟨_, ps_ret (pe_var hN hv hd hcd), fun c fps ρ F σ H D s h => ?_⟩
  unfold PostS at h
  simp only [evS] at h
  cases q : ρ[i]? with
  | none => rw [q] at h; exact h.elim
  | some o =>
    cases o with
    | none => rw [q] at h; exact h.elim
    | some v =>
      rw [q] at h
      obtain ⟨u, h1, h2⟩ := s.slot i v q
      exact ⟨u, h1, h u H s.e0 (SlotOk.out s h2)⟩
end
end Pv
namespace Pv
open PySem L2
variable [Tabs]
structure ItOk (K : PySem.W.Frag) (N : Addr → Prop) (H1 : Hp) (J : It) (ds : List PyData) : Prop where
  go : ∀ i H, i < ds.length → Same (hid N H1) H → J.go i H
  stop : ∀ H, Same (hid N H1) H → J.stop ds.length H
  yld : ∀ i d H x H' (N2 : Addr → Prop), ds[i]? = some d → Same (hid N H1) (hid N2 H) → (∀ a, N2 a → Mu (H a)) → J.yld i H x H' → Same H H' ∧ Dq K (hid N2 H') x d
def QI (G : Gx) (X : Cx) (tg iter : Expr) (it : IT) : Prop :=
  ∃ wi : TI, PI X tg iter wi ∧ ∀ (c : Amb) (fps : Nat → List Addr) (ρ : Env) (F : Feed) (σ : L2.St) (H : Hp) (Rr : It → Hp → Prop), Sim X.K c fps ρ F σ H →
    PostM c G.W H (evI G.cfg it ρ F) (fun p F' => ∀ J H', Aft c F' H H' → ItOk X.K (av c fps p.2) H' J p.1 → Rr J H') → wi σ H Rr
section
variable {K : PySem.W.Frag} {N : Addr → Prop} {H1 : Hp} {a b : Addr} {xs ys : List V} {ds es : List PyData}
theorem rngI_get {lo : Int} {n i : Nat} {d : PyData} (e : (rngI lo n)[i]? = some d) : d = .int (lo + (i : Int)) := by
  unfold rngI at e
  rw [List.getElem?_map] at e
  cases q : (List.range n)[i]? with
  | none => rw [q] at e; cases e
  | some j =>
    rw [q] at e
    cases e
    have := (List.getElem?_eq_some_iff.mp q).2
    simp at this
    rw [this]
theorem it_rng (lo : Int) (n : Nat) : ItOk K N H1 (Itr lo n) (rngI lo n) where
  go := fun i H hi sm => by
    have : (rngI lo n).length = n := by simp [rngI]
    rw [this] at hi
    exact hi
  stop := fun H sm => by
    have : (rngI lo n).length = n := by simp [rngI]
    rw [this]
    exact Nat.le_refl n
  yld := fun i d H x H' N2 ed sm m y => by
    obtain ⟨rfl, rfl⟩ := y
    rw [rngI_get ed]
    exact ⟨Same.refl _, .int _⟩
end
section
variable {G : Gx} {X : Cx} {pos p tpos : Pos} {tg e e2 : Expr} {ie ie2 : IE}
theorem i_rng1 (he : QE G X e ie) (hm : X.mg "range" = none) (hg : Gl X "range" := by rfl) (hs : starEach [e] X.env = [(false, eval e X.env)] := by rfl) (hs' : starEach [e] X.env = (false, eval e X.env) :: starEach [] X.env := by rfl) : QI G X tg (.Call (.Name "range" p) [e] [] pos) (.rng (.cons ie .nil)) := by
  obtain ⟨te, pe, he⟩ := he
  refine ⟨_, pi_range1 hg hm (pa_cons pe pa_nil hs') hs, fun c fps ρ F σ H Rr s h => ?_⟩
  simp only [evI, evEs] at h
  refine he c fps ρ F σ H _ s (h.bind.bind.mono fun v F1 g u H1 e1 w => ?_)
  obtain ⟨pp, ep, g2⟩ := PostM.of (show PostM _ _ _ _ _ from g)
  obtain ⟨ds, ed, g3⟩ := g2.of
  cases v with
  | dat d al =>
    simp only [datsV, Option.map_some, Option.some.injEq] at ep
    subst ep
    cases d with
    | int j =>
      have := int_of w
      subst this
      simp only [rngD] at ed
      by_cases hj : okR j = true
      · rw [if_pos hj] at ed
        cases ed
        have hj' := of_decide_eq_true hj
        exact ⟨j, rfl, hj'.1, hj'.2, g3 _ H1 e1 (it_rng 0 j.toNat)⟩
      · rw [if_neg hj] at ed
        cases ed
    | _ => simp [rngD] at ed
  | feed => simp [datsV] at ep
  | exc x => simp [datsV] at ep
noncomputable def Amb.loop (c : Amb) (fps : Nat → List Addr) (H : Hp) : Amb := { c with E0 := hid (fun a => ∃ j, a ∈ fps j) H }
theorem loop_some {c : Amb} {fps : Nat → List Addr} {H : Hp} {a : Addr} {o : HO} : (c.loop fps H).E0 a = some o ↔ (¬ ∃ j, a ∈ fps j) ∧ H a = some o := hid_some (N := fun a => ∃ j, a ∈ fps j)
theorem Sim.loop {K : PySem.W.Frag} {c : Amb} {fps : Nat → List Addr} {ρ : Env} {F : Feed} {σ : L2.St} {H : Hp} (s : Sim K c fps ρ F σ H) : Sim K (c.loop fps H) fps ρ F σ H where
  len := s.len
  slot := fun i v h => s.slot i v h
  emp := s.emp
  nd := s.nd
  dj := s.dj
  new := fun i a h => by
    cases q : (c.loop fps H).E0 a with
    | none => rfl
    | some o => exact absurd ⟨i, h⟩ (loop_some.mp q).1
  ent := fun b o h n => (loop_some.mp h).2
  tb := fun q h => ⟨(s.tb q h).1, loop_some.mpr ⟨fun ⟨j, m⟩ => (by have z := (s.tb q h).2; rw [s.new j q m] at z; cases z), s.ent q _ (s.tb q h).2 (s.tb q h).1⟩⟩
  p0 := fun z => by
    cases q : H c.p with
    | none => exact s.feed.some q
    | some o =>
      have : (c.loop fps H).E0 c.p = some o := loop_some.mpr ⟨fun ⟨j, m⟩ => s.nfp j m, q⟩
      rw [show (c.loop fps H).E0 (c.loop fps H).p = (c.loop fps H).E0 c.p from rfl, this] at z
      cases z
  ce0 := fun z => by
    have : (c.loop fps H).E0 c.ce = some (.lst (F.cells.map V.int)) := loop_some.mpr ⟨fun ⟨j, m⟩ => s.ce0 (s.new j _ m), s.feed.at_ce⟩
    rw [show (c.loop fps H).E0 (c.loop fps H).ce = (c.loop fps H).E0 c.ce from rfl, this] at z
    cases z
  feed := s.feed
  np := s.np
  mu := s.mu
  nN := s.nN
section
variable {K : PySem.W.Frag} {c : Amb} {fps fps' : Nat → List Addr} {ρ ρ' : Env} {F F' : Feed} {σ σ' : L2.St} {H H' : Hp} {u : V} {v : Val}
theorem loop_e0 (s : Sim K c fps ρ F σ H) {b : Addr} {o : HO} (h : c.E0 b = some o) (n : b ≠ c.p) : (c.loop fps H).E0 b = some o :=
  loop_some.mpr ⟨fun ⟨j, m⟩ => (by have h' := h; rw [s.new j b m] at h'; cases h'), s.ent b o h n⟩
theorem loop_none (s : Sim K c fps ρ F σ H) {b : Addr} (h : (c.loop fps H).E0 b = none) : c.E0 b = none := by
  cases q : c.E0 b with
  | none => rfl
  | some o =>
    by_cases z : b = c.p
    · subst z
      exact absurd h s.loop.p0
    · rw [loop_e0 s q z] at h
      cases h
theorem Sim.unloop (s : Sim K c fps ρ F σ H) (t : Sim K (c.loop fps H) fps' ρ' F' σ' H') : Sim K c fps' ρ' F' σ' H' where
  len := t.len
  slot := fun i v h => t.slot i v h
  emp := t.emp
  nd := t.nd
  dj := t.dj
  new := fun i a h => loop_none s (t.new i a h)
  ent := fun b o h n => t.ent b o (loop_e0 s h n) n
  p0 := s.p0
  tb := s.tb
  ce0 := s.ce0
  feed := t.feed
  np := t.np
  mu := t.mu
  nN := t.nN
theorem Aft.unloop (s : Sim K c fps ρ F σ H) (e : Aft (c.loop fps H) F' (c.loop fps H).E0 H') : Aft c F' c.E0 H' := ⟨fun b o h n => e.keep b o (loop_e0 s h n) n, e.feed⟩
theorem VOk.unloop (s : Sim K c fps ρ F σ H) (h : VOk K (c.loop fps H) (fun _ => []) (c.loop fps H).E0 H' u v) : VOk K c (fun _ => []) c.E0 H' u v := by
  cases v with
  | dat d al =>
    cases al with
    | none =>
      obtain ⟨fp, h1, h2, h3⟩ := h
      exact ⟨fp, h1, h2, fun a z => loop_none s (h3 a z)⟩
    | some S => exact h
  | feed => exact h
  | exc x => exact h
theorem PostS.loop {W : Exc → Feed → Hp → Prop} {D : Ends} {m : R Fl} (s : Sim K c fps ρ F σ H) (h : PostS K c W D m) : PostS K (c.loop fps H) W D m := by
  unfold PostS at h ⊢
  cases m with
  | stuck => exact h
  | exc x F1 => exact fun H' e => h H' (Aft.unloop s e)
  | ok fl F1 =>
    cases fl with
    | next ρ' => exact fun f σ' H' t => h f σ' H' (s.unloop t)
    | brk ρ' => exact fun f σ' H' t => h f σ' H' (s.unloop t)
    | cont ρ' => exact fun f σ' H' t => h f σ' H' (s.unloop t)
    | ret v => exact fun u H' e w => h u H' (Aft.unloop s e) (VOk.unloop s w)
theorem Sim.seen (s : Sim K c fps ρ F σ H) (t : Sim K (c.loop fps H) fps' ρ' F' σ' H') : Same (hid (av c fps []) H) (hid (av (c.loop fps H) fps' []) H') := hid_same fun a o n q => by
  have na : ¬ ∃ j, a ∈ fps j := fun ⟨j, m⟩ => n (.inr ⟨j, by simp, m⟩)
  have ea : (c.loop fps H).E0 a = some o := loop_some.mpr ⟨na, q⟩
  refine ⟨fun z => ?_, t.ent a o ea fun z => n (.inl (z ▸ s.np))⟩
  rcases z with z | ⟨j, _, m⟩
  · exact n (.inl z)
  · rw [t.new j a m] at ea
    cases ea
end
theorem s_for {iter : Expr} {src : IT} {it : Tg} {b : List Stmt} {ib : ISs} (hp : PassesOwn (model X.prog X.w) X.A X.env X.xe) (hi : QI G X tg iter src) (hg : QG G X tg it) (hb : QSs G X b ib) (hc : X.calm = true := by rfl) (hs : ∀ x, foldedSetIterable iter X.env x = pure x := by intro _; rfl) : QS G X (.For tg iter b [] pos) (.for_ src it ib) := by
  obtain ⟨wi, pi, hi⟩ := hi
  obtain ⟨g, pg, hg⟩ := hg
  obtain ⟨tb, pb, hb⟩ := hb
  refine ⟨_, ps_for hp hc pi pg pb hs, fun c fps ρ F σ H D s h => ?_⟩
  unfold PostS at h
  simp only [evS] at h
  refine hi c fps ρ F σ H _ s ((h.bind.aft s.e0).mono fun pp F1 g1 J H1 e1 ok => ?_)
  have s1 := s.aft e1
  obtain ⟨f, sf, z1, z2⟩ := s1.freeze pp.2
  have sl := sf.loop
  have g1 : PostS X.K (c.loop f H1) G.W D (forR it (fun ρ F => evSs G.cfg ib ρ F) pp.1 (freeze pp.2 ρ) F1) := PostS.loop sf g1
  have ok : ItOk X.K (av c f []) H1 J pp.1 := by
    have sub : Same (hid (av c fps pp.2) H1) (hid (av c f []) H1) := hid_mono fun a z => av_sub z1 z2 z
    exact ⟨fun i H hi sm => ok.go i H hi (fun a o q => sm a o (sub a o q)), fun H sm => ok.stop H (fun a o q => sm a o (sub a o q)), fun i d H x H' N2 ed sm m y => ok.yld i d H x H' N2 ed (fun a o q => sm a o (sub a o q)) m y⟩
  refine ⟨fun i m σ' H' => m = pp.1.length - i ∧ i ≤ pp.1.length ∧ ∃ f' ρ' F', Sim X.K (c.loop f H1) f' ρ' F' σ' H' ∧ PostS X.K (c.loop f H1) G.W D (forR it (fun ρ F => evSs G.cfg ib ρ F) (pp.1.drop i) ρ' F'), ⟨_, rfl, Nat.zero_le _, f, _, F1, sl, by rw [List.drop_zero]; exact g1⟩, ?_⟩
  rintro i m σ' H' ⟨rfl, hle, f', ρ', F', t, g2⟩
  have seen := sf.seen t
  by_cases hlt : i < pp.1.length
  · refine .inr ⟨ok.go i H' hlt (fun a o q => hid_un _ _ (seen a o q)), fun σ' H' => ∃ f' ρ' F', Sim X.K (c.loop f H1) f' ρ' F' σ' H' ∧ PostS X.K (c.loop f H1) G.W D (forR it (fun ρ F => evSs G.cfg ib ρ F) (pp.1.drop (i + 1)) ρ' F'), fun σ'' H'' q => ⟨pp.1.length - (i + 1), by omega, rfl, hlt, q⟩, fun x H2 y => ?_⟩
    have hd : pp.1[i]? = some pp.1[i] := by simp [hlt]
    obtain ⟨sm, dx⟩ := ok.yld i _ H' x H2 _ hd seen (fun a z => t.avMu [] a z) y
    have e2 : Aft (c.loop f H1) F' H' H2 := Aft.of t.feed sm
    have t2 := t.aft e2
    rw [List.drop_eq_getElem_cons hlt] at g2
    unfold PostS at g2
    simp only [forR] at g2
    obtain ⟨ρ2, eb, g3⟩ := g2.of
    refine hg (c.loop f H1) f' ρ' F' σ' H2 x _ [] ρ2 _ t2 dx eb fun f3 σ3 t3 _ _ _ => ?_
    refine hb (c.loop f H1) f3 ρ2 F' σ3 H2 _ t3 (PostM.mono (PostM.bind g3) fun fl F2 g4 => ?_)
    cases fl with
    | next ρ'' => exact fun f4 σ4 H4 t4 => ⟨f4, ρ'', F2, t4, g4⟩
    | cont ρ'' => exact fun f4 σ4 H4 t4 => ⟨f4, ρ'', F2, t4, g4⟩
    | brk ρ'' => exact g4
    | ret v => exact g4
  · have : i = pp.1.length := by omega
    subst this
    rw [List.drop_length] at g2
    exact .inl ⟨ok.stop H' (fun a o q => hid_un _ _ (seen a o q)), g2 f' σ' H' t⟩
end
end Pv
namespace Pv
open PySem L2
variable [Tabs]
def tE (G : Gx) (K : PySem.W.Frag) (ie : IE) : TE := fun σ H Q => ∃ (c : Amb) (fps : Nat → List Addr) (ρ : Env) (F : Feed), Sim K c fps ρ F σ H ∧
  PostM c G.W H (evE G.cfg ie ρ F) (fun v F' => ∀ u H', Aft c F' H H' → VOk K c fps H H' u v → Q u H')
def tG (K : PySem.W.Frag) (it : Tg) : TG := fun u σ H Q => ∃ (c : Amb) (fps : Nat → List Addr) (ρ : Env) (F : Feed) (d : PyData) (S : List Nat) (ρ' : Env), Sim K c fps ρ F σ H ∧ Dq K (hid (av c fps S) H) u d ∧ bindT it d (some S) ρ = some ρ' ∧
  ∀ fps' σ', Sim K c fps' ρ' F σ' H → (∀ k, fps' k = [] ∨ fps' k = fps k) → (∀ k, k ∉ tgV it → σ'[k]? = σ[k]?) → (∀ k, k ∉ S → k ∉ tgV it → fps' k = fps k) → Q σ' H
def tC' (G : Gx) (K : PySem.W.Frag) (ies : IEs) : TT := fun σ H Q => ∃ (c : Amb) (fps : Nat → List Addr) (ρ : Env) (F : Feed), Sim K c fps ρ F σ H ∧
  PostM c G.W H (evC G.cfg ies ρ F) (fun k F' => ∀ H', Aft c F' H H' → Q k H')
section
variable {G : Gx} {X : Cx} {pos : Pos} {tg e iter elt : Expr} {ie : IE} {it : Tg}
theorem QE.pe (h : QE G X e ie) : PE X e (tE G X.K ie) := by
  obtain ⟨t, p, h⟩ := h
  intro pins s σ H Q I ⟨c, fps, ρ, F, sm, q⟩
  exact p pins s σ H Q I (h c fps ρ F σ H Q sm q)
theorem QG.pg (h : QG G X tg it) : PG X tg (tG X.K it) := by
  obtain ⟨t, p, h⟩ := h
  intro pins s σ H v u Q I r ⟨c, fps, ρ, F, d, S, ρ', sm, dq, eb, q⟩
  exact p pins s σ H v u Q I r (h c fps ρ F σ H v d S ρ' Q sm dq eb q)
def QC (G : Gx) (X : Cx) (ifs : List Expr) (ies : IEs) : Prop := PTs X ifs (tC' G X.K ies)
def Amb.blk (c : Amb) (D : Addr) (vs : List Nat) (fps : Nat → List Addr) : Amb := { c with N := fun a => c.N a ∨ a = D ∨ ∃ k ∈ vs, a ∈ fps k }
def fpsB (vs : List Nat) (fps : Nat → List Addr) : Nat → List Addr := fun k => if k ∈ vs then [] else fps k
section
variable {K : PySem.W.Frag} {c : Amb} {fps : Nat → List Addr} {ρ : Env} {F F' : Feed} {σ σ' : L2.St} {H H1 : Hp} {D : Addr} {vs S : List Nat} {acc : List V}
end
end
end Pv
namespace Pv
open PySem L2
variable [Tabs]
def Gx.nox (G : Gx) : Gx := ⟨G.cfg, fun _ _ _ => False⟩
noncomputable def turnR (c : Cfg) (it : Tg) (S vs : List Nat) (cond : IEs) (elt : IE) (ρ : Env) : PyData → Feed → R (Option (PyData × Al)) := fun d F =>
  (R.of (bindT it d (some S) (wipeE ρ vs)) F).bind fun ρ' F => (evC c cond ρ' F).bind fun k F => if k then (evE c elt ρ' F).bind fun v F => (R.of (valD v) F).bind fun q F => .ok (some (q.1, srcAl S q.2)) F else .ok none F
theorem store_len (ρ : Env) (i : Nat) (v : Val) : (store ρ i v).length = ρ.length := by
  cases v with
  | dat d al =>
    cases al with
    | none => simp [store]
    | some S =>
      show (if flat d = true then ρ.set i (some (.dat d none)) else (freeze S ρ).set i (some (.dat d (some [])))).length = _
      split <;> simp [freeze_len]
  | feed => simp [store]
  | exc x => simp [store]
mutual
theorem bindT_len : ∀ {it : Tg} {d : PyData} {al : Al} {ρ ρ' : Env}, bindT it d al ρ = some ρ' → ρ'.length = ρ.length
  | .nm i, d, al, ρ, ρ', h => by
    simp only [bindT, Option.some.injEq] at h
    rw [← h, store_len]
  | .tp ts, .tuple ds, al, ρ, ρ', h => by
    simp only [bindT] at h
    exact bindTs_lenE h
  | .tp ts, .none, al, ρ, ρ', h => by simp [bindT] at h
  | .tp ts, .bool _, al, ρ, ρ', h => by simp [bindT] at h
  | .tp ts, .int _, al, ρ, ρ', h => by simp [bindT] at h
  | .tp ts, .str _, al, ρ, ρ', h => by simp [bindT] at h
  | .tp ts, .list _, al, ρ, ρ', h => by simp [bindT] at h
  | .tp ts, .dict _, al, ρ, ρ', h => by simp [bindT] at h
theorem bindTs_lenE : ∀ {its : Tgs} {ds : List PyData} {al : Al} {ρ ρ' : Env}, bindTs its ds al ρ = some ρ' → ρ'.length = ρ.length
  | .nil, [], al, ρ, ρ', h => by
    simp only [bindTs, Option.some.injEq] at h
    rw [h]
  | .nil, _ :: _, al, ρ, ρ', h => by simp [bindTs] at h
  | .cons t ts, [], al, ρ, ρ', h => by simp [bindTs] at h
  | .cons t ts, d :: ds, al, ρ, ρ', h => by
    simp only [bindTs] at h
    cases e : bindT t d al ρ with
    | none => rw [e] at h; cases h
    | some ρ1 =>
      rw [e] at h
      rw [bindTs_lenE (show bindTs ts ds al ρ1 = some ρ' from h), bindT_len e]
end
section
variable {K : PySem.W.Frag} {c : Amb} {fps f3 : Nat → List Addr} {ρ : Env} {F F' : Feed} {σ : L2.St} {H H' H1 H3 H4 : Hp} {D : Addr} {vs S : List Nat} {acc : List V} {ds : List PyData} {al : Al} {fp : List Addr} {u : V} {d : PyData}
structure Acc (K : PySem.W.Frag) (c : Amb) (D : Addr) (vs : List Nat) (fps : Nat → List Addr) (H1 H : Hp) (acc : List V) (ds : List PyData) (al : Al) (fp : List Addr) : Prop where
  dq : DqAll K (hid (av (c.blk D vs fps) (fpsB vs fps) (al.getD [])) H) acc ds
  own : al = none → OwAll K H fp acc ds
  nd : fp.Nodup
  new : ∀ a ∈ fp, H1 a = none ∧ a ≠ D
theorem Acc.more {ρ' ρB : Env} {F3 FB : Feed} {σ3 σB : L2.St} {al' : Al} (s : Sim K c fps ρ F σ H1) (sB : Sim K (c.blk D vs fps) (fpsB vs fps) ρB FB σB H3) (e4 : Aft (c.blk D vs fps) F' H3 H4) (w : VOk K (c.blk D vs fps) f3 H3 H4 u (.dat d al')) (k3 : ∀ b o, H1 b = some o → b ≠ c.p → H3 b = some o) (hD3 : H3 D ≠ none)
    (sh : ∀ k, k ∉ S → k ∉ vs → f3 k = fpsB vs fps k) (h : Acc K c D vs fps H1 H4 acc ds al fp) (hfp : al = none → ∀ a ∈ fp, H3 a ≠ none) : ∃ fp', Acc K c D vs fps H1 H4 (acc ++ [u]) (ds ++ [d]) (joinAl al (srcAl S al')) fp' := by
  have s4 := sB.aft e4
  have subS : ∀ S' a, av (c.blk D vs fps) (fpsB vs fps) (S' ++ S) a → av (c.blk D vs fps) f3 S' a := fun S' a z => by
    rcases z with z | ⟨k, n, z⟩
    · exact .inl z
    · have hk : k ∉ vs := fun q => by
        unfold fpsB at z
        rw [if_pos q] at z
        simp at z
      refine .inr ⟨k, fun q => n (by simp [q]), ?_⟩
      rw [sh k (fun q => n (by simp [q])) hk]
      exact z
  have dx : Dq K (hid (av (c.blk D vs fps) (fpsB vs fps) ((srcAl S al').getD [])) H4) u d := by
    cases al' with
    | none =>
      obtain ⟨f, h1, h2, h3⟩ := w
      exact h1.dq (s4.avMu _) fun a m z => sB.avSome z (h3 a m)
    | some S' => exact Dq.same (hid_mono fun a z => subS S' a z) w
  have dq : DqAll K (hid (av (c.blk D vs fps) (fpsB vs fps) ((joinAl al (srcAl S al')).getD [])) H4) (acc ++ [u]) (ds ++ [d]) := by
    rw [joinAl_getD]
    exact (h.dq.same (hid_mono fun a z => av_mono (fun i q => by simp [q]) z)).append (.cons (dx.same (hid_mono fun a z => av_mono (fun i q => by simp [q]) z)) .nil)
  cases al with
  | some S' =>
    refine ⟨[], dq, fun z => ?_, List.nodup_nil, fun a z => by simp at z⟩
    cases al' <;> simp [joinAl, srcAl] at z
  | none =>
    cases al' with
    | some S' => exact ⟨[], dq, fun z => by simp [joinAl, srcAl] at z, List.nodup_nil, fun a z => by simp at z⟩
    | none =>
      obtain ⟨f, h1, h2, h3⟩ := w
      refine ⟨fp ++ (f ++ []), dq, fun _ => (h.own rfl).append (.cons h1 .nil), ?_, fun a z => ?_⟩
      · rw [List.append_nil]
        refine List.nodup_append.mpr ⟨h.nd, h2, fun a ha b hb z => ?_⟩
        subst z
        exact hfp rfl a ha (h3 a hb)
      · rw [List.append_nil] at z
        rcases List.mem_append.mp z with z | z
        · exact h.new a z
        · refine ⟨?_, fun w => hD3 (w ▸ h3 a z)⟩
          cases q : H1 a with
          | none => rfl
          | some o =>
            have := k3 a o q fun w => sB.feed.some (w ▸ h3 a z)
            rw [h3 a z] at this
            cases this
end
section
variable {G : Gx} {X : Cx} {pos p tpos : Pos} {tg e e2 elt iter : Expr} {ifs : List Expr} {ie ie2 : IE} {src : IT} {it : Tg} {cond : IEs} {vs : List Nat}
variable {scope : Scope} {own : List (Str × Nat)}
end
end Pv
namespace Pv
open PySem L2
variable [Tabs]
def tStar (K : PySem.W.Frag) (te : TE) (t : TA) : TA := fun σ H Q => te σ H fun x H1 => ∃ a xs, x = .ref a ∧ (SqL K H1 a xs ∨ SqT K H1 a xs) ∧ t σ H1 fun ys H2 => Q (xs ++ ys) H2
section
variable {G : Gx} {X : Cx} {pos p tpos : Pos} {tg e e2 e3 : Expr} {es : List Expr} {ie ie2 ie3 : IE} {ies : IEs}
theorem Vs.items {K : PySem.W.Frag} {c : Amb} {fps : Nat → List Addr} {H : Hp} {S : List Nat} : ∀ {ds : List PyData} {xs : List V}, DqAll K (hid (av c fps S) H) xs ds → Vs K c fps H [] xs (ds.map fun d => .dat d (some S))
  | [], _, h => by cases h; exact .nil
  | d :: ds, _, h => by
    cases h with
    | cons h1 h2 => exact Vs.cons (fp := []) ⟨rfl, h1⟩ (Vs.items h2)
theorem Vs.append {K : PySem.W.Frag} {c : Amb} {fps : Nat → List Addr} {H : Hp} {fp fp' : List Addr} {us us' : List V} {vs vs' : List Val} (h : Vs K c fps H fp us vs) (h' : Vs K c fps H fp' us' vs') : Vs K c fps H (fp ++ fp') (us ++ us') (vs ++ vs') := by
  induction h with
  | nil => exact h'
  | cons h1 h2 ih =>
    rw [List.append_assoc]
    exact .cons h1 ih
end
end Pv
namespace Pv
open PySem L2
variable [Tabs]
def ArgOk (K : PySem.W.Frag) (c : Amb) (H : Hp) (u : V) : Arg → Prop
  | .d x => Dq K (hid c.N H) u x
  | .feed => u = .ref c.p
  | .exc x => XV K H u x
inductive Args (K : PySem.W.Frag) (c : Amb) (H : Hp) : List V → List Arg → Prop
  | nil : Args K c H [] []
  | cons {u : V} {us : List V} {a : Arg} {as : List Arg} : ArgOk K c H u a → Args K c H us as → Args K c H (u :: us) (a :: as)
theorem Args.length {K : PySem.W.Frag} {c : Amb} {H : Hp} {us : List V} {as : List Arg} (h : Args K c H us as) : us.length = as.length := by
  induction h with
  | nil => rfl
  | cons _ _ ih => rw [List.length_cons, List.length_cons, ih]
def Pr (cl : Orc) (WE : XK → Exc → Feed → Hp → Prop) (K : PySem.W.Frag) (f : String) : Sp := fun us H Q E => ∃ (c : Amb) (as : List Arg) (F : Feed), c.E0 = H ∧ FRep F c.p c.ce H ∧ c.N c.p ∧ (∀ a, c.N a → Mu (H a)) ∧ (∀ q, Tabs.tb q → q ≠ c.p ∧ H q = some (.ext (tabF q))) ∧ Args K c H us as ∧
  PostM c (WE E) H (cl f as F) (fun v F' => ∀ u H', Aft c F' H H' → VOk K c (fun _ => []) H H' u v → Q u H')
def PrDraw (dr : Dr) : Sp := fun us H Q _ => ∃ (c : Amb) (F : Feed) (m : Int) (q : Int × Feed), us = [.ref c.p, .int m] ∧ FRep F c.p c.ce H ∧ dr.f F m = some q ∧ ∀ H', Aft c q.2 H H' → Q (.int q.1) H'
structure FnQ (P : Program) (w : World) (K : PySem.W.Frag) (mg : Str → Option Value) (base : Heap) (CX : CXT) (k : Nat) (x : Str) (ps : List Str) (sp : Sp) : Prop where
  ex : ∃ f fd, FnOk P w K mg base CX k f fd ps sp ∧ mg x = some (.ref f) ∧ PySem.W.keepIn K (.ref f) = true ∧ Binds K fd ps []
theorem FnQ.mono {P : Program} {w : World} {K : PySem.W.Frag} {mg : Str → Option Value} {base : Heap} {CX : CXT} {j k : Nat} {x : Str} {ps : List Str} {sp : Sp} (h : FnQ P w K mg base CX j x ps sp) (hj : j ≤ k) : FnQ P w K mg base CX k x ps sp := by
  obtain ⟨f, fd, F, r⟩ := h.ex
  exact ⟨f, fd, F.mono hj, r⟩
section
variable {G : Gx} {X : Cx} {pos p : Pos} {e : Expr} {es : List Expr} {ie : IE} {ies : IEs}
theorem alVs_mem {vs : List Val} {d : PyData} {al : Al} (h : Val.dat d al ∈ vs) : ∀ i ∈ al.getD [], i ∈ alVs vs := by
  induction vs with
  | nil => simp at h
  | cons v vs ih =>
    intro i hi
    unfold alVs
    rcases List.mem_cons.mp h with rfl | h
    · simp [alV, hi]
    · simp [ih h i hi]
theorem args_of {K : PySem.W.Frag} {c c' : Amb} {fps : Nat → List Addr} {ρ : Env} {F : Feed} {σ : L2.St} {H0 H : Hp} {vs0 : List Val} (s : Sim K c fps ρ F σ H) (s0 : ∀ a, av c fps [] a → H0 a ≠ none) (hN : c'.N = av c fps (alVs vs0)) (hp : c'.p = c.p) :
    ∀ {us : List V} {vs : List Val} {as : List Arg} {fp : List Addr}, Vs K c fps H fp us vs → (∀ a ∈ fp, H0 a = none) → (∀ v ∈ vs, v ∈ vs0) → argsV vs = some as → Args K c' H us as
  | _, [], as, _, h, _, _, e => by
    cases h
    cases e
    exact .nil
  | _, .dat d al :: vs, as, _, h, hf, hm, e => by
    cases h with
    | cons h1 h2 =>
      simp only [argsV] at e
      cases q : argsV vs with
      | none => rw [q] at e; cases e
      | some as' =>
        rw [q] at e
        cases e
        refine .cons ?_ (args_of s s0 hN hp h2 (fun a z => hf a (by simp [z])) (fun v z => hm v (by simp [z])) q)
        show Dq K (hid c'.N H) _ d
        rw [hN]
        cases al with
        | none => exact Ow.dq (s.avMu _) h1 fun a m z => s0 a (av_mono (fun i q => by simp at q) z) (hf a (by simp [m]))
        | some S =>
          have hS : ∀ i ∈ S, i ∈ alVs vs0 := alVs_mem (d := d) (al := some S) (hm _ (by simp))
          exact Dq.same (hid_mono fun a z => av_mono hS z) h1.2
  | _, .feed :: vs, as, _, h, hf, hm, e => by
    cases h with
    | cons h1 h2 =>
      simp only [argsV] at e
      cases q : argsV vs with
      | none => rw [q] at e; cases e
      | some as' =>
        rw [q] at e
        cases e
        exact .cons (by show _ = V.ref c'.p; rw [hp]; exact h1.2) (args_of s s0 hN hp h2 (fun a z => hf a (by simp [z])) (fun v z => hm v (by simp [z])) q)
  | _, .exc x :: vs, as, _, h, hf, hm, e => by
    cases h with
    | cons h1 h2 =>
      simp only [argsV] at e
      cases q : argsV vs with
      | none => rw [q] at e; cases e
      | some as' =>
        rw [q] at e
        cases e
        exact .cons h1.2 (args_of s s0 hN hp h2 (fun a z => hf a (by simp [z])) (fun v z => hm v (by simp [z])) q)
theorem call_sem {f : String} {t : TA} {E : XK} {WE : XK → Exc → Feed → Hp → Prop} {cl : Orc} (hcl : G.cfg.cl = cl) (hW : ∀ y F' H', G.W y F' H' → WE E y F' H')
    (ha : ∀ (c : Amb) (fps : Nat → List Addr) (ρ : Env) (F : Feed) (σ : L2.St) (H : Hp) (Q : List V → Hp → Prop), Sim X.K c fps ρ F σ H →
      PostM c G.W H (evEs G.cfg ies ρ F) (fun vs F' => ∀ us H', Aft c F' H H' → VsOk X.K c fps H H' us vs → Q us H') → t σ H Q)
    (c : Amb) (fps : Nat → List Addr) (ρ : Env) (F : Feed) (σ : L2.St) (H : Hp) (Q : VK) (s : Sim X.K c fps ρ F σ H)
    (h : PostM c G.W H (evE G.cfg (.call f ies) ρ F) (fun v F' => ∀ u H', Aft c F' H H' → VOk X.K c fps H H' u v → Q u H')) : tCall (Pr cl WE X.K f) [] E t σ H Q := by
  simp only [evE] at h
  refine ha c fps ρ F σ H _ s (h.bind.mono fun vs F1 g1 us H1 e1 w1 => ?_)
  have s1 := s.aft e1
  obtain ⟨as, ea, g2⟩ := g1.of
  obtain ⟨fp, k1, k2, k3⟩ := w1.ex
  rw [List.append_nil]
  refine ⟨⟨c.p, c.ce, av c fps (alVs vs), H1⟩, as, F1, rfl, s1.feed, .inl s.np, s1.avMu _, (fun q h => ⟨(s.tb q h).1, s1.ent q _ (s.tb q h).2 (s.tb q h).1⟩), args_of (c' := ⟨c.p, c.ce, av c fps (alVs vs), H1⟩) s1 (fun a z => s.avSome z) rfl rfl k1 k3 (fun v z => z) ea, ?_⟩
  rw [hcl] at g2
  cases q : cl f as F1 with
  | stuck => rw [q] at g2; exact g2.elim
  | exc y F2 =>
    rw [q] at g2
    exact fun H' e' => hW y F2 H' (g2 H' (e1.trans ⟨e'.keep, e'.feed⟩))
  | ok v F2 =>
    rw [q] at g2
    intro u H' e' w'
    have e2 : Aft c F2 H1 H' := ⟨e'.keep, e'.feed⟩
    refine g2 u H' (e1.trans e2) (VOk.back (F' := F1) e1 s1.feed.some ?_)
    cases v with
    | dat d al =>
      cases al with
      | none => exact w'
      | some S' =>
        refine Dq.same (hid_mono fun a z => .inl z) w'
    | feed => exact w'
    | exc x => exact w'
theorem q_call {CX : CXT} {x : Str} {f : String} {ps : List Str} {j k : Nat} {E : XK} {WE : XK → Exc → Feed → Hp → Prop} {cl : Orc} (Fq : FnQ X.prog X.w X.K X.mg X.base CX j x ps (Pr cl WE X.K f)) (hr : Room k X.A) (hj : j ≤ k) (hx : Passes CX X E) (hcl : G.cfg.cl = cl) (hW : ∀ y F' H', G.W y F' H' → WE E y F' H') (ha : QA G X (e :: es) ies)
    (hg : Gl X x := by rfl) (hd : (x == ("__debug__" : Str)) = false := by decide) (he : starEach (e :: es) X.env = (false, eval e X.env) :: starEach es X.env := by rfl) (hpl : (backTo pos (starEach es X.env)).any (·.1) = false := by rfl) : QE G X (.Call (.Name x p) (e :: es) [] pos) (.call f ies) := by
  obtain ⟨fa, fd, F1, hm, kp, b⟩ := Fq.ex
  obtain ⟨t, pt, ha⟩ := ha
  exact ⟨_, pe_call F1 (hr.mono hj) hg hm kp b .nil hx pt hd he hpl, call_sem hcl hW ha⟩
theorem q_draw {CX : CXT} {x y : Str} {ps : List Str} {j k : Nat} {E : XK} {dr : Dr} {p1 : Pos} (i : Nat) (Fq : FnQ X.prog X.w X.K X.mg X.base CX j x ps (PrDraw dr)) (hr : Room k X.A) (hj : j ≤ k) (hx : Passes CX X E) (hdr : G.cfg.dr = dr) (he : QE G X e ie) (hN : X.N[i]? = some y := by rfl) (hv : Vis X.env.scope y := by first | exact Or.inl rfl | exact Or.inr (Or.inl rfl) | exact Or.inr (Or.inr rfl)) (hd1 : (y == ("__debug__" : Str)) = false := by decide) (hcd : (y == ("__classdict__" : Str)) = false := by decide)
    (hg : Gl X x := by rfl) (hd : (x == ("__debug__" : Str)) = false := by decide) (h1 : starEach [.Name y p1, e] X.env = (false, eval (.Name y p1) X.env) :: starEach [e] X.env := by rfl) (h2 : starEach [e] X.env = (false, eval e X.env) :: starEach [] X.env := by rfl) (hpl : (backTo pos (starEach [e] X.env)).any (·.1) = false := by rfl) : QE G X (.Call (.Name x p) [.Name y p1, e] [] pos) (.draw i ie) := by
  obtain ⟨fa, fd, F1, hm, kp, b⟩ := Fq.ex
  obtain ⟨te, pe, he⟩ := he
  refine ⟨_, pe_call F1 (hr.mono hj) hg hm kp b .nil hx (pa_cons (pe_var hN hv hd1 hcd) (pa_cons pe pa_nil h2) h1) hd h1 hpl, fun c fps ρ F σ H Q s h => ?_⟩
  simp only [evE] at h
  cases q : ρ[i]? with
  | none => rw [q] at h; exact h.elim
  | some o =>
    rw [q] at h
    cases o with
    | none => exact h.elim
    | some v =>
      cases v with
      | dat d al => exact h.elim
      | exc z => exact h.elim
      | feed =>
        obtain ⟨u, k1, k2⟩ := s.slot i _ q
        have k2 : u = .ref c.p := k2
        subst k2
        refine ⟨_, k1, he c fps ρ F σ H _ s (PostM.mono (PostM.bind h) fun v F1 g u H1 e1 w => ?_)⟩
        match v, g, w with
        | .dat (.int m) al, g, w =>
          have := int_of w
          subst this
          dsimp only at g
          rw [hdr] at g
          cases hz : dr.f F1 m with
          | none => rw [hz] at g; exact g.elim
          | some z =>
            rw [hz] at g
            exact ⟨c, F1, m, z, rfl, e1.feed, hz, fun H' e' => g _ H' (e1.trans e') (int_ok _)⟩
end
def Wno : XK → Exc → Feed → Hp → Prop := fun _ _ _ _ => False
noncomputable def Gk (dr : Dr) (T : Tab) (k : Nat) : Gx := ⟨⟨evF dr T k, dr⟩, fun _ _ _ => False⟩
section
variable {P : Program} {w : World} {K : PySem.W.Frag} {mg : Str → Option Value} {base : Heap} {dr : Dr} {T : Tab}
theorem start_sim {c : Amb} {H : Hp} {F : Feed} {us : List V} {as : List Arg} {N : List Str} (hE : c.E0 = H) (hF : FRep F c.p c.ce H) (hp : c.N c.p) (mu : ∀ a, c.N a → Mu (H a)) (tb : ∀ q, Tabs.tb q → q ≠ c.p ∧ H q = some (.ext (tabF q))) (ha : Args K c H us as) : Sim K c (fun _ => []) (startE N.length as) F (L2.start N us) H where
  len := by
    unfold startE L2.start
    have := ha.length
    simp only [List.length_append, List.length_map, List.length_replicate]
    omega
  slot := fun i v h => by
    unfold startE at h
    have hl := ha.length
    by_cases hi : i < as.length
    · rw [List.getElem?_append_left (by simpa using hi), List.getElem?_map] at h
      have hu : i < us.length := by omega
      refine ⟨us[i], ?_, ?_⟩
      · unfold L2.start
        rw [List.getElem?_append_left (by simpa using hu)]
        simp [hu]
      · have key : ∀ {us : List V} {as : List Arg} {i : Nat} {u : V} {a : Arg}, Args K c H us as → us[i]? = some u → as[i]? = some a → ArgOk K c H u a := by
          intro us as i u a h
          induction h generalizing i with
          | nil => intro e; simp at e
          | cons h1 h2 ih =>
            intro e1 e2
            cases i with
            | zero =>
              simp at e1 e2
              subst e1 e2
              exact h1
            | succ i => exact ih (by simpa using e1) (by simpa using e2)
        have ok := key ha (i := i) (u := us[i]) (a := as[i]) (by simp [hu]) (by simp [hi])
        have e2 : as[i]? = some as[i] := by simp [hi]
        rw [e2] at h
        have h : slotA as[i] = some v := by simpa using h
        cases ea : as[i] with
        | d x =>
          rw [ea] at h ok
          cases h
          refine Dq.same (hid_mono fun a z => ?_) ok
          rcases z with z | ⟨j, _, z⟩
          · exact z
          · simp at z
        | feed =>
          rw [ea] at h ok
          cases h
          exact ok
        | exc x =>
          rw [ea] at h ok
          cases h
          exact ok
    · rw [List.getElem?_append_right (by simpa using hi)] at h
      rw [List.getElem?_replicate] at h
      split at h <;> cases h
  emp := fun i _ => rfl
  nd := fun i => List.nodup_nil
  dj := fun i j a h => by simp at h
  new := fun i a h => by simp at h
  ent := fun b o h _ => by rw [hE] at h; exact h
  p0 := by rw [hE]; exact hF.some
  tb := fun q h => by rw [hE]; exact tb q h
  ce0 := by rw [hE, hF.at_ce]; simp
  feed := hF
  np := hp
  mu := mu
  nN := fun i a h => by simp at h
def Glb (K : PySem.W.Frag) (mg : Str → Option Value) (x : Str) (d : PyData) : Prop := ∃ (v : V) (u : Value), mg x = some u ∧ RelV v u ∧ ∀ H, Dq K H v d
end
end Pv
namespace Pv
open PySem L2 GB
def mixT (cell t : Int) : Int := ((((cell % 2147483629 + 7919 * t + 1) ^ (5 : Int).toNat) % 2147483647 * (2 * t + 104729) + 69621) ^ (3 : Int).toNat % 2147483629) / 64
def cellF (F : Feed) : Int := match F.cells[(F.spot % (F.cells.length : Int)).toNat]? with
  | some c => c
  | none => if F.lst then 5 else 0
def drV (F : Feed) (m : Int) : Int × Feed :=
  if 0 < F.left then (F.left % m, { F with left := F.left.fdiv m, turn := F.turn + 1 })
  else if 10 ^ 18 ≤ cellF F ∧ F.spot < F.cells.length then (cellF F % m, { F with spot := F.spot + 1, left := (cellF F).fdiv m, turn := F.turn + 1 })
  else (mixT (cellF F) (F.turn + 1) % m, { F with spot := F.spot + 1, turn := F.turn + 1 })
def drD (b : Bool) (rz : Bool := false) : Dr := ⟨fun F m => if F.lst = b ∧ 0 < m ∧ m < 2 ^ 64 ∧ F.turn < 1000000 then some (drV F m) else none, rz⟩
theorem drV_lo {F : Feed} {m : Int} (h : 0 < m) : 0 ≤ (drV F m).1 := by
  unfold drV
  split
  · exact (mod_bd _ _ h).1
  · split
    · exact (mod_bd _ _ h).1
    · exact (mod_bd _ _ h).1
theorem drV_hi {F : Feed} {m : Int} (h : 0 < m) : (drV F m).1 < m := by
  unfold drV
  split
  · exact (mod_bd _ _ h).2
  · split
    · exact (mod_bd _ _ h).2
    · exact (mod_bd _ _ h).2
theorem drV_turn {F : Feed} {m : Int} : (drV F m).2.turn = F.turn + 1 := by
  unfold drV
  split
  · rfl
  · split <;> rfl
theorem drV_lst {F : Feed} {m : Int} : (drV F m).2.lst = F.lst := by
  unfold drV
  split
  · rfl
  · split <;> rfl
structure Fd (b : Bool) (n : Int) (F : Feed) : Prop where
  lst : F.lst = b
  turn : F.turn ≤ n
theorem Fd.mono {b : Bool} {n m : Int} {F : Feed} (h : Fd b n F) (l : n ≤ m) : Fd b m F := ⟨h.lst, Int.le_trans h.turn l⟩
theorem Fd.draw {b : Bool} {n : Int} {F : Feed} (h : Fd b n F) (m : Int) (hm : 0 < m) (hm2 : m < 2 ^ 64) (hn : n < 1000000) (rz : Bool := false) : ∃ r F', (drD b rz).f F m = some (r, F') ∧ 0 ≤ r ∧ r < m ∧ Fd b (n + 1) F' := by
  refine ⟨(drV F m).1, (drV F m).2, ?_, drV_lo hm, drV_hi hm, drV_lst.trans h.lst, ?_⟩
  · unfold drD
    dsimp only
    have := h.turn
    rw [if_pos ⟨h.lst, hm, hm2, by omega⟩]
  · rw [drV_turn]
    have := h.turn
    omega
theorem cell_none {F : Feed} (h : F.cells = []) : cellF F = if F.lst then 5 else 0 := by
  unfold cellF
  rw [h]
  rfl
theorem drv_left {F : Feed} {m : Int} (h : 0 < F.left) : drV F m = (F.left % m, { F with left := F.left.fdiv m, turn := F.turn + 1 }) := by
  unfold drV
  rw [if_pos h]
theorem drv_big {F : Feed} {m : Int} (h : ¬ 0 < F.left) (h1 : 10 ^ 18 ≤ cellF F) (h2 : F.spot < F.cells.length) : drV F m = (cellF F % m, { F with spot := F.spot + 1, left := (cellF F).fdiv m, turn := F.turn + 1 }) := by
  unfold drV
  rw [if_neg h, if_pos ⟨h1, h2⟩]
theorem drv_mix {F : Feed} {m : Int} (h : ¬ 0 < F.left) (h1 : ¬ (10 ^ 18 ≤ cellF F ∧ F.spot < F.cells.length)) : drV F m = (mixT (cellF F) (F.turn + 1) % m, { F with spot := F.spot + 1, turn := F.turn + 1 }) := by
  unfold drV
  rw [if_neg h, if_neg h1]
def PrFeed (K : PySem.W.Frag) (b : Bool) : Sp := fun us H Q _ => ∃ (a : Addr) (ns : List Int), us = [.ref a] ∧ SqL K H a (ns.map V.int) ∧ ∀ (p ce : Addr) (F : Feed) (H' : Hp), FRep F p ce H' → F.turn = 0 → F.lst = b → H p = none → Same H H' → Q (.ref p) H'
theorem cell_of {cs : List Int} {a l t cell : Int} {b : Bool} (h : (cs.map V.int)[(a % ((cs.map V.int).length : Nat)).toNat]? = some (.int cell)) : cellF ⟨cs, a, l, t, b⟩ = cell := by
  unfold cellF
  rw [List.length_map, List.getElem?_map] at h
  dsimp only
  cases e : cs[(a % (cs.length : Int)).toNat]? with
  | none => rw [e] at h; cases h
  | some z =>
    rw [e] at h
    cases h
    rfl
variable [Tabs]
theorem FnQ.ofIs {P : Program} {w : World} {K : PySem.W.Frag} {mg : Str → Option Value} {base : Heap} {k : Nat} {x : Str} {ps : List Str} {sp : Sp} (h : FnIs P w K mg base k x ps sp) : FnQ P w K mg base CX0 k x ps sp := ⟨h.ex⟩
theorem drD_inv {b rz : Bool} {F : Feed} {m : Int} {q : Int × Feed} (h : (drD b rz).f F m = some q) : F.lst = b ∧ 0 < m ∧ m < 2 ^ 64 ∧ F.turn < 1000000 ∧ q = drV F m := by
  unfold drD at h
  dsimp only at h
  split at h
  · rename_i z
    cases h
    exact ⟨z.1, z.2.1, z.2.2.1, z.2.2.2, rfl⟩
  · cases h
theorem aft_draw {c : Amb} {F' : Feed} {H H' : Hp} (S : SameX c.p H H') (h : FRep F' c.p c.ce H') : Aft c F' H H' := ⟨fun b o e n => S b o e n, h⟩
end Pv
namespace Pv
open PySem L2
variable [Tabs]
section
variable {G : Gx} {X : Cx} {pos : Pos}
end
end Pv
namespace Pv
open PySem L2 GB
variable [Tabs]
def SpLaw (K : PySem.W.Frag) : Sp := fun vs H Q _ => ∃ (a : Addr) (ns : List Int), vs = [.ref a] ∧ SqL K H a (ns.map V.int) ∧ (∀ q, Tabs.tb q → H q = some (.ext (tabF q))) ∧ ∀ H', (∀ q, Tabs.tb q → H' q = some (.ext (tabF q))) → Q (.bl true) H'
def env0 (n : Nat) : Env := none :: some .feed :: List.replicate n none
theorem sim0 {K : PySem.W.Frag} {p ce a : Addr} {F : Feed} {H : Hp} {N : List Str} {n : Nat} (hF : FRep F p ce H) (tb : ∀ q, Tabs.tb q → q ≠ p ∧ H q = some (.ext (tabF q))) (hn : N.length = n + 2) : Sim K ⟨p, ce, (· = p), H⟩ (fun _ => []) (env0 n) F ((L2.start N [.ref a]).set 1 (some (.ref p))) H where
  len := by
    unfold env0 L2.start
    simp [hn]
  slot := fun i v h => by
    unfold env0 at h
    match i, h with
    | 0, h => simp at h
    | 1, h =>
      simp at h
      subst h
      refine ⟨.ref p, ?_, rfl⟩
      unfold L2.start
      rw [hn]
      simp [List.replicate_succ]
    | i + 2, h =>
      simp [List.getElem?_replicate] at h
  emp := fun i _ => rfl
  nd := fun i => List.nodup_nil
  dj := fun i j a h => by simp at h
  new := fun i a h => by simp at h
  ent := fun b o h _ => h
  p0 := hF.some
  tb := tb
  ce0 := by
    show H ce ≠ none
    rw [hF.at_ce]
    simp
  feed := hF
  np := rfl
  mu := fun a h => by
    have h : a = p := h
    rw [h]
    exact hF.mu
  nN := fun i a h => by simp at h
def Says (dr : Dr) (T : Tab) (k : Nat) (b : Bool) (fn : Fn) : Prop := ∀ F : Feed, F.turn = 0 → F.lst = b → ∃ F', evSs ⟨evF dr T k, dr⟩ fn.body (env0 (fn.ns - 2)) F = .ok (.ret (.dat (.bool true) none)) F'
theorem law_sem {K : PySem.W.Frag} {dr : Dr} {T : Tab} {k n : Nat} {b : Bool} {fn : Fn} {N : List Str} {t : TS} {p ce a : Addr} {F : Feed} {H : Hp} {D : Ends} (hs : Says dr T k b fn) (hn : N.length = n + 2) (hns : fn.ns = n + 2)
    (ht : ∀ (c : Amb) (fps : Nat → List Addr) (ρ : Env) (F : Feed) (σ : L2.St) (H : Hp) (D : Ends), Sim K c fps ρ F σ H → PostS K c (Gk dr T k).W D (evSs (Gk dr T k).cfg fn.body ρ F) → t D σ H)
    (hF : FRep F p ce H) (tb : ∀ q, Tabs.tb q → q ≠ p ∧ H q = some (.ext (tabF q))) (h0 : F.turn = 0) (hb : F.lst = b) (hq : ∀ H', (∀ q, Tabs.tb q → H' q = some (.ext (tabF q))) → D.rt (.bl true) H') : t D ((L2.start N [.ref a]).set 1 (some (.ref p))) H := by
  refine ht ⟨p, ce, (· = p), H⟩ (fun _ => []) (env0 n) F _ H D (sim0 hF tb hn) ?_
  obtain ⟨F', e⟩ := hs F h0 hb
  rw [hns, Nat.add_sub_cancel] at e
  unfold PostS
  show PostM _ _ _ (evSs ⟨evF dr T k, dr⟩ fn.body (env0 n) F) _
  rw [e]
  intro u H' e' w
  have : u = .bl true := by
    obtain ⟨fp, o, _, _⟩ := w
    cases o with
    | flat _ z => cases z; rfl
  subst this
  exact hq H' fun q h => e'.keep q _ (tb q h).2 (tb q h).1
end Pv
namespace L2
open PySem PySem.Spec PyProof.Rows
structure Hw (P : Program) (w : World) (A : Around) (I : Addr) (n : Nat) (rd : Option (Addr × Obj) → List Value → Prop) (st en : Option (Addr × Obj) → List Value → Shared → Prop) : Prop where
  ty : ∀ sp vs s, st sp vs s → s.TypeIs (.ref I) "generator"
  obj : ∀ S o vs s, st (some (S, o)) vs s → s.heap.get? S = some o
  put : ∀ S o o' vs s h', (∀ v, o'.data ≠ .cell v) → st (some (S, o)) vs s → Heap.SameBut S s.heap h' → h'.get? S = some o' → st (some (S, o')) vs { s with heap := h' }
  eobj : ∀ S o vs s, en (some (S, o)) vs s → s.heap.get? S = some o
  item : ∀ sp vs s Q E, rd sp vs → vs.length < n → st sp vs s → (∀ v s', st sp (vs ++ [v]) s' → Q (some v) s') → wpAny (model P w) A (pyNext (.ref I)) Q E s
  done : ∀ sp vs s Q E, rd sp vs → vs.length = n → st sp vs s → (∀ s', en sp vs s' → Q none s') → wpAny (model P w) A (pyNext (.ref I)) Q E s
  self : ∀ sp vs s Q E, st sp vs s → Q (.ref I) s → wpAny (model P w) A (pyIter (.ref I)) Q E s
section
variable {P : Program} {w : World} {A : Around} {I : Addr} {n : Nat} {rd : Option (Addr × Obj) → List Value → Prop} {st en : Option (Addr × Obj) → List Value → Shared → Prop}
theorem Hw.in1 (W : Hw P w A.in1 I n rd st en) : Hw P w A I n rd st en where
  ty := W.ty
  obj := W.obj
  put := W.put
  eobj := W.eobj
  item := fun sp vs s Q E h0 h1 h2 h3 => wpAny_of_in1 (W.item sp vs s Q E h0 h1 h2 h3)
  done := fun sp vs s Q E h0 h1 h2 h3 => wpAny_of_in1 (W.done sp vs s Q E h0 h1 h2 h3)
  self := fun sp vs s Q E h1 h2 => wpAny_of_in1 (W.self sp vs s Q E h1 h2)
abbrev lsO (vs : Array Value) (c : Nat) : Obj := { cls := .type "list", dict := none, data := .seq vs c, slots := #[] }
end
end L2
namespace L2
open PySem PySem.Spec PyProof.Rows
abbrev Cx.gen (X : Cx) (A' : Around) (s : Shared) (H : Hp) (cenv : Env) (fp : List Addr) : Cx := { X with A := A', s_0 := s, H_0 := H, env := cenv, outer := X.stack, stack := cenv :: X.stack, ex := fp, fn := fun _ => false, pn := [], xe := fun _ _ => False }
section
variable {X : Cx} {pins : List (Addr × Obj)} {σ : St} {H : Hp} {s : Shared}
end
end L2
namespace L2
open PySem PySem.Spec PyProof.Rows
section
variable {X : Cx} {A1 : Around} {tg iter elt : Expr} {scope : Scope} {pos : Pos} {it : Addr} {fp ks : List Addr} {tn : Nat → Heap → Prop} {J : It} {g : TG} {te : TE} {σ0 : St} {vs : List Nat} {N : Nat} {Pre : List Value → Shared → Prop} {Wv : Nat → List Value → Hp → Prop}
def gR (X : Cx) (ks : List Addr) (σ0 : St) (N : Nat) (Pre : List Value → Shared → Prop) (Wv : Nat → List Value → Hp → Prop) : Nat → Shared → Shared → Prop := fun n s0 s1 => n = 0 ∧ ∃ H' us, us.length = N ∧ Pre us s0 ∧ Inv X (pinsAt ks s0.heap) σ0 H' s1 ∧ Wv N us H'
def gY (X : Cx) (ks fp : List Addr) (tn : Nat → Heap → Prop) (σ0 : St) (N : Nat) (Pre : List Value → Shared → Prop) (Wv : Nat → List Value → Hp → Prop) : Protocol := fun m s0 v s kap => ∃ us H', us.length + 1 + m = N ∧ Pre us s0 ∧ Inv X (pinsAt ks s0.heap) σ0 H' s ∧ tn (us.length + 1) s.heap ∧ (∀ b ∈ fp, H' b = none) ∧ Wv (us.length + 1) (us ++ [v]) H' ∧
  ∀ s2 H2, Inv X (pinsAt ks s2.heap) σ0 H2 s2 → tn (us.length + 1) s2.heap → (∀ b ∈ fp, H2 b = none) → Wv (us.length + 1) (us ++ [v]) H2 → Pre (us ++ [v]) s2 → kap (.send .none) s2
abbrev gC (elt tg iter : Expr) (scope : Scope) (pos : Pos) (it : Addr) (env : Env) : Code := .compLoop (.GeneratorExp elt [⟨tg, iter, [], 0⟩] scope pos) 0 (.ref it) .none env
end
end L2
namespace L2
open PySem PySem.Spec PyProof.Rows
end L2
namespace L2
open PySem PySem.Spec PyProof.Rows
section
variable {X : Cx} {A : Around} {a : Addr} {gi : Nat} {fp ks : List Addr} {tn : Nat → Heap → Prop} {σ0 : St} {N : Nat} {Pre : List Value → Shared → Prop} {Wv : Nat → List Value → Hp → Prop} {We : List Value → Hp → Prop} {Sp : Option (Addr × Obj) → Shared → Prop} {rd : Option (Addr × Obj) → List Value → Prop}
theorem Inv.gens {pins : List (Addr × Obj)} {σ : St} {H : Hp} {s : Shared} {x : GenState} (I : Inv X pins σ H s) (hx : x.bare = true) : Inv X pins σ H (s.setGen gi x) := by
  refine ⟨I.ok, I.os, fun y hy => ?_, I.base, I.loc, I.cell, I.free, I.freeC, I.pin, I.hok, I.len⟩
  obtain ⟨j, hj, rfl⟩ := Array.mem_iff_getElem.mp hy
  by_cases e : gi = j
  · subst e
    have : (s.setGen gi x).gens[gi] = x := by simp [Shared.setGen]
    rw [this]
    exact hx
  · have hj' : j < s.gens.size := by simpa [Shared.setGen] using hj
    have h1 := (GenOnly.setGen s gi x).2 j fun z => e z.symm
    rw [Array.getElem?_eq_getElem hj, Array.getElem?_eq_getElem hj'] at h1
    rw [Option.some.inj h1]
    exact I.bare _ (Array.getElem_mem hj')
def gS (X : Cx) (A : Around) (a : Addr) (gi : Nat) (ks fp : List Addr) (tn : Nat → Heap → Prop) (σ0 : St) (N : Nat) (Pre : List Value → Shared → Prop) (Wv : Nat → List Value → Hp → Prop) (Sp : Option (Addr × Obj) → Shared → Prop) (sp : Option (Addr × Obj)) (us : List Value) (s : Shared) : Prop :=
  ∃ H gs, Inv X (pinsAt ks s.heap) σ0 H s ∧ tn us.length s.heap ∧ (∀ b ∈ fp, H b = none) ∧ Wv us.length us H ∧ us.length ≤ N ∧ s.heap.IsGen a gi ∧ Sp sp s ∧ s.gens[gi]? = some gs ∧ gs.bare = true ∧
    ∀ s2 H2, Inv X (pinsAt ks s2.heap) σ0 H2 s2 → tn us.length s2.heap → (∀ b ∈ fp, H2 b = none) → Wv us.length us H2 → Pre us s2 → gs.Goes (model X.prog X.w) A.in1 (fun n s0 r s1 => r = .ok .next ∧ gR X ks σ0 N Pre Wv n s0 s1) (gY X ks fp tn σ0 N Pre Wv) (N - us.length) (.send .none) s2
def gE (X : Cx) (σ0 : St) (N : Nat) (We : List Value → Hp → Prop) (sp : Option (Addr × Obj)) (us : List Value) (s : Shared) : Prop :=
  ∃ H, Inv X [] σ0 H s ∧ us.length = N ∧ We us H ∧ ∀ S o, sp = some (S, o) → s.heap.get? S = some o
end
end L2
namespace L2
open PySem PySem.Spec PyProof.Rows
def tabOf (vs : Array Value) : Option Addr := match vs.getD 11 .none, vs.getD 18 .none, vs.getD 7 .none, vs.getD 9 .none, vs.getD 10 .none with
  | .ref p, .str _ _, .int _ _, .bool _, .int _ _ => some p
  | _, _, _, _, _ => none
def tabIn (K : PySem.W.Frag) (cd : Value) : Option Addr := match cd with
  | .ref c => (match K.lookup c with
      | some ⟨.type t, _, .fields vs, _⟩ => if t = "code" then tabOf vs else none
      | _ => none)
  | _ => none
theorem tabOf_ok {vs : Array Value} {p : Addr} (e : tabOf vs = some p) : ∃ a b c d f g h, vs.getD 11 .none = .ref p ∧ vs.getD 18 .none = .str a b ∧ vs.getD 7 .none = .int c d ∧ vs.getD 9 .none = .bool f ∧ vs.getD 10 .none = .int g h ∧ vs[11]? = some (.ref p) := by
  unfold tabOf at e
  split at e
  · rename_i p' a b c d f g h e1 e2 e3 e4 e5
    cases e
    refine ⟨a, b, c, d, f, g, h, e1, e2, e3, e4, e5, ?_⟩
    rw [Array.getD_eq_getD_getElem?] at e1
    cases q : vs[11]? with
    | none => rw [q] at e1; cases e1
    | some x => rw [q] at e1; exact congrArg some e1
  · cases e
section
variable {X : Cx} {A1 : Around} {tg iter elt : Expr} {scope : Scope} {pos : Pos} {it : Addr} {fp ks : List Addr} {tn : Nat → Heap → Prop} {J : It} {σ0 : St} {N : Nat} {Pre : List Value → Shared → Prop} {Wv : Nat → List Value → Hp → Prop}
end
section
variable {X : Cx} {pins : List (Addr × Obj)} {σ : St} {H : Hp} {s : Shared}
structure Gn (X : Cx) (pins : List (Addr × Obj)) (σ : St) (tg iter elt : Expr) (scope : Scope) (pos : Pos) (own : List (Str × Nat)) (R : It → Hp → Prop) (a : Addr) (s5 : Shared) : Prop where
  ex : ∃ (s3 : Shared) (H1 : Hp) (it : Addr) (fp : List Addr) (tn : Nat → Heap → Prop) (J : It) (code : Value) (gi : Nat) (og : Obj), Inv X pins σ H1 s3 ∧ (∀ b ∈ fp, FpOk X pins H1 b ∧ b < s3.heap.objs.size) ∧ Turn X.prog X.w X.K tg J fp it tn ∧ R J H1 ∧ tn 0 s5.heap ∧
    a = s3.heap.objs.size + 1 ∧ s5.heap.objs.size = a + 1 ∧ s5.heap.get? a = some og ∧ (∀ v, og.data ≠ .cell v) ∧ s5.heap.IsGen a gi ∧
    s5.gens[gi]? = some (.fresh (.compStart (.GeneratorExp elt [⟨tg, iter, [], 0⟩] scope pos) 0 (.ref it) .none (genEnv scope (cloFrom X.env.cells scope.names []) s3.heap.objs.size code builtinsNs X.env))) ∧
    ∀ A' : Around, A'.frames = some (genEnv scope (cloFrom X.env.cells scope.names []) s3.heap.objs.size code builtinsNs X.env :: X.stack) → A'.handled = none →
      Inv (X.gen A' s3 H1 (genEnv scope (cloFrom X.env.cells scope.names []) s3.heap.objs.size code builtinsNs X.env) fp) [] (wipe σ (own.map (·.2))) H1 s5
end
end L2
namespace L2
open PySem PySem.Spec PyProof.Rows
section
variable {X : Cx} {pins : List (Addr × Obj)} {σ : St} {H : Hp} {s : Shared} {tg iter elt : Expr} {scope : Scope} {pos cpos p0 : Pos} {own : List (Str × Nat)} {wi : TI} {g : TG} {te : TE} {p : Addr} {j : Nat}
def tGenT (wi : TI) (g : TG) (te : TE) (vs : List Nat) (p : Addr) : TE := fun σ H Q => wi σ H fun J H1 => H1 p = some (.ext (tabF p)) ∧ ∃ (n : Nat) (W : Nat → List V → Hp → Prop), n ≤ sizeLine ∧ W 0 [] H1 ∧
  (∀ i ys H, i < n → ys.length = i → W i ys H → J.go i H ∧ ∀ x H', J.yld i H x H' → g x (wipe σ vs) H' fun σ2 H2 => wipe σ2 vs = wipe σ vs ∧ te σ2 H2 fun y H3 => W (i + 1) (ys ++ [y]) H3) ∧
  ∀ ys H, ys.length = n → W n ys H → J.stop n H ∧ ∀ q, H q = none → Q (.ref q) (upd H q (.tup ys))
def tGenB (f : (Nat → Bool) → Nat → Bool) (wi : TI) (g : TG) (te : TE) (vs : List Nat) (p : Addr) : TE := fun σ H Q => wi σ H fun J H1 => H1 p = some (.ext (tabF p)) ∧ ∃ (n : Nat) (tr : Nat → Bool) (W : Nat → Hp → Prop), W 0 H1 ∧
  (∀ i H, i < n → W i H → J.go i H ∧ ∀ x H', J.yld i H x H' → g x (wipe σ vs) H' fun σ2 H2 => wipe σ2 vs = wipe σ vs ∧ te σ2 H2 fun y H3 => y = .bl (tr i) ∧ W (i + 1) H3) ∧
  (∀ H, W n H → J.stop n H) ∧ ∀ i H, W i H → Q (.bl (f tr n)) H
abbrev gA (X : Cx) (elt tg iter : Expr) (scope : Scope) (pos : Pos) (it : Addr) (env : Env) : Around := X.A.in4.in1.over (gC elt tg iter scope pos it env) []
end
end L2
namespace L2
open PySem PySem.Spec PyProof.Rows
section
variable {X : Cx} {pins : List (Addr × Obj)} {σ : St} {H : Hp} {s : Shared} {tg iter elt : Expr} {scope : Scope} {pos cpos p0 : Pos} {own : List (Str × Nat)} {wi : TI} {g : TG} {te : TE} {p : Addr} {j : Nat}
end
end L2
namespace Pv
open PySem L2
variable [Tabs]
def Amb.blg (c : Amb) (vs : List Nat) (fps : Nat → List Addr) : Amb := { c with N := fun a => c.N a ∨ ∃ k ∈ vs, a ∈ fps k }
section
variable {K : PySem.W.Frag} {c : Amb} {fps : Nat → List Addr} {ρ : Env} {F F' : Feed} {σ σ' : L2.St} {H H1 : Hp} {vs S : List Nat}
end
section
variable {G : Gx} {X : Cx} {pos p tpos : Pos} {tg e e2 elt iter : Expr} {ie ie2 : IE} {src : IT} {it : Tg} {vs : List Nat}
variable {scope : Scope} {own : List (Str × Nat)} {p0 cpos : Pos} {x : Str} {j : Nat} {q : Addr}
end
end Pv
namespace L2
open PySem PySem.Spec PyProof.Rows
structure DefT (K : PySem.W.Frag) (mg : Str → Option Value) (x : Str) (st : Stmt) (q : Addr) : Prop where
  ex : ∃ f fd, Fun K x x st f fd ∧ mg x = some (.ref f) ∧ tabIn K fd.code = some q
section
variable {P : Program} {w : World} {K : PySem.W.Frag} {mg : Str → Option Value} {base : Heap}
theorem Fun.okT {x qual : Str} {st : Stmt} {f q : Addr} {fd : FuncData} {N ps : List Str} {k : Nat} {sp : Sp} (F : Fun K x qual st f fd) (ht : tabIn K fd.code = some q) (S : FnScope N ps (defScope st)) (len : ∀ vs H Q E, sp vs H Q E → vs.length = ps.length)
    (hbody : ∀ (cdv : Value) (A : Around) (outer : List Env) (s : Shared) (H : Hp) (vs : List V) (Q : VK) (E : XK), tabIn K cdv = some q → Room k (A.deeper (envOfC qual (defScope st) s.heap.objs.size f cdv)) → sp vs H Q E →
      ∃ t, PSs (cxOf CX0 P w K mg base N qual (defScope st) f cdv A outer s H E).nox (defBody st) t ∧ t { nx := fun _ H' => Q .non H', rt := Q } (start N vs) H) : FnOk P w K mg base CX0 (k + 1) f fd ps sp := by
  obtain ⟨oc, od, kV, doc, pm, an, cdv, ct, osl, rfl, lk, hcd⟩ := F.ex
  refine fn_of lk hcd S len fun A outer s H vs Q E hr hsp => ?_
  obtain ⟨t, h, q⟩ := hbody cdv A outer s H vs Q E ht hr hsp
  exact ⟨t, h.nox, q⟩
end
def OnlyT (tb : Addr → Prop) (H : Hp) : Prop := ∀ b, H b = none ∨ (∃ o xs, H b = some (.frz o (.lst xs))) ∨ (tb b ∧ H b = some (.ext (tabF b)))
open Classical in
theorem law_callT {P : Program} {w : World} {K : PySem.W.Frag} {mg mb : Str → Option Value} {CX : CXT} {k : Nat} {fa a : Addr} {fd : FuncData} {x : Str} {sp : Sp} {s₁ : Shared} {vs : List Value} {ns : List Int} {tb : Addr → Prop}
    (KX : K.In s₁.heap) (hns : s₁.heap.Ns mainGlobals mg) (hb : s₁.heap.Ns builtinsNs mb) (hbb : ∀ x : Str, x ≠ "__name__" → mb x = bootBuiltins x) (hlim : s₁.heap.NoLimit) (hdig : s₁.heap.NoDigits) (hse : s₁.heap.NoSeer) (hbm : ∃ bm ob, BMod s₁.heap mainGlobals mg bm ob) (hg : s₁.gens = #[])
    (ha : s₁.heap.get? a = some { cls := .type "list", data := .seq vs.toArray }) (hi : IntsAre vs ns) (hl : ns.length ≤ sizeLine) (hr : Room k callerA)
    (ht : ∀ q, tb q → s₁.heap.get? q = some { cls := .none, data := .fields #[] } ∧ isCodeTable s₁.heap q ∧ K.lookup q = none)
    (F : ∀ base : Heap, K.In base → base.Ns mainGlobals mg → FnOk P w K mg base CX k fa fd [x] sp) (hbind : ∀ (s : Shared) (u : Value), BindsTo s fd ⟨[u], []⟩ [(x, u)])
    (hsp : ∀ H : Hp, (∀ q, tb q → H q = some (.ext (tabF q))) → SqL K H a (ns.map V.int) → sp [.ref a] H (fun v H' => v = .bl true ∧ ∀ q, tb q → H' q = some (.ext (tabF q))) fun _ _ _ => False)
    (hCX : ∀ H e s', CX [] H s₁ (fun _ _ _ => False) e s' → False) :
    codeAny (model P w) callerA (.call (.ref fa) ⟨[.ref a], []⟩) (fun r s' => r = .ok (.ret (.bool true)) ∧ OldK s₁.heap s'.heap ∧ s'.os = s₁.os ∧ AllBare s'.gens) s₁ := by
  have rv := vals_ints hi
  have lenV := hi.length
  have nta : ¬ tb a := fun z => by
    have e := (ht a z).1
    rw [ha] at e
    cases e
  have core : ∀ H : Hp, OnlyT tb H → (∀ q, tb q → H q = some (.ext (tabF q))) → SqL K H a (ns.map V.int) → HOk P w H s₁.heap → (∀ b, H b ≠ none → b = a ∨ tb b) → (H a ≠ none → K.lookup a = none) →
      codeAny (model P w) callerA (.call (.ref fa) ⟨[.ref a], []⟩) (fun r s' => r = .ok (.ret (.bool true)) ∧ OldK s₁.heap s'.heap ∧ s'.os = s₁.os ∧ AllBare s'.gens) s₁ := by
    intro H hO hT hS hok hA hK
    have base_of : ∀ {b : Addr} {o : Obj}, s₁.heap.get? b = some o → H b = none → (hidT s₁.heap H).get? b = some o := fun e n => hidT_get e n
    have noA : ∀ {b : Addr} {o : Obj} {es : Array DictEntry} {ep : Nat}, s₁.heap.get? b = some o → o.data = .dict es ep → H b = none := fun {b o es ep} e d => by
      cases q : H b with
      | none => rfl
      | some u =>
        rcases hA b (by rw [q]; simp) with e' | e'
        · subst e'
          rw [ha] at e; cases e
          have d' : Data.seq vs.toArray _ = Data.dict es ep := d
          cases d'
        · rw [(ht b e').1] at e; cases e
          have d' : Data.fields #[] = Data.dict es ep := d
          cases d'
    have nsK : ∀ {b : Addr} {m : Str → Option Value}, s₁.heap.Ns b m → (hidT s₁.heap H).Ns b m := fun {b m} ⟨o, es, ep, e, d, r⟩ => ⟨o, es, ep, base_of e (noA e d), d, r⟩
    have hKb : K.In (hidT s₁.heap H) := fun b o e => base_of (KX b o e) (by
      cases q : H b with
      | none => rfl
      | some u =>
        rcases hA b (by rw [q]; simp) with e' | e'
        · subst e'
          rw [hK (by rw [q]; simp)] at e; cases e
        · rw [(ht b e').2.2] at e; cases e)
    have noM : ∀ {b : Addr} {o : Obj}, s₁.heap.get? b = some o → o.cls = .type "module" → H b = none := fun {b o} e c => by
      cases q : H b with
      | none => rfl
      | some u =>
        rcases hA b (by rw [q]; simp) with e' | e'
        · subst e'
          rw [ha] at e; cases e
          exact absurd (show Value.type "list" = Value.type "module" from c) (by decide)
        · rw [(ht b e').1] at e; cases e
          exact nomatch (show Value.none = Value.type "module" from c)
    have hM : Mod K mg (hidT s₁.heap H) := ⟨hKb, nsK hns, ⟨mb, nsK hb, hbb⟩, (let ⟨mc, h1, h2⟩ := hlim; ⟨mc, nsK h1, h2⟩), (let ⟨mc, h1, h2⟩ := hdig; ⟨mc, nsK h1, h2⟩),
      ⟨(let ⟨mc, h1, h2⟩ := hse.statics; ⟨mc, nsK h1, h2⟩), (let ⟨mc, h1, h2⟩ := hse.mods; ⟨mc, nsK h1, h2⟩), (let ⟨mc, h1, h2⟩ := hse.imp; ⟨mc, nsK h1, h2⟩), (let ⟨m0, bm, ob, n1, n2, n3, n4, n5⟩ := hse.main; ⟨m0, bm, ob, nsK n1, n2, base_of n3 (noM n3 n4), n4, n5⟩)⟩,
      (let ⟨bm, ob, n⟩ := hbm; ⟨bm, ob, nsK n.ns, n.name, n.ne, base_of n.obj (noM n.obj n.cls), n.cls, n.dict, n.data⟩)⟩
    have e0 : Env0 P w K mg (hidT s₁.heap H) callerA [] s₁ H := ⟨rfl, hM, fun b o e => of_hidT e, Nat.le_of_eq (hidT_size _ _), trivial, fun b hb => absurd (show b ∈ ([] : List Addr) from hb) (by simp), hok, .of_eq hg⟩
    refine codeAny_mono ((F _ hKb (nsK hns)).run callerA [] s₁ H ⟨[.ref a], []⟩ [.ref a] [.ref a] _ _ hr e0 (hbind s₁ (.ref a)) (.cons rfl .nil) (hsp H hT hS)) fun r s' h => ?_
    cases r with
    | error e => exact (hCX H e s' h).elim
    | ok fl =>
      cases fl with
      | next => exact False.elim h
      | brk => exact False.elim h
      | cont => exact False.elim h
      | ret u =>
        obtain ⟨v, H', os, bare, un, hok', r', q⟩ := h
        have q' : v = .bl true ∧ ∀ q, tb q → H' q = some (.ext (tabF q)) := q
        obtain ⟨rfl, qt⟩ := q'
        obtain rfl : u = Value.bool true := r'
        refine ⟨rfl, ⟨fun b o e => ?_, fun b o e => un.there b o e (by simp)⟩, os, bare⟩
        cases q : H b with
        | none => exact .inl (un.keep b o e q (by intro z; exact absurd (show b ∈ ([] : List Addr) from z) (by simp)) (by simp))
        | some u =>
          rcases hO b with z | ⟨ob, xs, z⟩ | ⟨z, z2⟩
          · rw [q] at z; cases z
          · have z2 := un.frzs b ob _ z
            obtain ⟨e1, _⟩ := hok b _ z
            obtain ⟨e2, _⟩ := hok' b _ z2
            rw [e] at e1; cases e1
            exact .inl e2
          · obtain ⟨t1, t2, _⟩ := ht b z
            rw [e] at t1; cases t1
            obtain ⟨⟨ps, e1, _⟩, _⟩ := hok' b _ (qt b z)
            exact .inr (.inl ⟨t2, rfl, #[], ps, rfl, by rw [e1]; simp⟩)
  have okT : ∀ q, tb q → ∀ H : Hp, ObjOk P w H s₁.heap q (.ext (tabF q)) := fun q h H => ⟨⟨#[], (ht q h).1, trivial⟩, ⟨_, (ht q h).1⟩, fun h1 h2 t kp => let ⟨ps, e1, e2⟩ := t; ⟨ps, kp _ e1, e2⟩⟩
  cases hk : K.lookup a with
  | some o =>
    have e := KX a o hk
    rw [ha] at e
    cases e
    refine core (fun b => if tb b then some (.ext (tabF b)) else none) (fun b => ?_) (fun q h => if_pos h) (.inr ⟨_, vs.toArray, _, hk, rfl, rfl, rfl, by rw [List.size_toArray, lenV]; exact hl, by simpa using rv⟩) (fun b u z => ?_) (fun b z => ?_) fun z => ?_
    · by_cases hb : tb b
      · exact .inr (.inr ⟨hb, if_pos hb⟩)
      · exact .inl (if_neg hb)
    · by_cases hb : tb b
      · have z' := (if_pos hb).symm.trans z
        cases z'
        exact okT b hb _
      · have z' := (if_neg hb).symm.trans z
        cases z'
    · by_cases hb : tb b
      · exact .inr hb
      · exact absurd (if_neg hb) z
    · exact absurd (if_neg nta) z
  | none =>
    refine core (fun b => if tb b then some (.ext (tabF b)) else if b = a then some (.frz { cls := .type "list", data := .seq vs.toArray } (.lst (ns.map V.int))) else none) (fun b => ?_) (fun q h => if_pos h) (.inl (.inr ⟨{ cls := .type "list", data := .seq vs.toArray }, (if_neg nta).trans (if_pos rfl)⟩)) (fun b u z => ?_) (fun b z => ?_) fun _ => hk
    · by_cases hb : tb b
      · exact .inr (.inr ⟨hb, if_pos hb⟩)
      · by_cases hb2 : b = a
        · exact .inr (.inl ⟨_, _, (if_neg hb).trans (if_pos hb2)⟩)
        · exact .inl ((if_neg hb).trans (if_neg hb2))
    · by_cases hb : tb b
      · have z' := (if_pos hb).symm.trans z
        cases z'
        exact okT b hb _
      · by_cases hb2 : b = a
        · have z' := ((if_neg hb).trans (if_pos hb2)).symm.trans z
          cases z'
          subst hb2
          exact ⟨ha, by rw [List.length_map]; exact hl, vs, _, rv, ha⟩
        · have z' := ((if_neg hb).trans (if_neg hb2)).symm.trans z
          cases z'
    · by_cases hb : tb b
      · exact .inr hb
      · by_cases hb2 : b = a
        · exact .inl hb2
        · exact absurd ((if_neg hb).trans (if_neg hb2)) z
theorem tab_top {p : Program} {loose : List Str} {mean : ExcName → Option Value} {mg mb : Str → Option Value} {h : Heap} {K : PySem.W.Frag} {x : Str} {f q : Addr} {oc : Value} {od : Option Addr} {fd : FuncData} {sl : Array (Option Value)} (T : Top p loose mean mg mb h) (hx : (recsOf p).any (fun d => d.name == x) = true) (X : K.In h) (hm : mg x = some (.ref f)) (hl : K.lookup f = some ⟨oc, od, .func fd, sl⟩) (ht : tabIn K fd.code = some q) :
    h.get? q = some { cls := .none, data := .fields #[] } ∧ isCodeTable h q := by
  obtain ⟨d, hd, e⟩ := List.any_eq_true.mp hx
  have e : d.name = x := by simpa using e
  obtain ⟨a, o, fd', c, P, m1, g1, d1, c1, ⟨o2, vs, _, _, _, _, _, _, _, _, g2, d2, e11, _⟩, ⟨⟨o3, vs3, g3, k3, d3, e3⟩, t2⟩⟩ := T.tab d hd
  rw [e, hm] at m1
  cases m1
  have z := X _ _ hl
  rw [g1] at z
  cases z
  cases d1
  rw [c1] at ht
  unfold tabIn at ht
  dsimp only at ht
  split at ht
  · rename_i t x2 vs' x3 hk
    split at ht
    · rename_i et
      obtain ⟨_, _, _, _, _, _, _, _, _, _, _, _, e6⟩ := tabOf_ok ht
      have z := X _ _ hk
      rw [g3] at z
      cases z
      have d3 : Data.fields vs' = Data.fields vs3 := d3
      cases d3
      rw [e3] at e6
      cases e6
      exact ⟨t2, c, _, _, g3, k3, rfl, e3⟩
    · cases ht
  · cases ht
open Classical in
theorem walk_ofT {l : PySem.W.OpenLaw} {n k : Nat} {q : Program} {loose : List Str} {XP : (Str → Option Value) → Heap → Prop} {YP : World → Heap → Prop} {d : DefRec} {K : Params → PySem.W.Frag} {CX : World → CXT} {sp : World → (Addr → Prop) → Sp} {x : Str}
    (hi : PyProof.Rows.importsNone q = true) (hn : l.most = some n) (hn2 : n ≤ sizeLine) (hdf : d.params.defaults = []) (hr : Room k callerA)
    (hY : ∀ (w : World) (h : Heap), YP w h → (K w.params).In h)
    (F : ∀ (w : World) (mg : Str → Option Value) (fa : Addr) (h : Heap), (K w.params).In h → h.Ns mainGlobals mg → mg d.name = some (.ref fa) →
      ∃ (fd : FuncData) (tb : Addr → Prop), (∀ (s : Shared) (u : Value), BindsTo s fd ⟨[u], []⟩ [(x, u)]) ∧ (∀ p, tb p → ∃ y f oc od fd' sl, (recsOf q).any (fun d => d.name == y) = true ∧ mg y = some (.ref f) ∧ (K w.params).lookup f = some ⟨oc, od, .func fd', sl⟩ ∧ tabIn (K w.params) fd'.code = some p ∧ (K w.params).lookup p = none) ∧
        ∀ base : Heap, (K w.params).In base → base.Ns mainGlobals mg → FnOk l.prog w (K w.params) mg base (CX w) k fa fd [x] (sp w tb))
    (hsp : ∀ (w : World) (tb : Addr → Prop) (H : Hp) (a : Addr) (ns : List Int), ns.length ≤ n → (∀ q, tb q → H q = some (.ext (tabF q))) → SqL (K w.params) H a (ns.map V.int) → sp w tb [.ref a] H (fun v H' => v = .bl true ∧ ∀ q, tb q → H' q = some (.ext (tabF q))) fun _ _ _ => False)
    (hCX : ∀ (w : World) (H : Hp) (s : Shared) (e : Value) (s' : Shared), CX w [] H s (fun _ _ _ => False) e s' → False) :
    PySem.W.WalkO q loose XP YP l.row.toRowW d [] (fun f vs => PySem.call f vs) := by
  refine Att.attach_call hn hdf fun w s₀ s₁ mg mb fa o pm cd doc a vs ns G Y ho hd hcd hmg hobj hints hlen hg => ?_
  have KX := hY w _ Y
  obtain ⟨fd, tb, hb, ht, hF⟩ := F w mg fa _ KX G.T.g hmg
  refine law_callT KX G.T.g G.T.b G.T.builtins G.T.nolimit G.T.nodigits (G.T.seer hi) (let ⟨bm, ob, a, b, c, d, e, f⟩ := G.T.bmain; ⟨bm, ob, G.T.g, a, b, c, d, e, f⟩) hg hobj hints (Nat.le_trans hlen hn2) hr (fun p hp => ?_) hF hb (fun H hO hS => hsp w tb H a ns hlen hO hS) fun H e s' => hCX w H s₁ e s'
  obtain ⟨y, f, oc, od, fd', sl, h1, h2, h3, h4, h5⟩ := ht p hp
  obtain ⟨t1, t2⟩ := tab_top G.T h1 KX h2 h3 h4
  exact ⟨t1, t2, h5⟩
end L2
namespace Pv
open PySem L2 GB
section
variable [Tabs] {P : Program} {w : World} {K : PySem.W.Frag} {mg : Str → Option Value} {base : Heap} {dr : Dr} {T : Tab}
end
end Pv
namespace Pv
open PySem L2
variable [Tabs]
def WX (K : PySem.W.Frag) : XK → Exc → Feed → Hp → Prop := fun E x _ H => ∀ cls dx, XRep K H x cls dx → E cls dx H
noncomputable def GX (dr : Dr) (T : Tab) (k : Nat) (K : PySem.W.Frag) (E : XK) : Gx := ⟨⟨evF dr T k, dr⟩, WX K E⟩
abbrev Gx.wish (G : Gx) (K : PySem.W.Frag) (E : XK) : Gx := ⟨G.cfg, WX K E⟩
section
variable {G : Gx} {X : Cx} {pos p cpos : Pos} {e : Expr} {es : List Expr} {ies : IEs} {x : Str} {C : Addr} {E : XK}
theorem s_raise0 {k : String} (c0 : XC0 X.K C) (hxc : Tabs.xc k = some C) (hfl : xflds k = []) (F : Flies X E) (hW : G.W = WX X.K E) (hrz : G.cfg.dr.rz = true) (hm : X.mg x = some (.ref C)) (ha : QA G X (e :: es) ies) (hg : Gl X x := by rfl) (hc : X.calm = true := by rfl) (hx0 : X.ex = [] := by rfl) (hdb : (x == ("__debug__" : Str)) = false := by decide)
    (he : starEach (e :: es) X.env = (false, eval e X.env) :: starEach es X.env := by rfl) (hpl : (backTo cpos (starEach (e :: es) X.env)).any (·.1) = false := by rfl) : QS G X (.Raise (some (.Call (.Name x p) (e :: es) [] cpos)) none pos) (.raise k ies) := by
  obtain ⟨t, pt, ha⟩ := ha
  refine ⟨_, ps_raise0 c0 F hg hm hc hx0 pt hdb he hpl, fun c fps ρ F σ H D s h => ?_⟩
  unfold PostS at h
  simp only [evS, hrz, if_true, hfl] at h
  refine ha c fps ρ F σ H _ s ((h.bind.aft s.e0).mono fun vs F1 g1 us H1 e1 w1 => ?_)
  have s1 := s.aft e1
  obtain ⟨pd, ep, g2⟩ := g1.of
  split at g2
  · rename_i hz
    refine ⟨by rw [w1.length, ← datsV_length (ds := pd.1) (al := pd.2) ep]; exact hz, ?_⟩
    have q := g2 H1 s1.e0
    rw [hW] at q
    exact q (.ref C) none ⟨C, hxc, rfl, rfl, by rw [hfl]; rfl, hfl⟩
  · exact g2.elim
end
def QSt (G : Gx) (X : Cx) (st : Stmt) (is : IS) : Prop :=
  ∃ t : TS, PS X st t ∧ ∀ (c : Amb) (fps : Nat → List Addr) (ρ : Env) (F : Feed) (σ : L2.St) (H : Hp) (D : Ends), (∀ a, c.N a → c.E0 a ≠ none) → Sim X.K c fps ρ F σ H → PostS X.K c G.W D (evS G.cfg is ρ F) → t D σ H
def QSst (G : Gx) (X : Cx) (st : List Stmt) (is : ISs) : Prop :=
  ∃ t : TS, PSs X st t ∧ ∀ (c : Amb) (fps : Nat → List Addr) (ρ : Env) (F : Feed) (σ : L2.St) (H : Hp) (D : Ends), (∀ a, c.N a → c.E0 a ≠ none) → Sim X.K c fps ρ F σ H → PostS X.K c G.W D (evSs G.cfg is ρ F) → t D σ H
section
variable {G : Gx} {X : Cx} {pos : Pos}
theorem QS.t {st : Stmt} {is : IS} (h : QS G X st is) : QSt G X st is := let ⟨t, p, h⟩ := h; ⟨t, p, fun c fps ρ F σ H D _ => h c fps ρ F σ H D⟩
theorem QSs.t {st : List Stmt} {is : ISs} (h : QSs G X st is) : QSst G X st is := let ⟨t, p, h⟩ := h; ⟨t, p, fun c fps ρ F σ H D _ => h c fps ρ F σ H D⟩
theorem ss_consT {st : Stmt} {rest : List Stmt} {is : IS} {iss : ISs} (h1 : QSt G X st is) (h2 : QSst G X rest iss) : QSst G X (st :: rest) (.cons is iss) := by
  obtain ⟨t1, p1, h1⟩ := h1
  obtain ⟨t2, p2, h2⟩ := h2
  refine ⟨_, pss_cons p1 p2, fun c fps ρ F σ H D n s h => ?_⟩
  unfold PostS at h
  simp only [evSs] at h
  refine h1 c fps ρ F σ H _ n s (h.bind.mono fun fl F1 g => ?_)
  cases fl with
  | next ρ' => exact fun f1 σ1 H1 s1 => h2 c f1 ρ' F1 σ1 H1 D n s1 g
  | brk ρ' => exact g
  | cont ρ' => exact g
  | ret v => exact g
def tSem (K : PySem.W.Frag) (cfg : Cfg) (W : Exc → Feed → Hp → Prop) (iss : ISs) : TS := fun D σ H => ∃ c fps ρ F, Sim K c fps ρ F σ H ∧ PostS K c W D (evSs cfg iss ρ F)
theorem QSs.sem {st : List Stmt} {iss : ISs} (h : QSs G X st iss) : PSs X st (tSem X.K G.cfg G.W iss) := by
  obtain ⟨t, p, h⟩ := h
  intro pins s σ H D I ⟨c, fps, ρ, F, sm, q⟩
  exact p pins s σ H D I (h c fps ρ F σ H D sm q)
inductive QHs (G : Gx) (X : Cx) : List ExceptHandler → IHs → Prop where
  | nil : QHs G X [] .nil
  | cons {c : Str} {np hpos : Pos} {nm : Option Str} {b0 : Stmt} {suite : List Stmt} {rest : List ExceptHandler} {D : Addr} {i : Option Nat} {ss : ISs} {k : String} {hs : IHs} (hg : Gl X c) (hm : X.mg c = some (.ref D)) (hdb : (c == ("__debug__" : Str)) = false)
      (hn : (nm = none ∧ i = none) ∨ ∃ n j, nm = some n ∧ i = some j ∧ X.N[j]? = some n ∧ X.env.scope.names.lookup n = some .local) (hex : ∀ y C, Tabs.xc y = some C → PySem.W.exmOne X.K (.ref C) (.ref D) = some (xsub y k))
      (hsu : ∀ pn xe a, QSs G.nox ((X.pinned pn xe).inX a) (b0 :: suite) ss) (hr : QHs G X rest hs) : QHs G X (.ExceptHandler (some (.Name c np)) nm (b0 :: suite) hpos :: rest) (.cons k i ss hs)
theorem suite_sim {K : PySem.W.Frag} {c : Amb} {fps : Nat → List Addr} {ρ : Env} {F F1 : Feed} {σ : L2.St} {H H' : Hp} {x : Exc} {C a : Addr} {dx : Option Addr} {i : Option Nat} (nE : ∀ a, c.N a → c.E0 a ≠ none) (s : Sim K c fps ρ F σ H) (e : Aft c F1 c.E0 H') (hx : XRep K H' x (.ref C) dx) (ha : H' a = none) :
    Sim K c (fun _ => []) (suiteE ρ.length x i) F1 (suiteSt σ.length a i) (upd H' a (.ext (XF a C dx))) := by
  have sm : Same H' (upd H' a (.ext (XF a C dx))) := Same.upd ha
  have e2 : Aft c F1 c.E0 (upd H' a (.ext (XF a C dx))) := e.trans (Aft.of e.feed sm)
  exact {
    len := by cases i <;> simp [suiteE, suiteSt, s.len]
    slot := fun j v h => by
      cases i with
      | none =>
        unfold suiteE at h
        rw [List.getElem?_replicate] at h
        split at h <;> cases h
      | some i =>
        unfold suiteE at h
        rw [get_set] at h
        split at h
        · rename_i q
          cases h
          refine ⟨.ref a, ?_, a, C, dx, rfl, upd_same, hx.keep (fun b o _ q => sm b o q) fun v d _ q => q.same sm⟩
          unfold suiteSt
          rw [get_set, if_pos ⟨q.1, by simpa [s.len] using q.2⟩]
        · rw [List.getElem?_replicate] at h
          split at h <;> cases h
    emp := fun _ _ => rfl
    nd := fun _ => List.nodup_nil
    dj := fun i j a h => by simp at h
    new := fun i a h => by simp at h
    ent := e2.keep
    tb := s.tb
    p0 := s.p0
    ce0 := s.ce0
    feed := e2.feed
    np := s.np
    mu := fun b hb => by
      by_cases z : b = c.p
      · subst z
        exact e2.feed.mu
      · have m := s.mu b hb
        cases q : c.E0 b with
        | none => exact absurd q (nE b hb)
        | some o =>
          rw [s.ent b o q z] at m
          rw [e2.keep b o q z]
          exact m
    nN := fun i a h => by simp at h }
theorem Sim.unset {K : PySem.W.Frag} {c : Amb} {fps : Nat → List Addr} {ρ : Env} {F : Feed} {σ : L2.St} {H : Hp} (s : Sim K c fps ρ F σ H) (i : Nat) : Sim K c (fun k => if k = i then [] else fps k) (ρ.set i none) F (σ.set i none) H := by
  have sub : ∀ {k a}, a ∈ (if k = i then [] else fps k) → a ∈ fps k ∧ k ≠ i := fun {k a} h => by
    by_cases q : k = i
    · simp [q] at h
    · exact ⟨by simpa [q] using h, q⟩
  exact {
    len := by rw [List.length_set, List.length_set]; exact s.len
    slot := fun k v h => by
      rw [get_set] at h
      by_cases q : i = k
      · subst q
        by_cases q2 : i < ρ.length
        · rw [if_pos ⟨rfl, q2⟩] at h
          cases h
        · rw [if_neg fun z => q2 z.2, List.getElem?_eq_none (by omega)] at h
          cases h
      · rw [if_neg fun z => q z.1] at h
        obtain ⟨u, h1, h2⟩ := s.slot k v h
        refine ⟨u, by rw [get_set, if_neg fun z => q z.1]; exact h1, ?_⟩
        cases v with
        | dat d al =>
          cases al with
          | none =>
            show Ow K H (if k = i then [] else fps k) u d
            rw [if_neg fun z => q z.symm]
            exact h2
          | some S =>
            refine Dq.same (hid_mono fun a z => ?_) h2
            rcases z with z | ⟨j, n, z⟩
            · exact .inl z
            · exact .inr ⟨j, n, (sub z).1⟩
        | feed => exact h2
        | exc x => exact h2
    emp := fun k h => by
      by_cases q : k = i
      · rw [if_pos q]
      · rw [if_neg q]
        refine s.emp k fun d z => h d ?_
        rw [get_set, if_neg fun w => q w.1.symm]
        exact z
    nd := fun k => by
      by_cases q : k = i
      · rw [if_pos q]; exact List.nodup_nil
      · rw [if_neg q]; exact s.nd k
    dj := fun j k a h1 h2 => s.dj j k a (sub h1).1 (sub h2).1
    new := fun k a h => s.new k a (sub h).1
    ent := s.ent
    tb := s.tb
    p0 := s.p0
    ce0 := s.ce0
    feed := s.feed
    np := s.np
    mu := s.mu
    nN := fun k a h => s.nN k a (sub h).1 }
theorem s_try {body : List Stmt} {ib : ISs} {h0 : ExceptHandler} {handlers : List ExceptHandler} {ihs : IHs} (hN : X.N.Nodup)
    (hb : ∀ (pn : List (Addr × Obj)) (xe : Value → Shared → Prop) (E : XK), Flies (X.pinned pn xe) E → PassesOwn (model X.prog X.w) X.A X.env xe → QSs (G.wish X.K E) (X.pinned pn xe) body ib) (hh : QHs G X (h0 :: handlers) ihs)
    (hst : X.stack = X.env :: X.outer := by rfl) (hf : X.env.frame = some X.env.locals := by rfl) : QSt G X (.Try body (h0 :: handlers) [] [] pos) (.try_ ib ihs) := by
  have key : ∀ {l : List ExceptHandler} {ihs : IHs}, QHs G X l ihs → ∃ hs : List Cls3, PHs X l hs ∧ ∀ (c : Amb) (fps : Nat → List Addr) (ρ : Env) (F : Feed) (σ : L2.St) (H : Hp) (D : Ends) (x : Exc) (F1 : Feed) (H' : Hp) (cls : Value) (dx : Option Addr), (∀ a, c.N a → c.E0 a ≠ none) → Sim X.K c fps ρ F σ H → PostS X.K c G.W D (evXh G.cfg ihs x ρ.length F1) → Aft c F1 c.E0 H' → XRep X.K H' x cls dx → hRead X.K σ.length D hs cls dx H' := by
    intro l ihs hh
    induction hh with
    | nil => exact ⟨[], .nil, fun c fps ρ F σ H D x F1 H' cls dx _ _ h _ _ => h.elim⟩
    | @cons cn np hpos nm b0 suite rest Dk i ss k hs hg hm hdb hn hex hsu hr ih =>
      obtain ⟨l2, p2, h2⟩ := ih
      refine ⟨⟨Dk, i, tSem X.K G.cfg (fun _ _ _ => False) ss⟩ :: l2, .cons hg hm hdb hn (fun pn xe a => (hsu pn xe a).sem) p2, fun c fps ρ F σ H D x F1 H' cls dx nE s h e hx => ?_⟩
      obtain ⟨C, hC, rfl, hx3⟩ := id hx
      refine ⟨xsub x.cls k, hex _ _ hC, ?_⟩
      unfold PostS at h
      simp only [evXh] at h
      by_cases q : xsub x.cls k = true
      · rw [if_pos q] at h ⊢
        refine ⟨C, rfl, fun a ha => ?_⟩
        refine ⟨c, _, _, F1, suite_sim (i := i) nE s e hx ha, ?_⟩
        unfold PostS
        cases qs : evSs G.cfg ss (suiteE ρ.length x i) F1 with
        | stuck => rw [qs] at h; exact h.elim
        | exc y F2 => rw [qs] at h; exact h.elim
        | ok fl F2 =>
          rw [qs] at h
          have h : (PostM c G.W c.E0 (.ok (goneF i fl) F2) _) := h
          cases i with
          | none => exact h
          | some i =>
            have gone : ∀ {ρ' : Env} {fps' : Nat → List Addr} {σ' : L2.St} {H2 : Hp}, Sim X.K c fps' ρ' F2 σ' H2 → ∃ f3, Sim X.K c f3 (ρ'.set i none) F2 (σ'.set i none) H2 := fun s2 => ⟨_, s2.unset i⟩
            cases fl with
            | next ρ' => intro fps' σ' H2 s2; obtain ⟨f3, s3⟩ := gone s2; exact h f3 _ H2 s3
            | brk ρ' => intro fps' σ' H2 s2; obtain ⟨f3, s3⟩ := gone s2; exact h f3 _ H2 s3
            | cont ρ' => intro fps' σ' H2 s2; obtain ⟨f3, s3⟩ := gone s2; exact h f3 _ H2 s3
            | ret v => exact h
      · rw [if_neg q] at h ⊢
        exact h2 c fps ρ F σ H D x F1 H' _ dx nE s h e hx
  obtain ⟨hs, ph, hk⟩ := key hh
  refine ⟨_, ps_try hN hst hf (tb := fun E => tSem X.K G.cfg (WX X.K E) ib) (fun pn xe E F P => (hb pn xe E F P).sem) ph, fun c fps ρ F σ H D nE s h => ?_⟩
  refine ⟨c, fps, ρ, F, s, ?_⟩
  unfold PostS at h ⊢
  simp only [evS] at h
  cases q : evSs G.cfg ib ρ F with
  | stuck => rw [q] at h; exact h.elim
  | ok fl F1 => rw [q] at h; exact h
  | exc x F1 =>
    rw [q] at h
    exact fun H' e cls dx hx => hk c fps ρ F σ H D x F1 H' cls dx nE s h e hx
theorem xv_has {K : PySem.W.Frag} {H : Hp} {u : V} {x : Exc} (h : XV K H u x) : ∃ a C fs, u = .ref a ∧ XHas H a C fs ∧ Tabs.xc x.cls = some C ∧ ∃ vs, fs = ((xflds x.cls).map Str.ofString).zip vs ∧ DqAll K H vs x.args := by
  obtain ⟨a, C, dx, rfl, h1, C', h2, e, h3, h4, h5⟩ := h
  cases e
  cases dx with
  | none => exact ⟨a, C, [], rfl, ⟨none, h1, rfl⟩, h2, [], by rw [h5]; rfl, by rw [h5] at h4; cases q : x.args with | nil => exact .nil | cons _ _ => rw [q] at h4; simp at h4⟩
  | some d =>
    obtain ⟨vs, e1, e2⟩ := h5
    exact ⟨a, C, _, rfl, ⟨some d, h1, e1⟩, h2, vs, rfl, e2⟩
theorem q_isx {y z : Str} {p' : Pos} {k : String} {cv : V} (i : Nat) (hcl : ∀ c C, Tabs.xc c = some C → XCl X.K C ∧ PySem.W.kitOne X.K (.ref C) (clsVal cv) = some (xsub c k)) (hcv : (∃ D, cv = .ref D) ∨ ∃ T, cv = .ty T) (hz : PE X (.Name z p') (tC cv)) (hm : X.mg "isinstance" = none) {p pos pz : Pos} (hN : X.N[i]? = some y := by rfl) (hv : Vis X.env.scope y := by first | exact Or.inl rfl | exact Or.inr (Or.inl rfl) | exact Or.inr (Or.inr rfl)) (hd1 : (y == ("__debug__" : Str)) = false := by decide) (hcd : (y == ("__classdict__" : Str)) = false := by decide) (hg : Gl X "isinstance" := by rfl)
    (he : starEach [.Name y pz, .Name z p'] X.env = (false, eval (.Name y pz) X.env) :: starEach [.Name z p'] X.env := by rfl) (hpl : (backTo pos (starEach [.Name z p'] X.env)).any (·.1) = false := by rfl) (hs : starEach [.Name z p'] X.env = (false, eval (.Name z p') X.env) :: starEach [] X.env := by rfl) : QE G X (.Call (.Name "isinstance" p) [.Name y pz, .Name z p'] [] pos) (.isx i [k]) := by
  refine ⟨_, pe_callB call_isx hg hm (by decide +kernel) (pa_cons (pe_var hN hv hd1 hcd) (pa_cons hz pa_nil hs) he) (by decide) (by decide) he hpl, fun c fps ρ F σ H Q s h => ?_⟩
  simp only [evE] at h
  cases q : ρ[i]? with
  | none => rw [q] at h; exact h.elim
  | some o =>
    rw [q] at h
    cases o with
    | none => exact h.elim
    | some v =>
      cases v with
      | dat d al => exact h.elim
      | feed => exact h.elim
      | exc x =>
        obtain ⟨u, k1, k2⟩ := s.slot i _ q
        obtain ⟨a, C, fs, rfl, hx, hC, _⟩ := xv_has k2
        refine ⟨.ref a, k1, a, C, fs, cv, xsub x.cls k, rfl, hx, (hcl _ _ hC).1, .inl ⟨hcv, (hcl _ _ hC).2⟩, ?_⟩
        have h : ∀ u H', Aft c F H H' → VOk X.K c fps H H' u (.dat (.bool ([k].any (xsub x.cls))) none) → Q u H' := h
        refine h (.bl (xsub x.cls k)) H (Aft.refl s.feed) ?_
        simp only [List.any_cons, List.any_nil, Bool.or_false]
        exact bl_ok _
inductive XNs (X : Cx) : List Expr → List String → List V → Prop
  | nil : XNs X [] [] []
  | cons {z : Str} {p : Pos} {cv : V} {k : String} {es : List Expr} {ks : List String} {cvs : List V} (hz : PE X (.Name z p) (tC cv)) (hcv : (∃ D, cv = .ref D) ∨ ∃ T, cv = .ty T) (hk : ∀ c C, Tabs.xc c = some C → PySem.W.kitOne X.K (.ref C) (clsVal cv) = some (xsub c k)) (r : XNs X es ks cvs) : XNs X (.Name z p :: es) (k :: ks) (cv :: cvs)
def tCs (cvs : List V) : TA := fun _ H Q => Q cvs H
theorem XNs.pa {es : List Expr} {ks : List String} {cvs : List V} (h : XNs X es ks cvs) : PA X es (tCs cvs) := by
  induction h with
  | nil => exact pa_nil
  | cons hz _ _ _ ih => exact pa_cons hz ih
theorem XNs.any {es : List Expr} {ks : List String} {cvs : List V} (h : XNs X es ks cvs) {c : String} {C : Addr} (hc : Tabs.xc c = some C) : (∀ y ∈ cvs, (∃ D, y = .ref D) ∨ ∃ T, y = .ty T) ∧ PySem.W.kitAny X.K (.ref C) (cvs.map clsVal) = some (ks.any (xsub c)) := by
  induction h with
  | nil => exact ⟨fun y hy => by simp at hy, rfl⟩
  | @cons z p cv k es ks cvs hz hcv hk r ih =>
    obtain ⟨i1, i2⟩ := ih
    refine ⟨fun y hy => ?_, ?_⟩
    · rcases List.mem_cons.mp hy with rfl | hy
      · exact hcv
      · exact i1 y hy
    · rw [List.map_cons]
      unfold PySem.W.kitAny
      rw [hk _ _ hc, List.any_cons]
      cases xsub c k with
      | true => rfl
      | false => exact i2
theorem mem_lookupS {α : Type} {f : String} {d : α} : ∀ {l : List (String × α)}, l.lookup f = some d → (f, d) ∈ l
  | [], e => by simp at e
  | (k, v) :: l, e => by
    by_cases q : f = k
    · subst q
      have : v = d := by simpa [List.lookup] using e
      subst this
      simp
    · have hb : (f == k) = false := beq_eq_false_iff_ne.mpr q
      simp only [List.lookup, hb] at e
      exact List.mem_cons_of_mem _ (mem_lookupS e)
theorem countP_by {h : Heap} {vs : List Value} {xs : List PyData} {as : List Addr} {d : PyData} (rs : ReadsAll h vs xs as) (hxs : PyData.canLayAll0 xs = true) : vs.countP (fun y => PyData.eqv (SeqAt.readOf h y) d) = xs.countP fun y => PyData.eqv y d := by
  rw [← SeqAt.readsAll_map xs _ _ hxs rs, List.countP_map]
  rfl
def rCount (K : PySem.W.Frag) : V → List V → Hp → VK → Prop := fun x xs H Q => ∃ y ys e z, xs = [y] ∧ Dq K H x (.list ys) ∧ Dq K H y e ∧ countD ys e = some z ∧ Q (.int z) H
theorem mt_countL (hu : X.A.units + 64 < cLine) : MtR X "list.count" (rCount X.K) := by
  intro pins s σ H x xs v us Q I rx rxs h
  obtain ⟨y, ys, e, z, rfl, hd, he, ez, q⟩ := h
  cases rxs with
  | cons ry rt =>
    cases rt
    unfold countD at ez
    split at ez
    · rename_i c
      cases ez
      obtain ⟨c1, c2, c3⟩ := okIn_of c
      obtain ⟨as, r1⟩ := Dp.reads I e y _ (he.dp c1) ry
      obtain ⟨bs, r2⟩ := Dp.reads I (.list ys) x v (hd.dp (by simpa [PyData.canLay0] using c3)) rx
      cases r2 with
      | @list l o vs n _ _ h1 h2 h3 h4 =>
        obtain ⟨oc, od, odt, osl⟩ := o
        obtain rfl : oc = .type "list" := h2
        obtain rfl : odt = .seq vs n := h3
        refine call_meets PySem.F.slot_list_count ⟨_, h1, rfl⟩ PySem.F.entry_list_count (PySem.F.args_list_count_2 _ _) (SeqAt.list_countAt l vs n od osl _ (fun y => PyData.eqv (SeqAt.readOf s.heap y) e)) ⟨h1, SeqAt.items_eqAt h4 r1 c3 c1 (in_room hu c2), ?_⟩
        rw [countP_by h4 c3]
        exact ⟨.int _, H, I.tok _, ⟨_, rfl⟩, q⟩
    · cases ez
theorem q_count {a b : Expr} {ia ib : IE} {apos cpos : Pos} (hu : X.A.units + 64 < cLine) (ha : QE G X a ia) (hb : QE G X b ib) (hbase : attributeBase a "count" X.env (eval a X.env) = eval a X.env := by rfl)
    (hfew : ((backTo cpos (starEach [b] X.env)).all (fun x => !x.1) && (backToKw cpos (keywordEach [] X.env)).all (fun x => x.1.isSome)
      && decide ([b].length + ([] : List Keyword).length + (if ([] : List Keyword).isEmpty then 0 else 1) < 30)) = true := by rfl)
    (hline : (apos.endLine == cpos.line) = true := by rfl) (hst : starEach [b] X.env = (false, eval b X.env) :: starEach [] X.env := by rfl) (hplain : (backTo cpos (starEach [] X.env)).any (·.1) = false := by rfl) : QE G X (.Call (.Attribute a "count" apos) [b] [] cpos) (.count true ia ib) := by
  obtain ⟨ta, pa, ha⟩ := ha
  obtain ⟨tb, pb, hb⟩ := hb
  refine ⟨_, pe_bm PySem.F.plainAttrs_list PySem.F.slot_list_count PySem.F.type_list_count (mt_countL hu) pa (pa_cons pb pa_nil hst) hbase hfew hline hst hplain, fun c fps ρ F σ H Q s h => ?_⟩
  simp only [evE] at h
  refine ha c fps ρ F σ H _ s (h.bind.mono fun v1 F1 g1 u1 H1 e1 w1 => ?_)
  have s1 := s.aft e1
  obtain ⟨d, al, rfl, g2⟩ := g1.dat
  obtain ⟨ys, ey, g3⟩ := g2.of
  cases d with
  | list ys2 =>
    cases ey
    have a0 : Dq X.K (hid (av c fps (al.getD [])) H1) u1 (.list ys) := VOk.dq s1 w1 e1 (fun a z => s.avSome z) fun i z => z
    refine ⟨?_, ?_⟩
    · cases a0.un with
      | lst hs _ => exact .inl ⟨rfl, _, SqL.of hs⟩
    · refine hb c fps ρ F1 σ H1 _ s1 ((g3.bind.aft e1).mono fun v2 F2 g4 u2 H2 e2 w2 => ?_)
      have s2 := s1.aft e2
      obtain ⟨e, al', rfl, g5⟩ := g4.dat
      obtain ⟨z, ez, g6⟩ := g5.of
      have a1 : Dq X.K (hid (av c fps (al.getD [])) H2) u1 (.list ys) := VOk.dq s2 (w1.aft s e1 e2) (e1.trans e2) (fun a z => s.avSome z) fun i z => z
      have a2 : Dq X.K (hid (av c fps (al'.getD [])) H2) u2 e := VOk.dq s2 w2 e2 (fun a z => s1.avSome z) fun i z => z
      exact ⟨u2, ys, e, z, rfl, a1.un, a2.un, ez, g6 (.int z) H2 (e1.trans e2) (int_ok _)⟩
  | _ => cases ey
end
structure FnQN (P : Program) (w : World) (K : PySem.W.Frag) (mg : Str → Option Value) (base : Heap) (k : Nat) (x : Str) (ps : List Str) (sp : Sp) : Prop where
  ex : ∃ f fd, FnOkN P w K mg base k f fd ps sp ∧ mg x = some (.ref f) ∧ PySem.W.keepIn K (.ref f) = true ∧ Binds K fd ps []
section
variable {G : Gx} {X : Cx} {pos p : Pos} {e : Expr} {es : List Expr} {ies : IEs}
theorem q_callN {x : Str} {f : String} {ps : List Str} {j k : Nat} {cl : Orc} (Fq : FnQN X.prog X.w X.K X.mg X.base j x ps (Pr cl Wno X.K f)) (hr : RoomN k X.A) (hj : j ≤ k) (hcl : G.cfg.cl = cl) (hW : ∀ y F' H', G.W y F' H' → False) (ha : QA G X (e :: es) ies)
    (hg : Gl X x := by rfl) (hd : (x == ("__debug__" : Str)) = false := by decide) (he : starEach (e :: es) X.env = (false, eval e X.env) :: starEach es X.env := by rfl) (hpl : (backTo pos (starEach es X.env)).any (·.1) = false := by rfl) : QE G X (.Call (.Name x p) (e :: es) [] pos) (.call f ies) := by
  obtain ⟨fa, fd, F1, hm, kp, b⟩ := Fq.ex
  obtain ⟨t, pt, ha⟩ := ha
  have F2 : FnOkN X.prog X.w X.K X.mg X.base k fa fd ps (Pr cl Wno X.K f) := ⟨F1.len, fun A outer s H args us vs Q E hr => F1.run A outer s H args us vs Q E (hr.mono hj)⟩
  exact ⟨_, pe_callN (E := fun _ _ _ => False) F2 hr hg hm kp b pt hd he hpl, call_sem (WE := Wno) hcl (fun y F' H' z => hW y F' H' z) ha⟩
end
section
variable {P : Program} {w : World} {K : PySem.W.Frag} {mg : Str → Option Value} {base : Heap} {dr : Dr} {T : Tab}
theorem body_sem {WE : XK → Exc → Feed → Hp → Prop} {E : XK} {N : List Str} {k : Nat} {f : String} {fn : Fn} {c : Amb} {as : List Arg} {F : Feed} {H : Hp} {Q : VK} (hT : T f = some fn) (hns : fn.ns = N.length) (hE : c.E0 = H)
    (h : PostM c (WE E) H (evF dr T (k + 1) f as F) (fun v F' => ∀ u H', Aft c F' H H' → VOk K c (fun _ => []) H H' u v → Q u H')) : PostS K c (WE E) { nx := fun _ H' => Q .non H', rt := Q } (evSs ⟨evF dr T k, dr⟩ fn.body (startE N.length as) F) := by
  unfold evF at h
  rw [hT] at h
  dsimp only at h
  split at h
  · rw [hns] at h
    unfold PostS
    rw [hE]
    refine PostM.mono (k := fun fl F1 => PostM c (WE E) H (R.of (outV fl) F1) fun v F' => ∀ u H', Aft c F' H H' → VOk K c (fun _ => []) H H' u v → Q u H') (PostM.bind h) fun fl F1 g => ?_
    cases fl with
    | next ρ' =>
      intro f' σ' H' s'
      have e := s'.e0
      rw [hE] at e
      exact g .non H' e ⟨[], .flat rfl .non, List.nodup_nil, fun a z => by simp at z⟩
    | brk ρ' => exact g.elim
    | cont ρ' => exact g.elim
    | ret v => exact g
  · exact h.elim
theorem args_len {WE : XK → Exc → Feed → Hp → Prop} {ps : List Str} {k : Nat} {f : String} {fn : Fn} (hT : T f = some fn) (hps : fn.ps = ps.length) {us : List V} {H : Hp} {Q : VK} {E : XK} (h : Pr (evF dr T (k + 1)) WE K f us H Q E) : us.length = ps.length := by
  obtain ⟨c, as, F, _, _, _, _, _, ha, h⟩ := h
  rw [ha.length, ← hps]
  unfold evF at h
  rw [hT] at h
  dsimp only at h
  split at h
  · assumption
  · exact h.elim
theorem def_okX {x : Str} {st : Stmt} {N ps : List Str} {k r : Nat} {f : String} {fn : Fn} (D : Def K mg x st) (S : FnScope N ps (defScope st))
    (hb : ∀ (kV doc pm : Value) (an : Option Addr) (cdv ct : Value) (us : List Value), us.length = ps.length → bindArgs (PySem.W.fnOf x x (defArgs st) (defBody st) (defScope st) .none kV doc pm an cdv ct) ⟨us, []⟩ = pure (ps.zip us))
    (hT : T f = some fn) (hps : fn.ps = ps.length) (hns : fn.ns = N.length)
    (hbody : ∀ (fa : Addr) (cdv : Value) (A : Around) (outer : List PySem.Env) (s : Shared) (H : Hp) (E : XK), Room r (A.deeper (PyProof.Rows.envOfC x (defScope st) s.heap.objs.size fa cdv)) →
      QSst (GX dr T k K E) (cxOf (CX1 P w) P w K mg base N x (defScope st) fa cdv A outer s H E) (defBody st) fn.body) : FnQ P w K mg base (CX1 P w) (r + 1) x ps (Pr (evF dr T (k + 1)) (WX K) K f) := by
  obtain ⟨fa, fd, F1, hm⟩ := D.ex
  obtain ⟨oc, od, kV, doc, pm, an, cdv, ct, osl, rfl, lk, hcd⟩ := F1.ex
  refine ⟨fa, _, fn_of lk hcd S (fun us H Q E h => args_len hT hps h) (fun A outer s H us Q E hr h => ?_), hm, F1.kp, F1.binds hb⟩
  obtain ⟨c, as, F, hE, hF, hp, mu, tb, ha, h⟩ := h
  obtain ⟨t, pt, ht⟩ := hbody fa cdv A outer s H E hr
  refine ⟨t, pt, ht c (fun _ => []) (startE N.length as) F (L2.start N us) H _ (fun a z => ?_) (start_sim hE hF hp mu tb ha) (body_sem hT hns hE h)⟩
  rw [hE]
  intro q
  have := mu a z
  rw [q] at this
  exact this
theorem def_zeroX {x : Str} {st : Stmt} {N ps : List Str} {r : Nat} {f : String} (D : Def K mg x st) (S : FnScope N ps (defScope st))
    (hb : ∀ (kV doc pm : Value) (an : Option Addr) (cdv ct : Value) (us : List Value), us.length = ps.length → bindArgs (PySem.W.fnOf x x (defArgs st) (defBody st) (defScope st) .none kV doc pm an cdv ct) ⟨us, []⟩ = pure (ps.zip us)) : FnQ P w K mg base (CX1 P w) r x ps (Pr (evF dr T 0) (WX K) K f) := by
  obtain ⟨fa, fd, F1, hm⟩ := D.ex
  have no : ∀ us H Q E, ¬ Pr (evF dr T 0) (WX K) K f us H Q E := fun us H Q E h => by
    obtain ⟨c, as, F, _, _, _, _, _, _, h⟩ := h
    exact h
  exact ⟨fa, fd, ⟨fun us H Q E h => (no _ _ _ _ h).elim, fun A outer s H args us vs Q E _ _ _ _ h => (no _ _ _ _ h).elim⟩, hm, F1.kp, F1.binds hb⟩
theorem def_okN {x : Str} {st : Stmt} {N ps : List Str} {k r : Nat} {f : String} {fn : Fn} (D : Def K mg x st) (S : FnScope N ps (defScope st))
    (hb : ∀ (kV doc pm : Value) (an : Option Addr) (cdv ct : Value) (us : List Value), us.length = ps.length → bindArgs (PySem.W.fnOf x x (defArgs st) (defBody st) (defScope st) .none kV doc pm an cdv ct) ⟨us, []⟩ = pure (ps.zip us))
    (hT : T f = some fn) (hps : fn.ps = ps.length) (hns : fn.ns = N.length)
    (hbody : ∀ (fa : Addr) (cdv : Value) (A : Around) (outer : List PySem.Env) (s : Shared) (H : Hp) (E : XK), RoomN r (A.deeper (PyProof.Rows.envOfC x (defScope st) s.heap.objs.size fa cdv)) →
      QSs (Gk dr T k) (cxN P w K mg base N x (defScope st) fa cdv A outer s H E) (defBody st) fn.body) : FnQN P w K mg base (r + 1) x ps (Pr (evF dr T (k + 1)) Wno K f) := by
  obtain ⟨fa, fd, F1, hm⟩ := D.ex
  obtain ⟨oc, od, kV, doc, pm, an, cdv, ct, osl, rfl, lk, hcd⟩ := F1.ex
  refine ⟨fa, _, fn_ofN lk hcd S (fun us H Q E h => args_len hT hps h) (fun A outer s H us Q E hr h => ?_), hm, F1.kp, F1.binds hb⟩
  obtain ⟨c, as, F, hE, hF, hp, mu, tb, ha, h⟩ := h
  obtain ⟨t, pt, ht⟩ := hbody fa cdv A outer s H E hr
  exact ⟨t, pt, ht c (fun _ => []) (startE N.length as) F (L2.start N us) H _ (start_sim hE hF hp mu tb ha) (body_sem (WE := Wno) hT hns hE h)⟩
theorem def_zeroN {x : Str} {st : Stmt} {N ps : List Str} {r : Nat} {f : String} (D : Def K mg x st) (S : FnScope N ps (defScope st))
    (hb : ∀ (kV doc pm : Value) (an : Option Addr) (cdv ct : Value) (us : List Value), us.length = ps.length → bindArgs (PySem.W.fnOf x x (defArgs st) (defBody st) (defScope st) .none kV doc pm an cdv ct) ⟨us, []⟩ = pure (ps.zip us)) : FnQN P w K mg base r x ps (Pr (evF dr T 0) Wno K f) := by
  obtain ⟨fa, fd, F1, hm⟩ := D.ex
  have no : ∀ us H Q E, ¬ Pr (evF dr T 0) Wno K f us H Q E := fun us H Q E h => by
    obtain ⟨c, as, F, _, _, _, _, _, _, h⟩ := h
    exact h
  exact ⟨fa, fd, ⟨fun us H Q E h => (no _ _ _ _ h).elim, fun A outer s H args us vs Q E _ _ _ _ h => (no _ _ _ _ h).elim⟩, hm, F1.kp, F1.binds hb⟩
end
end Pv
namespace Pv
open PySem L2 GB
def top (i : Nat) : Stmt := PySem.Challenge.pw_gentlebends_k02_fractions_reckoned.main.body.getD i (.Pass ⟨0, 0, 0, 0⟩)
abbrev s_p_common_of : Stmt := top 18
theorem sc_p_common_of : FnScope ["a", "b"] ["a", "b"] (defScope s_p_common_of) := ⟨rfl, rfl, rfl, by decide +kernel, rfl, by decide +kernel, by decide +kernel⟩
abbrev s_p_fraction_of : Stmt := top 19
theorem sc_p_fraction_of : FnScope ["n", "d", "common"] ["n", "d"] (defScope s_p_fraction_of) := ⟨rfl, rfl, rfl, by decide +kernel, rfl, by decide +kernel, by decide +kernel⟩
abbrev s_p_plus_by : Stmt := top 20
theorem sc_p_plus_by : FnScope ["one", "other", "a", "b", "c", "d", "common", "part", "n", "rest"] ["one", "other"] (defScope s_p_plus_by) := ⟨rfl, rfl, rfl, by decide +kernel, rfl, by decide +kernel, by decide +kernel⟩
abbrev s_p_contrary_of : Stmt := top 21
theorem sc_p_contrary_of : FnScope ["one"] ["one"] (defScope s_p_contrary_of) := ⟨rfl, rfl, rfl, by decide +kernel, rfl, by decide +kernel, by decide +kernel⟩
abbrev s_p_minus_by : Stmt := top 22
theorem sc_p_minus_by : FnScope ["one", "other"] ["one", "other"] (defScope s_p_minus_by) := ⟨rfl, rfl, rfl, by decide +kernel, rfl, by decide +kernel, by decide +kernel⟩
abbrev s_p_times_by : Stmt := top 23
theorem sc_p_times_by : FnScope ["one", "other", "a", "b", "c", "d", "first", "second"] ["one", "other"] (defScope s_p_times_by) := ⟨rfl, rfl, rfl, by decide +kernel, rfl, by decide +kernel, by decide +kernel⟩
abbrev s_p_over_by : Stmt := top 24
theorem sc_p_over_by : FnScope ["one", "other", "n", "d"] ["one", "other"] (defScope s_p_over_by) := ⟨rfl, rfl, rfl, by decide +kernel, rfl, by decide +kernel, by decide +kernel⟩
abbrev s_feed : Stmt := top 26
theorem sc_feed : FnScope ["_law_script"] ["_law_script"] (defScope s_feed) := ⟨rfl, rfl, rfl, by decide +kernel, rfl, by decide +kernel, by decide +kernel⟩
abbrev s_draw : Stmt := top 27
theorem sc_draw : FnScope ["_law_feed_here", "_law_many", "_law_turn", "_law_found", "_law_at", "_law_cell", "_law_mixed"] ["_law_feed_here", "_law_many"] (defScope s_draw) := ⟨rfl, rfl, rfl, by decide +kernel, rfl, by decide +kernel, by decide +kernel⟩
abbrev s_lowest : Stmt := top 28
theorem sc_lowest : FnScope ["_law_top", "_law_bottom", "_law_one", "_law_other"] ["_law_top", "_law_bottom"] (defScope s_lowest) := ⟨rfl, rfl, rfl, by decide +kernel, rfl, by decide +kernel, by decide +kernel⟩
abbrev s_number : Stmt := top 29
theorem sc_number : FnScope ["_law_feed_here", "_law_way", "_law_found", "_law_k"] ["_law_feed_here"] (defScope s_number) := ⟨rfl, rfl, rfl, by decide +kernel, rfl, by decide +kernel, by decide +kernel⟩
abbrev s_fraction : Stmt := top 30
theorem sc_fraction : FnScope ["_law_feed_here", "_law_top", "_law_bottom"] ["_law_feed_here"] (defScope s_fraction) := ⟨rfl, rfl, rfl, by decide +kernel, rfl, by decide +kernel, by decide +kernel⟩
abbrev s_is_alone : Stmt := top 31
theorem sc_is_alone : FnScope ["_law_e", "_law_own", "_law_sorts"] ["_law_e", "_law_own"] (defScope s_is_alone) := ⟨rfl, rfl, rfl, by decide +kernel, rfl, by decide +kernel, by decide +kernel⟩
abbrev s_told : Stmt := top 32
theorem sc_told : FnScope ["_law_way", "_law_one", "_law_other", "_law_found", "_law_e"] ["_law_way", "_law_one", "_law_other"] (defScope s_told) := ⟨rfl, rfl, rfl, by decide +kernel, rfl, by decide +kernel, by decide +kernel⟩
abbrev s_right : Stmt := top 33
theorem sc_right : FnScope ["_law_one", "_law_other", "_law_n", "_law_d", "_law_due"] ["_law_one", "_law_other", "_law_n", "_law_d"] (defScope s_right) := ⟨rfl, rfl, rfl, by decide +kernel, rfl, by decide +kernel, by decide +kernel⟩
abbrev s_p_law : Stmt := top 34
theorem sc_p_law : FnScope ["_law_script", "_law_feed_here", "_law_way", "_law_one", "_law_other", "_law_some", "_law_n", "_law_d", "_law_turn"] ["_law_script"] (defScope s_p_law) := ⟨rfl, rfl, rfl, by decide +kernel, rfl, by decide +kernel, by decide +kernel⟩
def clsInit : Stmt → Stmt
  | .ClassDef _ _ _ (s :: _) _ _ _ _ _ _ _ => s
  | s => s
structure Bs (mg : Str → Option Value) : Prop where
  ValueError : mg "ValueError" = none
  abs : mg "abs" = none
  int : mg "int" = none
  isinstance : mg "isinstance" = none
  len : mg "len" = none
  list : mg "list" = none
  range : mg "range" = none
  repr : mg "repr" = none
section
variable [Tabs] {P : Program} {w : World} {K : PySem.W.Frag} {mg : Str → Option Value} {base : Heap}
theorem okq_draw (D : Def K mg "_law_draw" s_draw) (B : Bs mg) : FnQ P w K mg base CX0 1 "_law_draw" ["_law_feed_here", "_law_many"] (PrDraw (drD false)) := by
  refine FnQ.ofIs (D.ok sc_draw (fun _ _ _ _ _ _ us hl => match us, hl with | [_, _], _ => rfl) (fun vs H Q E h => ?_) (fun f cdv A outer s H vs Q E hr h => ?_))
  · obtain ⟨c, F, m, q, rfl, _⟩ := h
    rfl
  · obtain ⟨⟨p, c, N, E0⟩, ⟨cs, a, l, t, b⟩, m, q, rfl, F, hd, k⟩ := h
    obtain ⟨hb, hm, hm2, hn, rfl⟩ := drD_inv hd
    dsimp only at hb hn F
    subst hb
    have hp : H p = some (.dK (feedL c a l t)) := F.at_p
    have hc : H c = some (.lst (cs.map V.int)) := F.at_ce
    have hcs : cs.length ≤ 63 := F.len
    have ht0 : 0 ≤ t := F.turn
    have npc : c ≠ p := F.ne
    have hlog : m.natAbs.log2 < 9000 := by
      have := log2_le (k := 63) (n := m.natAbs) (by omega)
      omega
    have nd := sc_draw.nd
    have hu := hu_of hr
    refine ⟨_, pss_cons (ps_set (i := 2) nd rfl (Or.inl rfl) (pe_op op_add (pe_dget hu (pv 0) (pe_str) (fun _ _ => rfl)) (pe_int)))
      (pss_cons (ps_dput hu (pv 0) (pe_str) (pv 2) rfl)
      (pss_cons (ps_if (pt_cmpR op_gt (pe_dget hu (pv 0) (pe_str) (fun _ _ => rfl)) (pe_int) (nomark _))
        (pss_cons (ps_set (i := 3) nd rfl (Or.inl rfl) (pe_op op_mod (pe_dget hu (pv 0) (pe_str) (fun _ _ => rfl)) (pv 1)))
        (pss_cons (ps_dput hu (pv 0) (pe_str) (pe_op op_fdivB (pe_dget hu (pv 0) (pe_str) (fun _ _ => rfl)) (pv 1)) rfl)
        (pss_one (ps_ret (pv 3)))))
        (pss_nil))
      (pss_cons (ps_set (i := 4) nd rfl (Or.inl rfl) (pe_dget hu (pv 0) (pe_str) (fun _ _ => rfl)))
      (pss_cons (ps_dput hu (pv 0) (pe_str) (pe_op op_add (pv 4) (pe_int)) rfl)
      (pss_cons (ps_set (i := 5) nd rfl (Or.inl rfl) (pe_ifExp (pt_cmpR (op_neD hr.units) (pe_dget hu (pv 0) (pe_str) (fun _ _ => rfl)) (pe_lst (pa_nil)) (nomark _)) (pe_ix ix_list (pe_dget hu (pv 0) (pe_str) (fun _ _ => rfl)) (pe_op op_mod (pv 4) (pe_callB call_len_seq (by rfl) B.len (by decide +kernel) (pa_cons (pe_dget hu (pv 0) (pe_str) (fun _ _ => rfl)) pa_nil))) (fun _ _ => rfl)) (pe_int)))
      (pss_cons (ps_if (PW.pt (pw_and (pt_cmpR op_ge (pv 5) (pe_op op_pow (pe_int) (pe_int)) (nomark _)) (pw_and1 (pt_cmpR op_lt (pv 4) (pe_callB call_len_seq (by rfl) B.len (by decide +kernel) (pa_cons (pe_dget hu (pv 0) (pe_str) (fun _ _ => rfl)) pa_nil)) (nomark _)))))
        (pss_cons (ps_dput hu (pv 0) (pe_str) (pe_op op_fdivB (pv 5) (pv 1)) rfl)
        (pss_one (ps_ret (pe_op op_mod (pv 5) (pv 1)))))
        (pss_nil))
      (pss_cons (ps_set (i := 6) nd rfl (Or.inl rfl) (pe_op op_mod (pe_op op_pow (pe_op op_add (pe_op op_add (pe_op op_mod (pv 5) (pe_int)) (pe_op op_mul (pe_int) (pv 2))) (pe_int)) (pe_int)) (pe_int)))
      (pss_cons (ps_set (i := 6) nd rfl (Or.inl rfl) (pe_op op_mod (pe_op op_pow (pe_op op_add (pe_op op_mul (pv 6) (pe_op op_add (pe_op op_mul (pe_int) (pv 2)) (pe_int))) (pe_int)) (pe_int)) (pe_int)))
      (pss_one (ps_ret (pe_op op_mod (pe_op op_fdiv (pv 6) (pe_int)) (pv 1)))))))))))), ?_⟩
    have lz : ∀ (c : Addr) (a l t : Int), (feedL c a l t).length < sizeLine := fun _ _ _ _ => small1000 (by show 4 ≤ 1000; decide)
    refine ⟨_, rfl, p, _, rfl, get_turn hp, _, _, rfl, rfl, ?_⟩
    refine ⟨_, rfl, _, rfl, p, _, rfl, DPut.k (k := .inr "turn") hp (lz _ _ _ _), ?_⟩
    rw [put_turn]
    have hp1 : (upd H p (.dK (feedL c a l (t + 1)))) p = some (.dK (feedL c a l (t + 1))) := upd_same
    have hc1 : (upd H p (.dK (feedL c a l (t + 1)))) c = some (.lst (cs.map V.int)) := by rw [upd_ne npc]; exact hc
    have S1 : SameX p H (upd H p (.dK (feedL c a l (t + 1)))) := sameX_upd (.inl rfl)
    generalize upd H p (.dK (feedL c a l (t + 1))) = H1 at *
    refine ⟨_, rfl, p, _, rfl, get_left hp1, _, _, rfl, rfl, _, rfl, ?_⟩
    refine ite2 (fun h1 => ?_) (fun h1 => ?_)
    · have h1 : 0 < l := of_decide_eq_true h1
      refine ⟨_, rfl, p, _, rfl, get_left hp1, _, rfl, _, _, rfl, rfl, hm, ?_⟩
      refine ⟨_, rfl, p, _, rfl, get_left hp1, _, rfl, _, _, rfl, rfl, ⟨by omega, hlog⟩, _, rfl, p, _, rfl, DPut.k (k := .inr "left") hp1 (lz _ _ _ _), ?_⟩
      rw [put_left]
      rw [drv_left (F := ⟨cs, a, l, t, false⟩) h1] at k
      exact ⟨_, rfl, k _ (aft_draw (S1.trans (sameX_upd (.inl rfl))) ⟨upd_same, by rw [upd_ne npc]; exact hc1, hcs, by show 0 ≤ t + 1; omega, npc⟩)⟩
    · have h1 : ¬ 0 < l := by simpa using h1
      refine ⟨_, rfl, p, _, rfl, get_at hp1, ?_⟩
      refine ⟨_, rfl, _, _, rfl, rfl, _, rfl, p, _, rfl, DPut.k (k := .inr "at") hp1 (lz _ _ _ _), ?_⟩
      rw [put_at]
      have hp2 : (upd H1 p (.dK (feedL c (a + 1) l (t + 1)))) p = some (.dK (feedL c (a + 1) l (t + 1))) := upd_same
      have hc2 : (upd H1 p (.dK (feedL c (a + 1) l (t + 1)))) c = some (.lst (cs.map V.int)) := by rw [upd_ne npc]; exact hc1
      have S2 : SameX p H (upd H1 p (.dK (feedL c (a + 1) l (t + 1)))) := S1.trans (sameX_upd (.inl rfl))
      generalize upd H1 p (.dK (feedL c (a + 1) l (t + 1))) = H2 at *
      refine ⟨_, rfl, p, _, rfl, get_cells hp2, Nat.zero_le _, fun q hq => ?_⟩
      have hp3 : (upd H2 q (.lst [])) p = some (.dK (feedL c (a + 1) l (t + 1))) := by rw [upd_ne (ne_of_none hp2 hq)]; exact hp2
      have hc3 : (upd H2 q (.lst [])) c = some (.lst (cs.map V.int)) := by rw [upd_ne (ne_of_none hc2 hq)]; exact hc2
      have hq3 : (upd H2 q (.lst [])) q = some (.lst []) := upd_same
      have S3 : SameX p H (upd H2 q (.lst [])) := S2.trans (sameX_upd (.inr hq))
      generalize upd H2 q (.lst []) = H3 at *
      refine ⟨.list (cs.map PyData.int), .list [], .lst (SqL.of hc3) (dp_ints K H3 cs), .lst (SqL.of hq3) .nil, shaped_ints cs, rfl, _, rfl, ?_⟩
      refine ite2 (fun h2 => ?_) (fun h2 => ?_)
      · have hpos : 0 < cs.length := by
          cases cs with
          | nil => simp [PyData.eqv, PyData.eqvAll] at h2
          | cons x r => simp
        have hpos' : (0 : Int) < ((cs.map V.int).length : Nat) := by rw [List.length_map]; omega
        obtain ⟨b1, b2⟩ := mod_bd a ((cs.map V.int).length : Nat) hpos'
        obtain ⟨cell, hcell⟩ : ∃ cell : Int, (cs.map V.int)[(a % ((cs.map V.int).length : Nat)).toNat]? = some (.int cell) := by
          have hlt : (a % ((cs.map V.int).length : Nat)).toNat < cs.length := by rw [List.length_map] at b2 ⊢; omega
          exact ⟨cs[(a % ((cs.map V.int).length : Nat)).toNat], by rw [List.getElem?_map, List.getElem?_eq_getElem hlt]; rfl⟩
        refine ⟨_, rfl, p, _, rfl, get_cells hp3, _, rfl, _, rfl, p, _, rfl, get_cells hp3, c, _, rfl, .inl (SqL.of hc3), _, _, rfl, rfl, hpos', c, _, _, _, rfl, rfl, SqL.of hc3, at_of (j := (a % ((cs.map V.int).length : Nat)).toNat) (by omega) hcell, ?_⟩
        have ec : cellF ⟨cs, a, l, t, false⟩ = cell := cell_of hcell
        have finB : (10 : Int) ^ 18 ≤ cell → a < cs.length → ∀ H4, H4 p = some (.dK (feedL c (a + 1) ((cell).fdiv m) (t + 1))) → SameX p H3 H4 → Q (.int (cell % m)) H4 := fun g1 g2 H4 e1 e2 => by
          rw [drv_big (F := ⟨cs, a, l, t, false⟩) h1 (by rw [ec]; exact g1) g2, ec] at k
          exact k H4 (aft_draw (S3.trans e2) ⟨e1, e2 _ _ hc3 npc, hcs, by show 0 ≤ t + 1; omega, npc⟩)
        have finM : ¬ ((10 : Int) ^ 18 ≤ cell ∧ a < cs.length) → Q (.int (mixT cell (t + 1) % m)) H3 := fun g1 => by
          rw [drv_mix (F := ⟨cs, a, l, t, false⟩) h1 (by rw [ec]; exact g1), ec] at k
          exact k H3 (aft_draw S3 ⟨hp3, hc3, hcs, by show 0 ≤ t + 1; omega, npc⟩)
        refine ⟨_, rfl, _, _, rfl, rfl, ⟨by decide, by decide, by decide⟩, _, _, rfl, rfl, _, rfl, ?_⟩
        have hmix := mod_bd cell 2147483629 (by decide)
        refine ite2 (fun h3 => ?_) (fun h3 => ?_)
        · refine ⟨_, rfl, _, rfl, p, _, rfl, get_cells hp3, c, _, rfl, .inl (SqL.of hc3), _, _, rfl, rfl, _, rfl, ?_⟩
          refine ite2 (fun h4 => ?_) (fun h4 => ?_)
          · refine ⟨_, rfl, _, rfl, _, _, rfl, rfl, ⟨by omega, hlog⟩, _, rfl, p, _, rfl, DPut.k (k := .inr "left") hp3 (lz _ _ _ _), ?_⟩
            rw [put_left]
            exact ⟨_, rfl, _, rfl, _, _, rfl, rfl, hm, finB (by simpa using h3) (by simpa using h4) _ upd_same (sameX_upd (.inl rfl))⟩
          · refine ⟨_, rfl, _, _, rfl, rfl, (by show (0 : Int) < 2147483629; decide), _, rfl, _, _, rfl, rfl, .inl ⟨by decide, by decide⟩, _, _, rfl, rfl, _, _, rfl, rfl, _, _, rfl, rfl, ⟨by decide, by decide, by omega⟩, _, _, rfl, rfl, (by show (0 : Int) < 2147483647; decide), ?_⟩
            obtain ⟨m1, m2⟩ := mod_bd ((cell % 2147483629 + 7919 * (t + 1) + 1) ^ (5 : Int).toNat) 2147483647 (by decide)
            obtain ⟨n1, n2⟩ := mix_bd (t := t + 1) m1 m2 (by omega) (by omega)
            refine ⟨_, rfl, _, rfl, _, _, rfl, rfl, .inl ⟨by decide, by decide⟩, _, _, rfl, rfl, _, _, rfl, rfl, .inl ⟨by omega, by omega⟩, _, _, rfl, rfl, _, _, rfl, rfl, ⟨by decide, by decide, pow_bound n1 n2⟩, _, _, rfl, rfl, (by show (0 : Int) < 2147483629; decide), ?_⟩
            refine ⟨_, rfl, _, _, rfl, rfl, ⟨by decide, by decide⟩, _, rfl, _, _, rfl, rfl, hm, ?_⟩
            exact finM (fun g => by simp at h4; omega)
        · refine iteF ?_
          refine ⟨_, rfl, _, _, rfl, rfl, (by show (0 : Int) < 2147483629; decide), _, rfl, _, _, rfl, rfl, .inl ⟨by decide, by decide⟩, _, _, rfl, rfl, _, _, rfl, rfl, _, _, rfl, rfl, ⟨by decide, by decide, by omega⟩, _, _, rfl, rfl, (by show (0 : Int) < 2147483647; decide), ?_⟩
          obtain ⟨m1, m2⟩ := mod_bd ((cell % 2147483629 + 7919 * (t + 1) + 1) ^ (5 : Int).toNat) 2147483647 (by decide)
          obtain ⟨n1, n2⟩ := mix_bd (t := t + 1) m1 m2 (by omega) (by omega)
          refine ⟨_, rfl, _, rfl, _, _, rfl, rfl, .inl ⟨by decide, by decide⟩, _, _, rfl, rfl, _, _, rfl, rfl, .inl ⟨by omega, by omega⟩, _, _, rfl, rfl, _, _, rfl, rfl, ⟨by decide, by decide, pow_bound n1 n2⟩, _, _, rfl, rfl, (by show (0 : Int) < 2147483629; decide), ?_⟩
          refine ⟨_, rfl, _, _, rfl, rfl, ⟨by decide, by decide⟩, _, rfl, _, _, rfl, rfl, hm, ?_⟩
          exact finM (fun g => by simp at h3; omega)
      · skip
        have ec : cellF ⟨cs, a, l, t, false⟩ = (0 : Int) := cell_none (by cases cs with | nil => rfl | cons x r => simp [PyData.eqv, PyData.eqvAll] at h2)
        have finB : (10 : Int) ^ 18 ≤ (0 : Int) → a < cs.length → ∀ H4, H4 p = some (.dK (feedL c (a + 1) (((0 : Int)).fdiv m) (t + 1))) → SameX p H3 H4 → Q (.int ((0 : Int) % m)) H4 := fun g1 g2 H4 e1 e2 => by
          rw [drv_big (F := ⟨cs, a, l, t, false⟩) h1 (by rw [ec]; exact g1) g2, ec] at k
          exact k H4 (aft_draw (S3.trans e2) ⟨e1, e2 _ _ hc3 npc, hcs, by show 0 ≤ t + 1; omega, npc⟩)
        have finM : ¬ ((10 : Int) ^ 18 ≤ (0 : Int) ∧ a < cs.length) → Q (.int (mixT (0 : Int) (t + 1) % m)) H3 := fun g1 => by
          rw [drv_mix (F := ⟨cs, a, l, t, false⟩) h1 (by rw [ec]; exact g1), ec] at k
          exact k H3 (aft_draw S3 ⟨hp3, hc3, hcs, by show 0 ≤ t + 1; omega, npc⟩)
        refine ⟨_, rfl, _, _, rfl, rfl, ⟨by decide, by decide, by decide⟩, _, _, rfl, rfl, _, rfl, ?_⟩
        have hmix := mod_bd (0 : Int) 2147483629 (by decide)
        refine ite2 (fun h3 => ?_) (fun h3 => ?_)
        · refine ⟨_, rfl, _, rfl, p, _, rfl, get_cells hp3, c, _, rfl, .inl (SqL.of hc3), _, _, rfl, rfl, _, rfl, ?_⟩
          refine ite2 (fun h4 => ?_) (fun h4 => ?_)
          · refine ⟨_, rfl, _, rfl, _, _, rfl, rfl, ⟨by omega, hlog⟩, _, rfl, p, _, rfl, DPut.k (k := .inr "left") hp3 (lz _ _ _ _), ?_⟩
            rw [put_left]
            exact ⟨_, rfl, _, rfl, _, _, rfl, rfl, hm, finB (by simpa using h3) (by simpa using h4) _ upd_same (sameX_upd (.inl rfl))⟩
          · refine ⟨_, rfl, _, _, rfl, rfl, (by show (0 : Int) < 2147483629; decide), _, rfl, _, _, rfl, rfl, .inl ⟨by decide, by decide⟩, _, _, rfl, rfl, _, _, rfl, rfl, _, _, rfl, rfl, ⟨by decide, by decide, by omega⟩, _, _, rfl, rfl, (by show (0 : Int) < 2147483647; decide), ?_⟩
            obtain ⟨m1, m2⟩ := mod_bd (((0 : Int) % 2147483629 + 7919 * (t + 1) + 1) ^ (5 : Int).toNat) 2147483647 (by decide)
            obtain ⟨n1, n2⟩ := mix_bd (t := t + 1) m1 m2 (by omega) (by omega)
            refine ⟨_, rfl, _, rfl, _, _, rfl, rfl, .inl ⟨by decide, by decide⟩, _, _, rfl, rfl, _, _, rfl, rfl, .inl ⟨by omega, by omega⟩, _, _, rfl, rfl, _, _, rfl, rfl, ⟨by decide, by decide, pow_bound n1 n2⟩, _, _, rfl, rfl, (by show (0 : Int) < 2147483629; decide), ?_⟩
            refine ⟨_, rfl, _, _, rfl, rfl, ⟨by decide, by decide⟩, _, rfl, _, _, rfl, rfl, hm, ?_⟩
            exact finM (fun g => by simp at h4; omega)
        · refine iteF ?_
          refine ⟨_, rfl, _, _, rfl, rfl, (by show (0 : Int) < 2147483629; decide), _, rfl, _, _, rfl, rfl, .inl ⟨by decide, by decide⟩, _, _, rfl, rfl, _, _, rfl, rfl, _, _, rfl, rfl, ⟨by decide, by decide, by omega⟩, _, _, rfl, rfl, (by show (0 : Int) < 2147483647; decide), ?_⟩
          obtain ⟨m1, m2⟩ := mod_bd (((0 : Int) % 2147483629 + 7919 * (t + 1) + 1) ^ (5 : Int).toNat) 2147483647 (by decide)
          obtain ⟨n1, n2⟩ := mix_bd (t := t + 1) m1 m2 (by omega) (by omega)
          refine ⟨_, rfl, _, rfl, _, _, rfl, rfl, .inl ⟨by decide, by decide⟩, _, _, rfl, rfl, _, _, rfl, rfl, .inl ⟨by omega, by omega⟩, _, _, rfl, rfl, _, _, rfl, rfl, ⟨by decide, by decide, pow_bound n1 n2⟩, _, _, rfl, rfl, (by show (0 : Int) < 2147483629; decide), ?_⟩
          refine ⟨_, rfl, _, _, rfl, rfl, ⟨by decide, by decide⟩, _, rfl, _, _, rfl, rfl, hm, ?_⟩
          exact finM (fun g => by simp at h3; omega)
theorem okq_feed (D : Def K mg "_law_feed" s_feed) (B : Bs mg) : FnQ P w K mg base CX0 1 "_law_feed" ["_law_script"] (PrFeed K false) := by
  refine FnQ.ofIs (D.ok sc_feed (fun _ _ _ _ _ _ us hl => match us, hl with | [_], _ => rfl) (fun vs H Q E h => ?_) (fun f cdv A outer s H vs Q E hr h => ?_))
  · obtain ⟨a, ns, rfl, _⟩ := h
    rfl
  · obtain ⟨a, ns, rfl, hS, k⟩ := h
    refine ⟨_, pss_one (ps_ret (pe_disp (pps_cons (pe_str) (pe_callTy call_list_of (by rfl) B.list (by decide +kernel) (pa_cons (pe_slice sl_list (pv 0) po_none (po_some (pe_int))) pa_nil)) (pps_cons (pe_str) (pe_int) (pps_cons (pe_str) (pe_int) (pps_cons (pe_str) (pe_int) pps_nil)))) (by rfl) (by rfl) (fun z => by cases z) (by decide))), ?_⟩
    intro p hp
    have S1 : Same H (upd H p (.dK [])) := Same.upd hp
    have hp1 : (upd H p (.dK [])) p = some (.dK []) := upd_same
    generalize upd H p (.dK []) = H1 at *
    refine ⟨_, rfl, _, rfl, a, _, rfl, S1.seq hS, fun q hq => ?_⟩
    have S2 : Same H1 (upd H1 q (.lst (cutV (ns.map V.int) none (some 63)))) := Same.upd hq
    have hq2 : (upd H1 q (.lst (cutV (ns.map V.int) none (some 63)))) q = some (.lst (cutV (ns.map V.int) none (some 63))) := upd_same
    generalize upd H1 q (.lst (cutV (ns.map V.int) none (some 63))) = H2 at *
    refine ⟨q, _, rfl, .inl (SqL.of hq2), fun c hc => ?_⟩
    have S3 : Same H2 (upd H2 c (.lst (cutV (ns.map V.int) none (some 63)))) := Same.upd hc
    have hc3 : (upd H2 c (.lst (cutV (ns.map V.int) none (some 63)))) c = some (.lst (cutV (ns.map V.int) none (some 63))) := upd_same
    generalize upd H2 c (.lst (cutV (ns.map V.int) none (some 63))) = H3 at *
    have hp3 : H3 p = some (.dK []) := S3 _ _ (S2 _ _ hp1)
    refine ⟨hp3, [((.inr "cells" : Key), V.ref c), (.inr "at", .int 0), (.inr "left", .int 0), (.inr "turn", .int 0)], rfl, (by show 4 ≤ 15; decide), ?_⟩
    rw [feed_disp]
    obtain ⟨ms, em, lm⟩ := cut_ints ns none (some 63)
    have ncp : c ≠ p := ne_of hc3 hp3 (by intro z; cases z)
    have l63 := cut63 (ns.map V.int)
    refine k p c ⟨ms, 0, 0, 0, false⟩ _ ⟨upd_same, by rw [upd_ne ncp, hc3, em], by show ms.length ≤ 63; omega, Int.le_refl _, ncp⟩ rfl rfl hp fun b o e => ?_
    have e1 := S1 b o e
    have nb : b ≠ p := ne_of_none e hp
    rw [upd_ne nb]
    exact S3 _ _ (S2 _ _ e1)
end
end Pv
namespace Pv
open PySem L2 GB
def f_p_common_of : Fn := ⟨2, 2,
      (.cons (.whl (.var 1) (.cons (.par 0 1 (.var 1) (.bin .mod (.var 0) (.var 1)))
      .nil))
      (.cons (.ret (.var 0))
      .nil))⟩
def f_p_fraction_of : Fn := ⟨2, 3,
      (.cons (.ite (.cmp .eq (.var 1) (.con (.int 0))) (.cons (.raise "NoOver" (.cons (.con (.str "nothing is divided by nought")) .nil))
      .nil) .nil)
      (.cons (.ite (.cmp .lt (.var 1) (.con (.int 0))) (.cons (.par 0 1 (.neg (.var 0)) (.neg (.var 1)))
      .nil) .nil)
      (.cons (.set 2 (.call "common_of" (.cons (.blt .abs (.cons (.var 0) .nil)) (.cons (.var 1) .nil))))
      (.cons (.ret (.tup (.cons (.bin .fdiv (.var 0) (.var 2)) (.cons (.bin .fdiv (.var 1) (.var 2)) .nil))))
      .nil))))⟩
def f_p_plus_by : Fn := ⟨2, 10,
      (.cons (.unp (.tp (.cons (.nm 2) (.cons (.nm 3) .nil))) (.var 0))
      (.cons (.unp (.tp (.cons (.nm 4) (.cons (.nm 5) .nil))) (.var 1))
      (.cons (.set 6 (.call "common_of" (.cons (.var 3) (.cons (.var 5) .nil))))
      (.cons (.set 7 (.bin .fdiv (.var 3) (.var 6)))
      (.cons (.set 8 (.bin .add (.bin .mul (.var 2) (.bin .fdiv (.var 5) (.var 6))) (.bin .mul (.var 4) (.var 7))))
      (.cons (.set 9 (.call "common_of" (.cons (.blt .abs (.cons (.var 8) .nil)) (.cons (.var 6) .nil))))
      (.cons (.ret (.tup (.cons (.bin .fdiv (.var 8) (.var 9)) (.cons (.bin .mul (.var 7) (.bin .fdiv (.var 5) (.var 9))) .nil))))
      .nil)))))))⟩
def f_p_contrary_of : Fn := ⟨1, 1,
      (.cons (.ret (.tup (.cons (.neg (.idx (.var 0) (.con (.int 0)))) (.cons (.idx (.var 0) (.con (.int 1))) .nil))))
      .nil)⟩
def f_p_minus_by : Fn := ⟨2, 2,
      (.cons (.ret (.call "plus_by" (.cons (.var 0) (.cons (.call "contrary_of" (.cons (.var 1) .nil)) .nil))))
      .nil)⟩
def f_p_times_by : Fn := ⟨2, 8,
      (.cons (.unp (.tp (.cons (.nm 2) (.cons (.nm 3) .nil))) (.var 0))
      (.cons (.unp (.tp (.cons (.nm 4) (.cons (.nm 5) .nil))) (.var 1))
      (.cons (.set 6 (.call "common_of" (.cons (.blt .abs (.cons (.var 2) .nil)) (.cons (.var 5) .nil))))
      (.cons (.set 7 (.call "common_of" (.cons (.blt .abs (.cons (.var 4) .nil)) (.cons (.var 3) .nil))))
      (.cons (.ret (.tup (.cons (.bin .mul (.bin .fdiv (.var 2) (.var 6)) (.bin .fdiv (.var 4) (.var 7))) (.cons (.bin .mul (.bin .fdiv (.var 3) (.var 7)) (.bin .fdiv (.var 5) (.var 6))) .nil))))
      .nil)))))⟩
def f_p_over_by : Fn := ⟨2, 4,
      (.cons (.unp (.tp (.cons (.nm 2) (.cons (.nm 3) .nil))) (.var 1))
      (.cons (.ite (.cmp .eq (.var 2) (.con (.int 0))) (.cons (.raise "NoOver" (.cons (.con (.str "nothing is divided by nought")) .nil))
      .nil) .nil)
      (.cons (.ret (.call "times_by" (.cons (.var 0) (.cons (.ite (.cmp .gt (.var 2) (.con (.int 0))) (.tup (.cons (.var 3) (.cons (.var 2) .nil))) (.tup (.cons (.neg (.var 3)) (.cons (.neg (.var 2)) .nil)))) .nil))))
      .nil)))⟩
def f_p_is_below : Fn := ⟨2, 2,
      (.cons (.ret (.cmp .lt (.bin .mul (.idx (.var 0) (.con (.int 0))) (.idx (.var 1) (.con (.int 1)))) (.bin .mul (.idx (.var 1) (.con (.int 0))) (.idx (.var 0) (.con (.int 1))))))
      .nil)⟩
def f_p_without_last : Fn := ⟨2, 3,
      (.cons (.set 2 (.blt .len (.cons (.var 0) .nil)))
      (.cons (.whl (.andT (.cmp .gt (.var 2) (.con (.int 0))) (.cmp .eq (.idx (.var 0) (.bin .sub (.var 2) (.con (.int 1)))) (.var 1))) (.cons (.aug 2 .sub (.con (.int 1)))
      .nil))
      (.cons (.ret (.blt .tuple (.cons (.slc (.var 0) .no (.yes (.var 2))) .nil)))
      .nil)))⟩
def f_p_poly_of : Fn := ⟨1, 1,
      (.cons (.ret (.call "without_last" (.cons (.var 0) (.cons (.con (.tuple [(.int 0), (.int 1)])) .nil))))
      .nil)⟩
def f_p_number_at : Fn := ⟨2, 2,
      (.cons (.ret (.ite (.cmp .lt (.var 1) (.blt .len (.cons (.var 0) .nil))) (.idx (.var 0) (.var 1)) (.con (.tuple [(.int 0), (.int 1)]))))
      .nil)⟩
def f_p_poly_sum : Fn := ⟨2, 4,
      (.cons (.set 2 (.blt .max (.cons (.blt .len (.cons (.var 0) .nil)) (.cons (.blt .len (.cons (.var 1) .nil)) .nil))))
      (.cons (.ret (.call "poly_of" (.cons (.lc (.rng (.cons (.var 2) .nil)) (.nm 3) [3] .nil (.call "plus_by" (.cons (.call "number_at" (.cons (.var 0) (.cons (.var 3) .nil))) (.cons (.call "number_at" (.cons (.var 1) (.cons (.var 3) .nil))) .nil)))) .nil)))
      .nil))⟩
def f_p_poly_scaled : Fn := ⟨2, 3,
      (.cons (.ret (.call "poly_of" (.cons (.lc (.seq (.var 0)) (.nm 2) [2] .nil (.call "times_by" (.cons (.var 2) (.cons (.var 1) .nil)))) .nil)))
      .nil)⟩
def f_p_product_numbers : Fn := ⟨2, 7,
      (.cons (.ite (.orT (.not (.var 0)) (.not (.var 1))) (.cons (.ret (.lst .nil))
      .nil) .nil)
      (.cons (.set 2 (.bin .mul (.lst (.cons (.con (.tuple [(.int 0), (.int 1)])) .nil)) (.bin .sub (.bin .add (.blt .len (.cons (.var 0) .nil)) (.blt .len (.cons (.var 1) .nil))) (.con (.int 1)))))
      (.cons (.for_ (.enum (.var 0)) (.tp (.cons (.nm 3) (.cons (.nm 4) .nil))) (.cons (.for_ (.enum (.var 1)) (.tp (.cons (.nm 5) (.cons (.nm 6) .nil))) (.cons (.setIx 2 (.bin .add (.var 3) (.var 5)) (.call "plus_by" (.cons (.idx (.var 2) (.bin .add (.var 3) (.var 5))) (.cons (.call "times_by" (.cons (.var 4) (.cons (.var 6) .nil))) .nil))))
      .nil))
      .nil))
      (.cons (.ret (.var 2))
      .nil))))⟩
def f_p_poly_times : Fn := ⟨2, 2,
      (.cons (.ret (.call "poly_of" (.cons (.call "product_numbers" (.cons (.var 0) (.cons (.var 1) .nil))) .nil)))
      .nil)⟩
def f_p_raw_value : Fn := ⟨2, 6,
      (.cons (.ite (.not (.var 0)) (.cons (.ret (.con (.tuple [(.int 0), (.int 1)])))
      .nil) .nil)
      (.cons (.ite (.cmp .eq (.idx (.var 1) (.con (.int 0))) (.con (.int 0))) (.cons (.ret (.idx (.var 0) (.con (.int 0))))
      .nil) .nil)
      (.cons (.unp (.tp (.cons (.nm 2) (.cons (.nm 3) .nil))) (.idx (.var 0) (.neg (.con (.int 1)))))
      (.cons (.for_ (.rev (.slc (.var 0) .no (.yes (.neg (.con (.int 1)))))) (.tp (.cons (.nm 4) (.cons (.nm 5) .nil))) (.cons (.par 2 3 (.bin .add (.bin .mul (.bin .mul (.var 2) (.idx (.var 1) (.con (.int 0)))) (.var 5)) (.bin .mul (.bin .mul (.var 4) (.var 3)) (.idx (.var 1) (.con (.int 1))))) (.bin .mul (.bin .mul (.var 3) (.idx (.var 1) (.con (.int 1)))) (.var 5)))
      .nil))
      (.cons (.ret (.tup (.cons (.var 2) (.cons (.var 3) .nil))))
      .nil)))))⟩
def f_p_value_of : Fn := ⟨2, 4,
      (.cons (.unp (.tp (.cons (.nm 2) (.cons (.nm 3) .nil))) (.call "raw_value" (.cons (.var 0) (.cons (.var 1) .nil))))
      (.cons (.ret (.call "fraction_of" (.cons (.var 2) (.cons (.var 3) .nil))))
      .nil))⟩
def f_p_slope_of : Fn := ⟨1, 2,
      (.cons (.ret (.gen .tuple (.rng (.cons (.con (.int 1)) (.cons (.blt .len (.cons (.var 0) .nil)) .nil))) (.nm 1) [1] .nil (.call "times_by" (.cons (.tup (.cons (.var 1) (.cons (.con (.int 1)) .nil))) (.cons (.idx (.var 0) (.var 1)) .nil)))))
      .nil)⟩
def f_p_moved_poly : Fn := ⟨2, 5,
      (.cons (.set 2 (.blt .list (.cons (.var 0) .nil)))
      (.cons (.ite (.cmp .eq (.var 1) (.con (.tuple [(.int 0), (.int 1)]))) (.cons (.ret (.blt .tuple (.cons (.var 2) .nil)))
      .nil) .nil)
      (.cons (.for_ (.rng (.cons (.bin .sub (.blt .len (.cons (.var 2) .nil)) (.con (.int 1))) .nil)) (.nm 3) (.cons (.for_ (.rng (.cons (.bin .sub (.blt .len (.cons (.var 2) .nil)) (.con (.int 2))) (.cons (.bin .sub (.var 3) (.con (.int 1))) (.cons (.neg (.con (.int 1))) .nil)))) (.nm 4) (.cons (.setIx 2 (.var 4) (.call "plus_by" (.cons (.idx (.var 2) (.var 4)) (.cons (.call "times_by" (.cons (.var 1) (.cons (.idx (.var 2) (.bin .add (.var 4) (.con (.int 1)))) .nil))) .nil))))
      .nil))
      .nil))
      (.cons (.ret (.blt .tuple (.cons (.var 2) .nil)))
      .nil))))⟩
def f_p_mirrored_poly : Fn := ⟨1, 3,
      (.cons (.ret (.gen .tuple (.enum (.var 0)) (.tp (.cons (.nm 1) (.cons (.nm 2) .nil))) [1, 2] .nil (.ite (.bin .band (.var 1) (.con (.int 1))) (.call "contrary_of" (.cons (.var 2) .nil)) (.var 2))))
      .nil)⟩
def f_p_under_numbers : Fn := ⟨3, 6,
      (.cons (.set 3 (.lst (.cons (.con (.tuple [(.int 0), (.int 1)])) .nil)))
      (.cons (.for_ (.enum (.var 0)) (.tp (.cons (.nm 4) (.cons (.nm 5) .nil))) (.cons (.app 3 (.call "times_by" (.cons (.var 5) (.cons (.tup (.cons (.con (.int 1)) (.cons (.bin .add (.var 4) (.con (.int 1))) .nil))) .nil))))
      .nil))
      (.cons (.ret (.call "minus_by" (.cons (.call "value_of" (.cons (.var 3) (.cons (.var 2) .nil))) (.cons (.call "value_of" (.cons (.var 3) (.cons (.var 1) .nil))) .nil))))
      .nil)))⟩
def f_p_under_product : Fn := ⟨4, 4,
      (.cons (.ret (.call "under_numbers" (.cons (.call "product_numbers" (.cons (.var 0) (.cons (.var 1) .nil))) (.cons (.var 2) (.cons (.var 3) .nil)))))
      .nil)⟩
def f_p_is_beyond : Fn := ⟨2, 2,
      (.cons (.ret (.orV (.call "is_below" (.cons (.var 1) (.cons (.idx (.var 0) (.con (.int 0))) .nil))) (.call "is_below" (.cons (.idx (.var 0) (.neg (.con (.int 1)))) (.cons (.var 1) .nil)))))
      .nil)⟩
def f_p_span_behind : Fn := ⟨2, 3,
      (.cons (.ite (.call "is_beyond" (.cons (.var 0) (.cons (.var 1) .nil))) (.cons (.raise "NoPlace" (.cons (.var 1) .nil))
      .nil) .nil)
      (.cons (.set 2 (.con (.int 0)))
      (.cons (.whl (.andT (.cmp .lt (.var 2) (.bin .sub (.blt .len (.cons (.var 0) .nil)) (.con (.int 2)))) (.not (.call "is_below" (.cons (.var 1) (.cons (.idx (.var 0) (.bin .add (.var 2) (.con (.int 1)))) .nil))))) (.cons (.aug 2 .add (.con (.int 1)))
      .nil))
      (.cons (.ret (.var 2))
      .nil))))⟩
def f_p_piece_at : Fn := ⟨2, 2,
      (.cons (.ret (.call "span_behind" (.cons (.idx (.var 0) (.con (.int 0))) (.cons (.var 1) .nil))))
      .nil)⟩
def f_p_value_at : Fn := ⟨2, 3,
      (.cons (.set 2 (.call "piece_at" (.cons (.var 0) (.cons (.var 1) .nil))))
      (.cons (.ret (.call "value_of" (.cons (.idx (.idx (.var 0) (.con (.int 1))) (.var 2)) (.cons (.call "minus_by" (.cons (.var 1) (.cons (.idx (.idx (.var 0) (.con (.int 0))) (.var 2)) .nil))) .nil))))
      .nil))⟩
def f_p_length_of : Fn := ⟨2, 2,
      (.cons (.ret (.call "minus_by" (.cons (.idx (.idx (.var 0) (.con (.int 0))) (.bin .add (.var 1) (.con (.int 1)))) (.cons (.idx (.idx (.var 0) (.con (.int 0))) (.var 1)) .nil))))
      .nil)⟩
def f_p_bends_of : Fn := ⟨2, 3,
      (.cons (.set 2 (.lst .nil))
      (.cons (.whl (.cmp .lt (.blt .len (.cons (.var 2) .nil)) (.con (.int 4))) (.cons (.app 2 (.call "value_of" (.cons (.var 0) (.cons (.var 1) .nil))))
      (.cons (.set 0 (.call "slope_of" (.cons (.var 0) .nil)))
      .nil)))
      (.cons (.ret (.blt .tuple (.cons (.var 2) .nil)))
      .nil)))⟩
def f_p_smooth_at : Fn := ⟨2, 5,
      (.cons (.ite (.not (.chain .lt .lt (.con (.int 0)) (.var 1) (.blt .len (.cons (.idx (.var 0) (.con (.int 1))) .nil)))) (.cons (.raise "NoCut" (.cons (.var 1) .nil))
      .nil) .nil)
      (.cons (.set 2 (.call "bends_of" (.cons (.idx (.idx (.var 0) (.con (.int 1))) (.bin .sub (.var 1) (.con (.int 1)))) (.cons (.call "length_of" (.cons (.var 0) (.cons (.bin .sub (.var 1) (.con (.int 1))) .nil))) .nil))))
      (.cons (.set 3 (.call "bends_of" (.cons (.idx (.idx (.var 0) (.con (.int 1))) (.var 1)) (.cons (.con (.tuple [(.int 0), (.int 1)])) .nil))))
      (.cons (.set 4 (.con (.int 0)))
      (.cons (.whl (.andT (.cmp .lt (.var 4) (.con (.int 3))) (.cmp .eq (.idx (.var 2) (.bin .add (.var 4) (.con (.int 1)))) (.idx (.var 3) (.bin .add (.var 4) (.con (.int 1)))))) (.cons (.aug 4 .add (.con (.int 1)))
      .nil))
      (.cons (.ret (.var 4))
      .nil))))))⟩
def f_p_kept_cuts : Fn := ⟨2, 7,
      (.cons (.unp (.tp (.cons (.nm 2) (.cons (.nm 3) .nil))) (.var 0))
      (.cons (.set 4 (.lst (.cons (.con (.int 0)) (.star (.var 1) .nil))))
      (.cons (.set 5 (.lc (.seq (.var 4)) (.nm 6) [6] .nil (.idx (.var 2) (.var 6))))
      (.cons (.ret (.tup (.cons (.tup (.star (.var 5) (.cons (.idx (.var 2) (.neg (.con (.int 1)))) .nil))) (.cons (.gen .tuple (.seq (.var 4)) (.nm 6) [6] .nil (.idx (.var 3) (.var 6))) .nil))))
      .nil))))⟩
def f_p_bare_row : Fn := ⟨1, 2,
      (.cons (.ret (.call "kept_cuts" (.cons (.var 0) (.cons (.lc (.rng (.cons (.con (.int 1)) (.cons (.blt .len (.cons (.idx (.var 0) (.con (.int 1))) .nil)) .nil))) (.nm 1) [1] (.cons (.cmp .ne (.call "smooth_at" (.cons (.var 0) (.cons (.var 1) .nil))) (.con (.int 3))) .nil) (.var 1)) .nil))))
      .nil)⟩
def f_p_have_one_stretch : Fn := ⟨2, 2,
      (.cons (.ret (.andV (.cmp .eq (.idx (.idx (.var 0) (.con (.int 0))) (.con (.int 0))) (.idx (.idx (.var 1) (.con (.int 0))) (.con (.int 0)))) (.cmp .eq (.idx (.idx (.var 0) (.con (.int 0))) (.neg (.con (.int 1)))) (.idx (.idx (.var 1) (.con (.int 0))) (.neg (.con (.int 1)))))))
      .nil)⟩
def f_p_are_one : Fn := ⟨2, 2,
      (.cons (.ret (.andV (.call "have_one_stretch" (.cons (.var 0) (.cons (.var 1) .nil))) (.cmp .eq (.call "bare_row" (.cons (.var 0) .nil)) (.call "bare_row" (.cons (.var 1) .nil)))))
      .nil)⟩
def f_p_sum_of : Fn := ⟨1, 3,
      (.cons (.set 1 (.con (.tuple [(.int 0), (.int 1)])))
      (.cons (.for_ (.seq (.var 0)) (.nm 2) (.cons (.set 1 (.call "plus_by" (.cons (.var 1) (.cons (.var 2) .nil))))
      .nil))
      (.cons (.ret (.var 1))
      .nil)))⟩
def f_p_bent_of : Fn := ⟨2, 3,
      (.cons (.set 2 (.call "slope_of" (.cons (.var 1) .nil)))
      (.cons (.ret (.ite (.cmp .eq (.var 0) (.con (.int 1))) (.var 2) (.call "slope_of" (.cons (.var 2) .nil))))
      .nil))⟩
def f_p_square_of : Fn := ⟨1, 1,
      (.cons (.ret (.call "times_by" (.cons (.var 0) (.cons (.var 0) .nil))))
      .nil)⟩
def f_p_misses_of : Fn := ⟨2, 7,
      (.cons (.set 2 (.lst .nil))
      (.cons (.for_ (.seq (.idx (.var 0) (.con (.int 3)))) (.tp (.cons (.nm 3) (.cons (.nm 4) (.cons (.nm 5) .nil)))) (.cons (.ite (.cmp .eq (.idx (.var 4) (.con (.int 0))) (.con (.str "near"))) (.cons (.set 6 (.call "minus_by" (.cons (.call "value_at" (.cons (.var 1) (.cons (.var 3) .nil))) (.cons (.idx (.var 4) (.con (.int 1))) .nil))))
      (.cons (.app 2 (.call "times_by" (.cons (.idx (.var 4) (.con (.int 2))) (.cons (.call "square_of" (.cons (.var 6) .nil)) .nil))))
      .nil)) .nil)
      .nil))
      (.cons (.ret (.call "sum_of" (.cons (.var 2) .nil)))
      .nil)))⟩
def f_p_side_bends : Fn := ⟨3, 4,
      (.cons (.set 3 (.call "bent_of" (.cons (.var 0) (.cons (.var 1) .nil))))
      (.cons (.ret (.tup (.cons (.call "value_of" (.cons (.var 3) (.cons (.var 2) .nil))) (.cons (.call "value_of" (.cons (.call "slope_of" (.cons (.var 3) .nil)) (.cons (.var 2) .nil))) .nil))))
      .nil))⟩
def f_p_sides_ahead : Fn := ⟨2, 5,
      (.cons (.set 2 (.lc (.enum (.idx (.var 1) (.con (.int 1)))) (.tp (.cons (.nm 3) (.cons (.nm 4) .nil))) [3, 4] .nil (.call "side_bends" (.cons (.idx (.var 0) (.con (.int 0))) (.cons (.var 4) (.cons (.call "length_of" (.cons (.var 1) (.cons (.var 3) .nil))) .nil))))))
      (.cons (.ite (.cmp .isN (.idx (.var 0) (.con (.int 1))) (.con .none)) (.cons (.ret (.lst (.cons (.con (.tuple [(.tuple [(.int 0), (.int 1)]), (.tuple [(.int 0), (.int 1)])])) (.star (.var 2) .nil))))
      .nil) .nil)
      (.cons (.ret (.lst (.cons (.idx (.var 2) (.neg (.con (.int 1)))) (.star (.slc (.var 2) .no (.yes (.neg (.con (.int 1))))) .nil))))
      .nil)))⟩
def f_p_sides_behind : Fn := ⟨2, 4,
      (.cons (.set 2 (.lc (.seq (.idx (.var 1) (.con (.int 1)))) (.nm 3) [3] .nil (.call "side_bends" (.cons (.idx (.var 0) (.con (.int 0))) (.cons (.var 3) (.cons (.con (.tuple [(.int 0), (.int 1)])) .nil))))))
      (.cons (.ite (.cmp .isN (.idx (.var 0) (.con (.int 1))) (.con .none)) (.cons (.ret (.lst (.star (.var 2) (.cons (.con (.tuple [(.tuple [(.int 0), (.int 1)]), (.tuple [(.int 0), (.int 1)])])) .nil))))
      .nil) .nil)
      (.cons (.ret (.var 2))
      .nil)))⟩
def f_p_pulls_of : Fn := ⟨2, 6,
      (.cons (.set 2 (.lst .nil))
      (.cons (.for_ (.zip (.call "sides_ahead" (.cons (.var 0) (.cons (.var 1) .nil))) (.call "sides_behind" (.cons (.var 0) (.cons (.var 1) .nil)))) (.tp (.cons (.nm 3) (.cons (.nm 4) .nil))) (.cons (.set 5 (.call "minus_by" (.cons (.idx (.var 3) (.con (.int 0))) (.cons (.idx (.var 4) (.con (.int 0))) .nil))))
      (.cons (.ite (.cmp .eq (.idx (.var 0) (.con (.int 0))) (.con (.int 1))) (.cons (.app 2 (.tup (.cons (.var 5) (.cons (.con (.tuple [(.int 0), (.int 1)])) .nil))))
      .nil) (.cons (.app 2 (.tup (.cons (.call "minus_by" (.cons (.idx (.var 4) (.con (.int 1))) (.cons (.idx (.var 3) (.con (.int 1))) .nil))) (.cons (.var 5) .nil))))
      .nil))
      .nil)))
      (.cons (.ret (.blt .tuple (.cons (.var 2) .nil)))
      .nil)))⟩
def f_p_prices_of : Fn := ⟨2, 10,
      (.cons (.set 2 (.lst .nil))
      (.cons (.for_ (.zip (.idx (.var 0) (.con (.int 3))) (.call "pulls_of" (.cons (.var 0) (.cons (.var 1) .nil)))) (.tp (.cons (.tp (.cons (.nm 3) (.cons (.nm 4) (.cons (.nm 5) .nil)))) (.cons (.tp (.cons (.nm 6) (.cons (.nm 7) .nil))) .nil))) (.cons (.set 8 (.call "times_by" (.cons (.idx (.var 0) (.con (.int 2))) (.cons (.var 6) .nil))))
      (.cons (.ite (.cmp .eq (.idx (.var 4) (.con (.int 0))) (.con (.str "near"))) (.cons (.set 9 (.call "minus_by" (.cons (.call "value_at" (.cons (.var 1) (.cons (.var 3) .nil))) (.cons (.idx (.var 4) (.con (.int 1))) .nil))))
      (.cons (.set 8 (.call "plus_by" (.cons (.var 8) (.cons (.call "times_by" (.cons (.idx (.var 4) (.con (.int 2))) (.cons (.var 9) .nil))) .nil))))
      .nil)) .nil)
      (.cons (.app 2 (.tup (.cons (.var 8) (.cons (.call "times_by" (.cons (.idx (.var 0) (.con (.int 2))) (.cons (.var 7) .nil))) .nil))))
      .nil))))
      (.cons (.ret (.blt .tuple (.cons (.var 2) .nil)))
      .nil)))⟩
end Pv
namespace Pv
open PySem L2 GB
def g_below_1 : Fn := ⟨2, 2,
      (.cons (.ret (.cmp .lt (.bin .mul (.idx (.var 0) (.con (.int 0))) (.idx (.var 1) (.con (.int 1)))) (.bin .mul (.idx (.var 1) (.con (.int 0))) (.idx (.var 0) (.con (.int 1))))))
      .nil)⟩
def g_bends_1 : Fn := ⟨2, 4,
      (.cons (.set 2 (.lst .nil))
      (.cons (.for_ (.rng (.cons (.con (.int 3)) .nil)) (.nm 3) (.cons (.set 0 (.call "_law_slope" (.cons (.var 0) .nil)))
      (.cons (.app 2 (.call "_law_value" (.cons (.var 0) (.cons (.var 1) .nil))))
      .nil)))
      (.cons (.ret (.var 2))
      .nil)))⟩
def g_contrary_1 : Fn := ⟨1, 1,
      (.cons (.ret (.tup (.cons (.bin .sub (.con (.int 0)) (.idx (.var 0) (.con (.int 0)))) (.cons (.idx (.var 0) (.con (.int 1))) .nil))))
      .nil)⟩
def g_fraction_2 : Fn := ⟨1, 3,
      (.cons (.par 1 2 (.call "_law_number" (.cons (.var 0) .nil)) (.call "_law_number" (.cons (.var 0) .nil)))
      (.cons (.ret (.call "_law_lowest" (.cons (.var 1) (.cons (.ite (.cmp .ne (.var 2) (.con (.int 0))) (.var 2) (.con (.int 1))) .nil))))
      .nil))⟩
def g_is_needless_1 : Fn := ⟨2, 3,
      (.cons (.set 2 (.call "_law_minus" (.cons (.idx (.idx (.var 0) (.con (.int 0))) (.var 1)) (.cons (.idx (.idx (.var 0) (.con (.int 0))) (.bin .sub (.var 1) (.con (.int 1)))) .nil))))
      (.cons (.ret (.cmp .eq (.call "_law_trim" (.cons (.call "_law_taylor" (.cons (.idx (.idx (.var 0) (.con (.int 1))) (.bin .sub (.var 1) (.con (.int 1)))) (.cons (.var 2) .nil))) .nil)) (.idx (.idx (.var 0) (.con (.int 1))) (.var 1))))
      .nil))⟩
def g_less_1 : Fn := ⟨2, 2,
      (.cons (.ret (.call "_law_low" (.cons (.bin .sub (.bin .mul (.idx (.var 0) (.con (.int 0))) (.idx (.var 1) (.con (.int 1)))) (.bin .mul (.idx (.var 1) (.con (.int 0))) (.idx (.var 0) (.con (.int 1))))) (.cons (.bin .mul (.idx (.var 0) (.con (.int 1))) (.idx (.var 1) (.con (.int 1)))) .nil))))
      .nil)⟩
def g_low_1 : Fn := ⟨2, 5,
      (.cons (.par 2 3 (.blt .abs (.cons (.var 0) .nil)) (.blt .abs (.cons (.var 1) .nil)))
      (.cons (.whl (.cmp .gt (.var 3) (.con (.int 0))) (.cons (.par 2 3 (.var 3) (.bin .mod (.var 2) (.var 3)))
      .nil))
      (.cons (.set 4 (.ite (.cmp .gt (.var 1) (.con (.int 0))) (.con (.int 1)) (.neg (.con (.int 1)))))
      (.cons (.ret (.tup (.cons (.bin .fdiv (.bin .mul (.var 4) (.var 0)) (.var 2)) (.cons (.bin .fdiv (.bin .mul (.var 4) (.var 1)) (.var 2)) .nil))))
      .nil))))⟩
def g_lowest_1 : Fn := ⟨2, 4,
      (.cons (.par 2 3 (.blt .abs (.cons (.var 0) .nil)) (.blt .abs (.cons (.var 1) .nil)))
      (.cons (.whl (.cmp .gt (.var 3) (.con (.int 0))) (.cons (.par 2 3 (.var 3) (.bin .mod (.var 2) (.var 3)))
      .nil))
      (.cons (.ite (.cmp .lt (.var 1) (.con (.int 0))) (.cons (.set 2 (.bin .sub (.con (.int 0)) (.var 2)))
      .nil) .nil)
      (.cons (.ret (.tup (.cons (.bin .fdiv (.var 0) (.var 2)) (.cons (.bin .fdiv (.var 1) (.var 2)) .nil))))
      .nil))))⟩
def g_minus_2 : Fn := ⟨2, 2,
      (.cons (.ret (.call "_law_lowest" (.cons (.bin .sub (.bin .mul (.idx (.var 0) (.con (.int 0))) (.idx (.var 1) (.con (.int 1)))) (.bin .mul (.idx (.var 1) (.con (.int 0))) (.idx (.var 0) (.con (.int 1))))) (.cons (.bin .mul (.idx (.var 0) (.con (.int 1))) (.idx (.var 1) (.con (.int 1)))) .nil))))
      .nil)⟩
def g_number_1 : Fn := ⟨1, 1,
      (.cons (.ret (.call "_law_low" (.cons (.bin .sub (.draw 0 (.con (.int 61))) (.con (.int 30))) (.cons (.idx (.lst (.cons (.con (.int 1)) (.cons (.con (.int 1)) (.cons (.con (.int 2)) (.cons (.con (.int 6)) .nil))))) (.draw 0 (.con (.int 4)))) .nil))))
      .nil)⟩
def g_number_3 : Fn := ⟨1, 4,
      (.cons (.set 1 (.draw 0 (.con (.int 4))))
      (.cons (.set 2 (.draw 0 (.con (.int 100))))
      (.cons (.ite (.cmp .eq (.var 1) (.con (.int 0))) (.cons (.for_ (.rng (.cons (.draw 0 (.con (.int 5))) .nil)) (.nm 3) (.cons (.set 2 (.bin .add (.bin .mul (.var 2) (.bin .pow (.con (.int 10)) (.con (.int 6)))) (.draw 0 (.bin .pow (.con (.int 10)) (.con (.int 6))))))
      .nil))
      .nil) .nil)
      (.cons (.ret (.bin .mul (.var 2) (.bin .sub (.con (.int 1)) (.bin .mul (.con (.int 2)) (.draw 0 (.con (.int 2)))))))
      .nil))))⟩
def g_over_1 : Fn := ⟨2, 2,
      (.cons (.ret (.call "_law_low" (.cons (.bin .mul (.idx (.var 0) (.con (.int 0))) (.idx (.var 1) (.con (.int 1)))) (.cons (.bin .mul (.idx (.var 0) (.con (.int 1))) (.idx (.var 1) (.con (.int 0)))) .nil))))
      .nil)⟩
def g_plus_1 : Fn := ⟨2, 2,
      (.cons (.ret (.call "_law_low" (.cons (.bin .add (.bin .mul (.idx (.var 0) (.con (.int 0))) (.idx (.var 1) (.con (.int 1)))) (.bin .mul (.idx (.var 1) (.con (.int 0))) (.idx (.var 0) (.con (.int 1))))) (.cons (.bin .mul (.idx (.var 0) (.con (.int 1))) (.idx (.var 1) (.con (.int 1)))) .nil))))
      .nil)⟩
def g_plus_3 : Fn := ⟨2, 2,
      (.cons (.ret (.call "_law_lowest" (.cons (.bin .add (.bin .mul (.idx (.var 0) (.con (.int 0))) (.idx (.var 1) (.con (.int 1)))) (.bin .mul (.idx (.var 1) (.con (.int 0))) (.idx (.var 0) (.con (.int 1))))) (.cons (.bin .mul (.idx (.var 0) (.con (.int 1))) (.idx (.var 1) (.con (.int 1)))) .nil))))
      .nil)⟩
def g_share_1 : Fn := ⟨1, 1,
      (.cons (.ite (.cmp .eq (.draw 0 (.con (.int 5))) (.con (.int 0))) (.cons (.ret (.tup (.cons (.con (.int 0)) (.cons (.con (.int 1)) .nil))))
      .nil) .nil)
      (.cons (.ret (.call "_law_low" (.cons (.bin .sub (.draw 0 (.con (.int 199))) (.con (.int 99))) (.cons (.bin .add (.con (.int 1)) (.draw 0 (.con (.int 12)))) .nil))))
      .nil))⟩
def g_slope_1 : Fn := ⟨1, 2,
      (.cons (.ret (.blt .tuple (.cons (.lc (.rng (.cons (.con (.int 1)) (.cons (.blt .len (.cons (.var 0) .nil)) .nil))) (.nm 1) [1] .nil (.call "_law_times" (.cons (.tup (.cons (.var 1) (.cons (.con (.int 1)) .nil))) (.cons (.idx (.var 0) (.var 1)) .nil)))) .nil)))
      .nil)⟩
def g_taylor_1 : Fn := ⟨2, 7,
      (.cons (.set 2 (.lst (.cons (.lst (.cons (.con (.int 1)) .nil)) (.cons (.lst (.cons (.con (.int 1)) (.cons (.con (.int 1)) .nil))) (.cons (.lst (.cons (.con (.int 1)) (.cons (.con (.int 2)) (.cons (.con (.int 1)) .nil)))) (.cons (.lst (.cons (.con (.int 1)) (.cons (.con (.int 3)) (.cons (.con (.int 3)) (.cons (.con (.int 1)) .nil))))) .nil))))))
      (.cons (.set 3 (.bin .mul (.lst (.cons (.tup (.cons (.con (.int 0)) (.cons (.con (.int 1)) .nil))) .nil)) (.con (.int 4))))
      (.cons (.for_ (.rng (.cons (.blt .len (.cons (.var 0) .nil)) .nil)) (.nm 4) (.cons (.set 5 (.idx (.var 0) (.var 4)))
      (.cons (.for_ (.rng (.cons (.var 4) (.cons (.neg (.con (.int 1))) (.cons (.neg (.con (.int 1))) .nil)))) (.nm 6) (.cons (.setIx 3 (.var 6) (.call "_law_plus" (.cons (.idx (.var 3) (.var 6)) (.cons (.call "_law_times" (.cons (.tup (.cons (.idx (.idx (.var 2) (.var 4)) (.var 6)) (.cons (.con (.int 1)) .nil))) (.cons (.var 5) .nil))) .nil))))
      (.cons (.set 5 (.call "_law_times" (.cons (.var 5) (.cons (.var 1) .nil))))
      .nil)))
      .nil)))
      (.cons (.ret (.var 3))
      .nil))))⟩
def g_times_1 : Fn := ⟨2, 2,
      (.cons (.ret (.call "_law_low" (.cons (.bin .mul (.idx (.var 0) (.con (.int 0))) (.idx (.var 1) (.con (.int 0)))) (.cons (.bin .mul (.idx (.var 0) (.con (.int 1))) (.idx (.var 1) (.con (.int 1)))) .nil))))
      .nil)⟩
def g_times_3 : Fn := ⟨2, 2,
      (.cons (.ret (.call "_law_lowest" (.cons (.bin .mul (.idx (.var 0) (.con (.int 0))) (.idx (.var 1) (.con (.int 0)))) (.cons (.bin .mul (.idx (.var 0) (.con (.int 1))) (.idx (.var 1) (.con (.int 1)))) .nil))))
      .nil)⟩
def g_trim_1 : Fn := ⟨1, 2,
      (.cons (.set 1 (.blt .len (.cons (.var 0) .nil)))
      (.cons (.whl (.andT (.cmp .gt (.var 1) (.con (.int 0))) (.cmp .eq (.idx (.idx (.var 0) (.bin .sub (.var 1) (.con (.int 1)))) (.con (.int 0))) (.con (.int 0)))) (.cons (.set 1 (.bin .sub (.var 1) (.con (.int 1))))
      .nil))
      (.cons (.ret (.blt .tuple (.cons (.slc (.var 0) .no (.yes (.var 1))) .nil)))
      .nil)))⟩
def g_trim_2 : Fn := ⟨1, 2,
      (.cons (.set 1 (.blt .list (.cons (.var 0) .nil)))
      (.cons (.whl (.andT (.cmp .ne (.var 1) (.lst .nil)) (.cmp .eq (.idx (.idx (.var 1) (.neg (.con (.int 1)))) (.con (.int 0))) (.con (.int 0)))) (.cons (.pop 1)
      .nil))
      (.cons (.ret (.blt .tuple (.cons (.var 1) .nil)))
      .nil)))⟩
def g_value_2 : Fn := ⟨2, 4,
      (.cons (.set 2 (.tup (.cons (.con (.int 0)) (.cons (.con (.int 1)) .nil))))
      (.cons (.for_ (.seq (.rev (.var 0))) (.nm 3) (.cons (.set 2 (.call "_law_plus" (.cons (.call "_law_times" (.cons (.var 2) (.cons (.var 1) .nil))) (.cons (.var 3) .nil))))
      .nil))
      (.cons (.ret (.var 2))
      .nil)))⟩
def g_value_4 : Fn := ⟨2, 5,
      (.cons (.unp (.tp (.cons (.nm 2) (.cons (.nm 3) .nil))) (.tup (.cons (.tup (.cons (.con (.int 0)) (.cons (.con (.int 1)) .nil))) (.cons (.tup (.cons (.con (.int 1)) (.cons (.con (.int 1)) .nil))) .nil))))
      (.cons (.for_ (.seq (.var 0)) (.nm 4) (.cons (.set 2 (.call "_law_plus" (.cons (.var 2) (.cons (.call "_law_times" (.cons (.var 4) (.cons (.var 3) .nil))) .nil))))
      (.cons (.set 3 (.call "_law_times" (.cons (.var 3) (.cons (.var 1) .nil))))
      .nil)))
      (.cons (.ret (.var 2))
      .nil)))⟩
end Pv
namespace Pv
open PySem L2
theorem evF_eq {dr : Dr} {T : Tab} {k : Nat} {f : String} {fn : Fn} {as : List Arg} {F : Feed} (hT : T f = some fn) (hl : as.length = fn.ps) :
    evF dr T (k + 1) f as F = (evSs ⟨evF dr T k, dr⟩ fn.body (startE fn.ns as) F).bind fun fl F => R.of (outV fl) F := by
  rw [evF, hT]
  dsimp only
  rw [if_pos hl]
def wstep (test : Env → Feed → R Bool) (body : Env → Feed → R Fl) (w : Env → Feed → R Fl) (ρ : Env) (F : Feed) : R Fl :=
  (test ρ F).bind fun k F => if k then (body ρ F).bind fun fl F => match fl with
      | .next ρ' => w ρ' F
      | .cont ρ' => w ρ' F
      | .brk ρ' => .ok (.next ρ') F
      | .ret v => .ok (.ret v) F
    else .ok (.next ρ) F
theorem whileN_succ {test : Env → Feed → R Bool} {body : Env → Feed → R Fl} {n : Nat} {ρ : Env} {F : Feed} : whileN test body (n + 1) ρ F = wstep test body (whileN test body n) ρ F := rfl
theorem wstep_mono {test : Env → Feed → R Bool} {body : Env → Feed → R Fl} {w w' : Env → Feed → R Fl} {ρ : Env} {F : Feed} (h : ∀ ρ F, w ρ F ≠ .stuck → w' ρ F = w ρ F) (hn : wstep test body w ρ F ≠ .stuck) : wstep test body w' ρ F = wstep test body w ρ F := by
  unfold wstep at *
  cases e : test ρ F with
  | stuck => rfl
  | exc x F => rfl
  | ok k F1 =>
    rw [e] at hn
    simp only [R.ok_bind] at *
    cases k with
    | false => rfl
    | true =>
      simp only [if_true] at *
      cases e2 : body ρ F1 with
      | stuck => rfl
      | exc x F => rfl
      | ok fl F2 =>
        rw [e2] at hn
        simp only [R.ok_bind] at *
        cases fl with
        | next ρ' => exact h _ _ hn
        | cont ρ' => exact h _ _ hn
        | brk ρ' => rfl
        | ret v => rfl
theorem whileN_mono {test : Env → Feed → R Bool} {body : Env → Feed → R Fl} : ∀ {n : Nat} {ρ : Env} {F : Feed}, whileN test body n ρ F ≠ .stuck → whileN test body (n + 1) ρ F = whileN test body n ρ F
  | 0, ρ, F, h => absurd rfl h
  | n + 1, ρ, F, h => by
    rw [whileN_succ] at h
    rw [whileN_succ, whileN_succ (n := n)]
    exact wstep_mono (fun ρ F z => whileN_mono z) h
theorem whileN_le {test : Env → Feed → R Bool} {body : Env → Feed → R Fl} {n m : Nat} {ρ : Env} {F : Feed} (h : whileN test body n ρ F ≠ .stuck) (l : n ≤ m) : whileN test body m ρ F = whileN test body n ρ F := by
  induction l with
  | refl => rfl
  | step l ih =>
    rw [← ih]
    exact whileN_mono (by rw [ih]; exact h)
theorem whileR_eq {test : Env → Feed → R Bool} {body : Env → Feed → R Fl} {n : Nat} {ρ : Env} {F : Feed} (h : whileN test body n ρ F ≠ .stuck) : whileR test body ρ F = whileN test body n ρ F := by
  have hx : ∃ n, whileN test body n ρ F ≠ .stuck := ⟨n, h⟩
  unfold whileR
  rw [dif_pos hx]
  rcases Nat.le_total hx.choose n with l | l
  · exact (whileN_le hx.choose_spec l).symm
  · exact whileN_le h l
theorem whileR_unfold (test : Env → Feed → R Bool) (body : Env → Feed → R Fl) (ρ : Env) (F : Feed) : whileR test body ρ F = wstep test body (whileR test body) ρ F := by
  by_cases h : ∃ n, whileN test body n ρ F ≠ .stuck
  · obtain ⟨n, h⟩ := h
    rw [whileR_eq h]
    cases n with
    | zero => exact absurd rfl h
    | succ n =>
      rw [whileN_succ] at h ⊢
      exact (wstep_mono (fun ρ F z => whileR_eq z) h).symm
  · have e : whileR test body ρ F = .stuck := by
      unfold whileR
      rw [dif_neg h]
    rw [e]
    have key : ∀ n, wstep test body (whileN test body n) ρ F = .stuck := fun n => by
      by_cases z : whileN test body (n + 1) ρ F = .stuck
      · exact z
      · exact absurd ⟨_, z⟩ h
    unfold wstep at key ⊢
    cases e : test ρ F with
    | stuck => rfl
    | exc x F => have := key 0; rw [e] at this; cases this
    | ok k F1 =>
      rw [e] at key
      simp only [R.ok_bind] at *
      cases k with
      | false => have := key 0; cases this
      | true =>
        simp only [if_true] at *
        cases e2 : body ρ F1 with
        | stuck => rfl
        | exc x F => have := key 0; rw [e2] at this; cases this
        | ok fl F2 =>
          rw [e2] at key
          simp only [R.ok_bind] at *
          have no : ∀ ρ', (∀ n, whileN test body n ρ' F2 = .stuck) → whileR test body ρ' F2 = .stuck := fun ρ' z => by
            unfold whileR
            rw [dif_neg]
            rintro ⟨n, q⟩
            exact q (z n)
          cases fl with
          | next ρ' => exact (no ρ' key).symm
          | cont ρ' => exact (no ρ' key).symm
          | brk ρ' => have := key 0; cases this
          | ret v => have := key 0; cases this
def Ok {α : Type} (m : R α) (P : α → Feed → Prop) : Prop := ∃ a F, m = .ok a F ∧ P a F
theorem Ok.ok {α : Type} {a : α} {F : Feed} {P : α → Feed → Prop} (h : P a F) : Ok (.ok a F) P := ⟨a, F, rfl, h⟩
theorem Ok.bind {α β : Type} {m : R α} {f : α → Feed → R β} {P : α → Feed → Prop} {Q : β → Feed → Prop} (h : Ok m P) (g : ∀ a F, P a F → Ok (f a F) Q) : Ok (m.bind f) Q := by
  obtain ⟨a, F, rfl, p⟩ := h
  exact g a F p
theorem Ok.mono {α : Type} {m : R α} {P Q : α → Feed → Prop} (h : Ok m P) (g : ∀ a F, P a F → Q a F) : Ok m Q := by
  obtain ⟨a, F, e, p⟩ := h
  exact ⟨a, F, e, g a F p⟩
theorem Ok.eq {α : Type} {m : R α} {a : α} {F : Feed} (h : Ok m fun b G => b = a ∧ G = F) : m = .ok a F := by
  obtain ⟨b, G, e, rfl, rfl⟩ := h
  exact e
theorem Ok.of_eq {α : Type} {m : R α} {a : α} {F : Feed} {P : α → Feed → Prop} (e : m = .ok a F) (h : P a F) : Ok m P := ⟨a, F, e, h⟩
theorem mapR_pure {α : Type} {f : PyData → Feed → R (Option (PyData × Al))} {inj : α → PyData} {g : α → PyData} {F : Feed} : ∀ {xs : List α}, (∀ x ∈ xs, ∃ al, f (inj x) F = .ok (some (g x, al)) F) → ∃ al, mapR f (xs.map inj) F = .ok (xs.map g, al) F
  | [], _ => ⟨none, rfl⟩
  | x :: xs, h => by
    obtain ⟨al, e⟩ := h x (by simp)
    obtain ⟨al', e'⟩ := mapR_pure (xs := xs) fun y m => h y (by simp [m])
    refine ⟨joinAl al al', ?_⟩
    rw [List.map_cons, mapR, e]
    dsimp only
    rw [e']
    rfl
theorem Ok.map {α : Type} {f : PyData → Feed → R (Option (PyData × Al))} {inj : α → PyData} (g : α → PyData) {F : Feed} {xs : List α} {β : Type} {k : List PyData × Al → Feed → R β} {Q : β → Feed → Prop} (h : ∀ x ∈ xs, ∃ al, f (inj x) F = .ok (some (g x, al)) F) (hk : ∀ al, Ok (k (xs.map g, al) F) Q) : Ok ((mapR f (xs.map inj) F).bind k) Q := by
  obtain ⟨al, e⟩ := mapR_pure h
  rw [e]
  exact hk al
theorem forR_inv {α : Type} {tg : Tg} {body : Env → Feed → R Fl} {inj : α → PyData} (I : List α → Env → Feed → Prop) {all : List α} : ∀ {xs : List α} (pre : List α) {ρ : Env} {F : Feed}, pre ++ xs = all → I pre ρ F → (∀ (pre : List α) (x : α) (post : List α) (ρ : Env) (F : Feed), pre ++ x :: post = all → I pre ρ F → Ok ((R.of (bindT tg (inj x) (some []) ρ) F).bind fun ρ F => body ρ F) fun fl F' => ∃ ρ', (fl = .next ρ' ∨ fl = .cont ρ') ∧ I (pre ++ [x]) ρ' F') → Ok (forR tg body (xs.map inj) ρ F) fun fl F' => ∃ ρ', fl = .next ρ' ∧ I all ρ' F'
  | [], pre, ρ, F, ea, i, _ => by
    rw [List.append_nil] at ea
    subst ea
    exact ⟨_, _, rfl, ρ, rfl, i⟩
  | x :: xs, pre, ρ, F, ea, i, h => by
    rw [List.map_cons, forR]
    obtain ⟨fl, F', e, ρ', hf, i'⟩ := h pre x xs ρ F ea i
    cases e1 : R.of (bindT tg (inj x) (some []) ρ) F with
    | stuck => rw [e1] at e; cases e
    | exc z F => rw [e1] at e; cases e
    | ok ρ1 F1 =>
      rw [e1] at e
      simp only [R.ok_bind] at e ⊢
      rw [e]
      have := forR_inv I (xs := xs) (pre ++ [x]) (by rw [List.append_assoc]; exact ea) i' h
      rcases hf with rfl | rfl
      · exact this
      · exact this
noncomputable def loopW (c : Cfg) (t : IE) (b : ISs) : Env → Feed → R Fl := whileR (fun ρ F => (evE c t ρ F).bind fun v F => R.of (truV v) F) (fun ρ F => evSs c b ρ F)
noncomputable def contW (c : Cfg) (t : IE) (b : ISs) : Fl → Feed → R Fl
  | .next ρ', F => loopW c t b ρ' F
  | .cont ρ', F => loopW c t b ρ' F
  | .brk ρ', F => .ok (.next ρ') F
  | .ret v, F => .ok (.ret v) F
theorem evS_whl {c : Cfg} {t : IE} {b : ISs} {ρ : Env} {F : Feed} : evS c (.whl t b) ρ F = loopW c t b ρ F := by
  rw [evS]
  rfl
theorem loopW_eq (c : Cfg) (t : IE) (b : ISs) (ρ : Env) (F : Feed) : loopW c t b ρ F = ((evE c t ρ F).bind fun v F => R.of (truV v) F).bind fun k F => if k = true then (evSs c b ρ F).bind (contW c t b) else .ok (.next ρ) F := by
  unfold loopW
  rw [whileR_unfold]
  unfold wstep
  congr 1
  funext k F
  congr 1
  congr 1
  funext fl F
  cases fl <;> rfl
noncomputable def loopF (c : Cfg) (tg : Tg) (b : ISs) : List PyData → Env → Feed → R Fl := forR tg (fun ρ F => evSs c b ρ F)
theorem evS_for {c : Cfg} {src : IT} {tg : Tg} {b : ISs} {ρ : Env} {F : Feed} : evS c (.for_ src tg b) ρ F = (evI c src ρ F).bind fun it F => loopF c tg b it.1 (freeze it.2 ρ) F := by
  rw [evS]
  rfl
noncomputable def contF (c : Cfg) (tg : Tg) (b : ISs) (ds : List PyData) : Fl → Feed → R Fl
  | .next ρ', F => loopF c tg b ds ρ' F
  | .cont ρ', F => loopF c tg b ds ρ' F
  | .brk ρ', F => .ok (.next ρ') F
  | .ret v, F => .ok (.ret v) F
theorem loopF_nil {c : Cfg} {tg : Tg} {b : ISs} {ρ : Env} {F : Feed} : loopF c tg b [] ρ F = .ok (.next ρ) F := rfl
theorem loopF_cons {c : Cfg} {tg : Tg} {b : ISs} {d : PyData} {ds : List PyData} {ρ : Env} {F : Feed} : loopF c tg b (d :: ds) ρ F = ((R.of (bindT tg d (some []) ρ) F).bind fun ρ F => evSs c b ρ F).bind (contF c tg b ds) := by
  unfold loopF
  rw [forR]
  cases R.of (bindT tg d (some []) ρ) F with
  | stuck => rfl
  | exc x F => rfl
  | ok ρ F =>
    simp only [R.ok_bind]
    congr 1
    funext fl F
    cases fl <;> rfl
noncomputable def elemR (c : Cfg) (tg : Tg) (vs : List Nat) (cond : IEs) (elt : IE) (ρ : Env) (S : List Nat) : PyData → Feed → R (Option (PyData × Al)) := fun d F =>
  (R.of (bindT tg d (some S) (wipeE ρ vs)) F).bind fun ρ' F => (evC c cond ρ' F).bind fun k F => if k = true then (evE c elt ρ' F).bind fun v F => (R.of (valD v) F).bind fun q F => .ok (some (q.1, srcAl S q.2)) F else .ok none F
theorem evE_lc {c : Cfg} {src : IT} {tg : Tg} {vs : List Nat} {cond : IEs} {elt : IE} {ρ : Env} {F : Feed} : evE c (.lc src tg vs cond elt) ρ F = (evI c src ρ F).bind fun it F => if it.2.all (fun k => !vs.contains k) = true then (mapR (elemR c tg vs cond elt ρ it.2) it.1 F).bind fun p F => if p.1.length ≤ sizeLine then .ok (.dat (.list p.1) (alNew p.1 p.2)) F else .stuck else .stuck := by
  rw [evE]
  rfl
theorem evE_gen {c : Cfg} {f : Blt} {src : IT} {tg : Tg} {vs : List Nat} {cond : IEs} {elt : IE} {ρ : Env} {F : Feed} : evE c (.gen f src tg vs cond elt) ρ F = (evI c src ρ F).bind fun it F => if it.2.all (fun k => !vs.contains k) = true then (R.of (mapP (elemR c tg vs cond elt ρ it.2) it.1 F) F).bind fun ds F => if ds.length ≤ sizeLine ∧ flatAll ds = true then (R.of (bltD f [.list ds]) F).bind fun z F => .ok (.dat z none) F else .stuck else .stuck := by
  rw [evE]
  rfl
theorem mapP_pure {α : Type} {f : PyData → Feed → R (Option (PyData × Al))} {inj : α → PyData} {g : α → PyData} {F : Feed} : ∀ {xs : List α}, (∀ x ∈ xs, ∃ al, f (inj x) F = .ok (some (g x, al)) F) → mapP f (xs.map inj) F = some (xs.map g)
  | [], _ => rfl
  | x :: xs, h => by
    obtain ⟨al, e⟩ := h x (by simp)
    have e' := mapP_pure (xs := xs) fun y m => h y (by simp [m])
    rw [List.map_cons, mapP, e]
    dsimp only
    rw [if_pos rfl, e']
    rfl
theorem Ok.mapP {α : Type} {f : PyData → Feed → R (Option (PyData × Al))} {inj : α → PyData} (g : α → PyData) {F : Feed} {xs : List α} {β : Type} {k : List PyData → Feed → R β} {Q : β → Feed → Prop} (h : ∀ x ∈ xs, ∃ al, f (inj x) F = .ok (some (g x, al)) F) (hk : Ok (k (xs.map g) F) Q) : Ok ((R.of (Pv.mapP f (xs.map inj) F) F).bind k) Q := by
  rw [mapP_pure h]
  exact hk
theorem loopF_inv {α : Type} {c : Cfg} {tg : Tg} {b : ISs} {inj : α → PyData} (I : List α → Env → Feed → Prop) {xs : List α} {ρ : Env} {F : Feed} {β : Type} {k : Fl → Feed → R β} {Q : β → Feed → Prop} (i : I [] ρ F) (h : ∀ (pre : List α) (x : α) (post : List α) (ρ : Env) (F : Feed), pre ++ x :: post = xs → I pre ρ F → Ok ((R.of (bindT tg (inj x) (some []) ρ) F).bind fun ρ F => evSs c b ρ F) fun fl F' => ∃ ρ', (fl = .next ρ' ∨ fl = .cont ρ') ∧ I (pre ++ [x]) ρ' F') (hk : ∀ ρ' F', I xs ρ' F' → Ok (k (.next ρ') F') Q) : Ok ((loopF c tg b (xs.map inj) ρ F).bind k) Q :=
  (forR_inv I [] rfl i h).bind fun fl F' ⟨ρ', e, z⟩ => e ▸ hk ρ' F' z
theorem leS {n : Nat} (h : n ≤ 16000000) : n ≤ sizeLine := Nat.le_trans h (by decide)
theorem alNew_none {ds : List PyData} : alNew ds none = none := rfl
theorem alNew_some {ds : List PyData} {S : List Nat} : alNew ds (some S) = if flatAll ds = true then none else some S := rfl
def repAl (al : Al) : Nat → Al → Al
  | 0, b => b
  | n + 1, b => joinAl al (repAl al n b)
theorem datsV_star {al : Al} {vs : List Val} : ∀ {ds : List PyData}, datsV (ds.map (fun d => Val.dat d al) ++ vs) = (datsV vs).map fun p => (ds ++ p.1, repAl al ds.length p.2)
  | [] => by
    simp only [List.map_nil, List.nil_append, List.length_nil, repAl]
    cases datsV vs <;> rfl
  | d :: ds => by
    rw [List.map_cons, List.cons_append, datsV, datsV_star]
    cases datsV vs <;> rfl
theorem idx_t0 {x : PyData} {xs : List PyData} : idxD (.tuple (x :: xs)) (.int 0) = some x := by
  show L2.atI _ _ = _
  unfold L2.atI L2.ixN
  rw [if_pos (by decide), if_pos (by simp only [List.length_cons]; omega)]
  rfl
theorem idx_t1 {x y : PyData} {xs : List PyData} : idxD (.tuple (x :: y :: xs)) (.int 1) = some y := by
  show L2.atI _ _ = _
  unfold L2.atI L2.ixN
  rw [if_pos (by decide), if_pos (by simp only [List.length_cons]; omega)]
  rfl
theorem idx_t2 {x y z : PyData} {xs : List PyData} : idxD (.tuple (x :: y :: z :: xs)) (.int 2) = some z := by
  show L2.atI _ _ = _
  unfold L2.atI L2.ixN
  rw [if_pos (by decide), if_pos (by simp only [List.length_cons]; omega)]
  rfl
theorem idx_t3 {x y z w : PyData} {xs : List PyData} : idxD (.tuple (x :: y :: z :: w :: xs)) (.int 3) = some w := by
  show L2.atI _ _ = _
  unfold L2.atI L2.ixN
  rw [if_pos (by decide), if_pos (by simp only [List.length_cons]; omega)]
  rfl
theorem idx_l0 {x : PyData} {xs : List PyData} : idxD (.list (x :: xs)) (.int 0) = some x := by
  show L2.atI _ _ = _
  unfold L2.atI L2.ixN
  rw [if_pos (by decide), if_pos (by simp only [List.length_cons]; omega)]
  rfl
theorem idx_l1 {x y : PyData} {xs : List PyData} : idxD (.list (x :: y :: xs)) (.int 1) = some y := by
  show L2.atI _ _ = _
  unfold L2.atI L2.ixN
  rw [if_pos (by decide), if_pos (by simp only [List.length_cons]; omega)]
  rfl
theorem idx_l2 {x y z : PyData} {xs : List PyData} : idxD (.list (x :: y :: z :: xs)) (.int 2) = some z := by
  show L2.atI _ _ = _
  unfold L2.atI L2.ixN
  rw [if_pos (by decide), if_pos (by simp only [List.length_cons]; omega)]
  rfl
theorem idx_l3 {x y z w : PyData} {xs : List PyData} : idxD (.list (x :: y :: z :: w :: xs)) (.int 3) = some w := by
  show L2.atI _ _ = _
  unfold L2.atI L2.ixN
  rw [if_pos (by decide), if_pos (by simp only [List.length_cons]; omega)]
  rfl
theorem bl_len_t {xs : List PyData} : bltD .len [.tuple xs] = some (.int xs.length) := rfl
theorem bl_len_l {xs : List PyData} : bltD .len [.list xs] = some (.int xs.length) := rfl
theorem bl_abs {i : Int} : bltD .abs [.int i] = some (.int (if i < 0 then -i else i)) := rfl
theorem bl_int_i {i : Int} : bltD .int [.int i] = some (.int i) := rfl
theorem bl_int_b {k : Bool} : bltD .int [.bool k] = some (.int (if k then 1 else 0)) := rfl
theorem bl_bool_i {i : Int} : bltD .bool [.int i] = some (.bool (i != 0)) := rfl
theorem bl_bool_b {k : Bool} : bltD .bool [.bool k] = some (.bool k) := rfl
theorem bl_list_t {xs : List PyData} : bltD .list [.tuple xs] = some (.list xs) := rfl
theorem bl_list_l {xs : List PyData} : bltD .list [.list xs] = some (.list xs) := rfl
theorem bl_tuple_t {xs : List PyData} : bltD .tuple [.tuple xs] = some (.tuple xs) := rfl
theorem bl_tuple_l {xs : List PyData} : bltD .tuple [.list xs] = some (.tuple xs) := rfl
theorem bl_isTup {d : PyData} : bltD .isTup [d] = some (.bool (isTup d)) := rfl
theorem bl_isInt {d : PyData} : bltD .isInt [d] = some (.bool (isInt d)) := rfl
theorem bl_isBool {d : PyData} : bltD .isBool [d] = some (.bool (isBool d)) := rfl
theorem bl_isStr {d : PyData} : bltD .isStr [d] = some (.bool (isStr d)) := rfl
theorem bl_isList {d : PyData} : bltD .isList [d] = some (.bool (isList d)) := rfl
theorem mul_int {i j : Int} : mulD (.int i) (.int j) = if okMul i j = true then some (.int (i * j)) else none := rfl
def tailSs : Nat → ISs → ISs
  | 0, s => s
  | n + 1, .cons _ s => tailSs n s
  | _, .nil => .nil
def takeSs : Nat → ISs → ISs → ISs
  | 0, _, r => r
  | n + 1, .cons s ss, r => .cons s (takeSs n ss r)
  | _, .nil, r => r
theorem datsV_star0 {al : Al} {ds : List PyData} : datsV (ds.map (fun d => Val.dat d al)) = some (ds, repAl al ds.length none) := by
  have := datsV_star (al := al) (vs := []) (ds := ds)
  simpa [datsV] using this
end Pv
namespace Pv
open PySem L2
section
variable {c : Cfg} {f g : Bop} {cf cg : Cop} {a b e t i : IE} {es : IEs} {ρ : Env} {F : Feed} {d d1 d2 z : PyData} {al al1 al2 : Al} {v u x y : Val} {vs ws : List Val} {as : List Arg} {ds ds1 : List PyData} {S : List Nat} {fn : String} {bb : Bool} {n m j : Nat} {bl : Blt} {src : IT} {tg : Tg} {ss sb : ISs} {s : IS} {p : List PyData × Al} {lo hi : IO} {l h : Option Int}
noncomputable def kOut : Fl → Feed → R Val
  | .next _, F => .ok (.dat .none none) F
  | .ret v, F => .ok v F
  | _, _ => .stuck
theorem kOut_n : kOut (.next ρ) F = .ok (.dat .none none) F := rfl
theorem kOut_r : kOut (.ret v) F = .ok v F := rfl
noncomputable def kPut (al : Al) : PyData → Feed → R Val
  | z, F => .ok (.dat z (alOp z al)) F
theorem kPut_e : kPut al z F = .ok (.dat z (alOp z al)) F := rfl
noncomputable def kPl : PyData → Feed → R Val
  | z, F => .ok (.dat z none) F
theorem kPl_e : kPl z F = .ok (.dat z none) F := rfl
noncomputable def kBo : Bool → Feed → R Val
  | z, F => .ok (.dat (.bool z) none) F
theorem kBo_e : kBo bb F = .ok (.dat (.bool bb) none) F := rfl
noncomputable def kVar (i : Nat) : Option (Option Val) → Feed → R Val
  | some (some v), F => .ok (readV i v) F
  | _, _ => .stuck
theorem kVar_e : kVar n (some (some v)) F = .ok (readV n v) F := rfl
theorem evE_var : evE c (.var n) ρ F = kVar n ρ[n]? F := by
  first
  | (rw [evE]; done)
  | (rw [evE] <;> first | rfl | (intro i h; cases h))
  | (rw [evE]; rfl)
  | (rw [evE]; cases ρ[n]? with
    | none => rfl
    | some o => cases o <;> rfl)
theorem evE_con : evE c (.con d) ρ F = .ok (.dat d none) F := by
  first
  | (rw [evE]; done)
  | (rw [evE] <;> first | rfl | (intro i h; cases h))
  | (rw [evE]; rfl)
  | (rw [evE]; cases ρ[n]? with
    | none => rfl
    | some o => cases o <;> rfl)
noncomputable def kBin2 (f : Bop) : Val → Val → Feed → R Val
  | .dat d al, .dat e al1, F => (R.of (bopD f d e) F).bind (kPut (joinAl al al1))
  | _, _, _ => .stuck
theorem kBin2_e : kBin2 f (.dat d al) (.dat d1 al1) F = (R.of (bopD f d d1) F).bind (kPut (joinAl al al1)) := rfl
noncomputable def kBin (c : Cfg) (f : Bop) (b : IE) (ρ : Env) (x : Val) (F : Feed) : R Val := (evE c b ρ F).bind (kBin2 f x)
theorem kBin_e : kBin c f b ρ x F = (evE c b ρ F).bind (kBin2 f x) := rfl
theorem evE_bin : evE c (.bin f a b) ρ F = (evE c a ρ F).bind (kBin c f b ρ) := by
  rw [evE]
  congr 1
  funext x F
  unfold kBin
  congr 1
  funext y F
  cases x <;> cases y <;> rfl
noncomputable def kNeg : Val → Feed → R Val
  | .dat d _, F => (R.of (negD d) F).bind kPl
  | _, _ => .stuck
theorem kNeg_e : kNeg (.dat d al) F = (R.of (negD d) F).bind kPl := rfl
theorem evE_neg : evE c (.neg a) ρ F = (evE c a ρ F).bind kNeg := by
  rw [evE]
  congr 1
  funext x F
  cases x <;> rfl
noncomputable def kCmp2 (f : Cop) : Val → Val → Feed → R Val
  | .dat d _, .dat e _, F => (R.of (copD f d e) F).bind kBo
  | _, _, _ => .stuck
theorem kCmp2_e : kCmp2 cf (.dat d al) (.dat d1 al1) F = (R.of (copD cf d d1) F).bind kBo := rfl
noncomputable def kCmp (c : Cfg) (f : Cop) (b : IE) (ρ : Env) (x : Val) (F : Feed) : R Val := (evE c b ρ F).bind (kCmp2 f x)
theorem kCmp_e : kCmp c cf b ρ x F = (evE c b ρ F).bind (kCmp2 cf x) := rfl
theorem evE_cmp : evE c (.cmp cf a b) ρ F = (evE c a ρ F).bind (kCmp c cf b ρ) := by
  rw [evE]
  congr 1
  funext x F
  unfold kCmp
  congr 1
  funext y F
  cases x <;> cases y <;> rfl
noncomputable def kCh3 (c : Cfg) (g : Cop) (e : IE) (ρ : Env) (d : PyData) : Bool → Feed → R Val
  | true, F => (evE c e ρ F).bind (kCmp2 g (.dat d none))
  | false, F => .ok (.dat (.bool false) none) F
theorem kCh3_t : kCh3 c cf e ρ d true F = (evE c e ρ F).bind (kCmp2 cf (.dat d none)) := rfl
theorem kCh3_f : kCh3 c cf e ρ d false F = .ok (.dat (.bool false) none) F := rfl
noncomputable def kCh2 (c : Cfg) (f g : Cop) (e : IE) (ρ : Env) : Val → Val → Feed → R Val
  | .dat d _, .dat d1 _, F => (R.of (copD f d d1) F).bind (kCh3 c g e ρ d1)
  | _, _, _ => .stuck
theorem kCh2_e : kCh2 c cf cg e ρ (.dat d al) (.dat d1 al1) F = (R.of (copD cf d d1) F).bind (kCh3 c cg e ρ d1) := rfl
noncomputable def kCh (c : Cfg) (f g : Cop) (b e : IE) (ρ : Env) (x : Val) (F : Feed) : R Val := (evE c b ρ F).bind (kCh2 c f g e ρ x)
theorem kCh_e : kCh c cf cg b e ρ x F = (evE c b ρ F).bind (kCh2 c cf cg e ρ x) := rfl
theorem evE_chain : evE c (.chain cf cg a b e) ρ F = (evE c a ρ F).bind (kCh c cf cg b e ρ) := by
  rw [evE]
  congr 1
  funext x F
  unfold kCh
  congr 1
  funext y F
  cases x <;> cases y <;> try rfl
  simp only [datE, kCh2_e]
  congr 1
  funext z F
  cases z
  · rfl
  · simp only [kCh3_t, if_true]
    congr 1
    funext u F
    cases u <;> rfl
noncomputable def kAnd (c : Cfg) (b : IE) (ρ : Env) : Val → Feed → R Val
  | .dat (.bool true) _, F => evE c b ρ F
  | .dat (.bool false) _, F => .ok (.dat (.bool false) none) F
  | _, _ => .stuck
theorem kAnd_t : kAnd c b ρ (.dat (.bool true) al) F = evE c b ρ F := rfl
theorem kAnd_f : kAnd c b ρ (.dat (.bool false) al) F = .ok (.dat (.bool false) none) F := rfl
noncomputable def kOr (c : Cfg) (b : IE) (ρ : Env) : Val → Feed → R Val
  | .dat (.bool true) _, F => .ok (.dat (.bool true) none) F
  | .dat (.bool false) _, F => evE c b ρ F
  | _, _ => .stuck
theorem kOr_t : kOr c b ρ (.dat (.bool true) al) F = .ok (.dat (.bool true) none) F := rfl
theorem kOr_f : kOr c b ρ (.dat (.bool false) al) F = evE c b ρ F := rfl
theorem evE_andV : evE c (.andV a b) ρ F = (evE c a ρ F).bind (kAnd c b ρ) := by
  rw [evE]
  congr 1
  funext x F
  match x with
  | .dat (.bool true) _ => rfl
  | .dat (.bool false) _ => rfl
  | .dat .none _ => rfl
  | .dat (.int _) _ => rfl
  | .dat (.str _) _ => rfl
  | .dat (.list _) _ => rfl
  | .dat (.tuple _) _ => rfl
  | .dat (.dict _) _ => rfl
  | .feed => rfl
  | .exc _ => rfl
theorem evE_orV : evE c (.orV a b) ρ F = (evE c a ρ F).bind (kOr c b ρ) := by
  rw [evE]
  congr 1
  funext x F
  match x with
  | .dat (.bool true) _ => rfl
  | .dat (.bool false) _ => rfl
  | .dat .none _ => rfl
  | .dat (.int _) _ => rfl
  | .dat (.str _) _ => rfl
  | .dat (.list _) _ => rfl
  | .dat (.tuple _) _ => rfl
  | .dat (.dict _) _ => rfl
  | .feed => rfl
  | .exc _ => rfl
noncomputable def kTru (x : Val) (F : Feed) : R Val := (R.of (truV x) F).bind kBo
theorem kTru_e : kTru x F = (R.of (truV x) F).bind kBo := rfl
noncomputable def kAnT2 (c : Cfg) (b : IE) (ρ : Env) : Bool → Feed → R Val
  | true, F => (evE c b ρ F).bind kTru
  | false, F => .ok (.dat (.bool false) none) F
theorem kAnT2_t : kAnT2 c b ρ true F = (evE c b ρ F).bind kTru := rfl
theorem kAnT2_f : kAnT2 c b ρ false F = .ok (.dat (.bool false) none) F := rfl
noncomputable def kOrT2 (c : Cfg) (b : IE) (ρ : Env) : Bool → Feed → R Val
  | true, F => .ok (.dat (.bool true) none) F
  | false, F => (evE c b ρ F).bind kTru
theorem kOrT2_f : kOrT2 c b ρ false F = (evE c b ρ F).bind kTru := rfl
theorem kOrT2_t : kOrT2 c b ρ true F = .ok (.dat (.bool true) none) F := rfl
noncomputable def kAnT (c : Cfg) (b : IE) (ρ : Env) (x : Val) (F : Feed) : R Val := (R.of (truV x) F).bind (kAnT2 c b ρ)
theorem kAnT_e : kAnT c b ρ x F = (R.of (truV x) F).bind (kAnT2 c b ρ) := rfl
theorem evE_andT : evE c (.andT a b) ρ F = (evE c a ρ F).bind (kAnT c b ρ) := by
  rw [evE]
  congr 1
  funext x F
  unfold kAnT
  congr 1
  funext k F
  cases k <;> rfl
noncomputable def kOrT (c : Cfg) (b : IE) (ρ : Env) (x : Val) (F : Feed) : R Val := (R.of (truV x) F).bind (kOrT2 c b ρ)
theorem kOrT_e : kOrT c b ρ x F = (R.of (truV x) F).bind (kOrT2 c b ρ) := rfl
theorem evE_orT : evE c (.orT a b) ρ F = (evE c a ρ F).bind (kOrT c b ρ) := by
  rw [evE]
  congr 1
  funext x F
  unfold kOrT
  congr 1
  funext k F
  cases k <;> rfl
noncomputable def kNot (x : Val) (F : Feed) : R Val := (R.of (truV x) F).bind (fun k F => .ok (.dat (.bool (!k)) none) F)
noncomputable def kNo2 : Bool → Feed → R Val
  | k, F => .ok (.dat (.bool (!k)) none) F
theorem kNo2_e : kNo2 bb F = .ok (.dat (.bool (!bb)) none) F := rfl
theorem kNot_e : kNot x F = (R.of (truV x) F).bind kNo2 := rfl
theorem evE_not : evE c (.not a) ρ F = (evE c a ρ F).bind kNot := by
  first
  | (rw [evE]; done)
  | (rw [evE] <;> first | rfl | (intro i h; cases h))
  | (rw [evE]; rfl)
  | (rw [evE]; cases ρ[n]? with
    | none => rfl
    | some o => cases o <;> rfl)
noncomputable def kIte2 (c : Cfg) (a b : IE) (ρ : Env) : Bool → Feed → R Val
  | true, F => evE c a ρ F
  | false, F => evE c b ρ F
theorem kIte2_t : kIte2 c a b ρ true F = evE c a ρ F := rfl
theorem kIte2_f : kIte2 c a b ρ false F = evE c b ρ F := rfl
noncomputable def kIte (c : Cfg) (a b : IE) (ρ : Env) (x : Val) (F : Feed) : R Val := (R.of (truV x) F).bind (kIte2 c a b ρ)
theorem kIte_e : kIte c a b ρ x F = (R.of (truV x) F).bind (kIte2 c a b ρ) := rfl
theorem evE_ite : evE c (.ite t a b) ρ F = (evE c t ρ F).bind (kIte c a b ρ) := by
  rw [evE]
  congr 1
  funext x F
  unfold kIte
  congr 1
  funext k F
  cases k <;> rfl
noncomputable def kT2 : List PyData × Al → Feed → R Val
  | p, F => if p.1.length ≤ sizeLine then .ok (.dat (.tuple p.1) (alNew p.1 p.2)) F else .stuck
theorem kT2_e : kT2 (ds, al) F = if ds.length ≤ sizeLine then .ok (.dat (.tuple ds) (alNew ds al)) F else .stuck := rfl
noncomputable def kT (vs : List Val) (F : Feed) : R Val := (R.of (datsV vs) F).bind kT2
theorem kT_e : kT vs F = (R.of (datsV vs) F).bind kT2 := rfl
theorem evE_tup : evE c (.tup es) ρ F = (evEs c es ρ F).bind kT := by
  first
  | (rw [evE]; done)
  | (rw [evE] <;> first | rfl | (intro i h; cases h))
  | (rw [evE]; rfl)
  | (rw [evE]; cases ρ[n]? with
    | none => rfl
    | some o => cases o <;> rfl)
noncomputable def kL2 : List PyData × Al → Feed → R Val
  | p, F => if p.1.length ≤ sizeLine then .ok (.dat (.list p.1) (alNew p.1 p.2)) F else .stuck
theorem kL2_e : kL2 (ds, al) F = if ds.length ≤ sizeLine then .ok (.dat (.list ds) (alNew ds al)) F else .stuck := rfl
noncomputable def kL (vs : List Val) (F : Feed) : R Val := (R.of (datsV vs) F).bind kL2
theorem kL_e : kL vs F = (R.of (datsV vs) F).bind kL2 := rfl
theorem evE_lst : evE c (.lst es) ρ F = (evEs c es ρ F).bind kL := by
  first
  | (rw [evE]; done)
  | (rw [evE] <;> first | rfl | (intro i h; cases h))
  | (rw [evE]; rfl)
  | (rw [evE]; cases ρ[n]? with
    | none => rfl
    | some o => cases o <;> rfl)
noncomputable def kItem (al : Al) : PyData → Feed → R Val
  | z, F => .ok (.dat z (itemAl al)) F
theorem kItem_e : kItem al z F = .ok (.dat z (itemAl al)) F := rfl
noncomputable def kIx2 : Val → Val → Feed → R Val
  | .dat d al, .dat e _, F => (R.of (idxD d e) F).bind (kItem al)
  | _, _, _ => .stuck
theorem kIx2_e : kIx2 (.dat d al) (.dat d1 al1) F = (R.of (idxD d d1) F).bind (kItem al) := rfl
noncomputable def kIx (c : Cfg) (i : IE) (ρ : Env) (x : Val) (F : Feed) : R Val := (evE c i ρ F).bind (kIx2 x)
theorem kIx_e : kIx c i ρ x F = (evE c i ρ F).bind (kIx2 x) := rfl
theorem evE_idx : evE c (.idx a i) ρ F = (evE c a ρ F).bind (kIx c i ρ) := by
  rw [evE]
  congr 1
  funext x F
  unfold kIx
  congr 1
  funext y F
  cases x <;> cases y <;> rfl
noncomputable def kSl3 : Val → Option Int → Option Int → Feed → R Val
  | .dat d al, l, h, F => (R.of (slcD l h d) F).bind (kPut al)
  | _, _, _, _ => .stuck
theorem kSl3_e : kSl3 (.dat d al) l h F = (R.of (slcD l h d) F).bind (kPut al) := rfl
noncomputable def kSl2 (c : Cfg) (hi : IO) (ρ : Env) (x : Val) (l : Option Int) (F : Feed) : R Val := (evO c hi ρ F).bind (kSl3 x l)
theorem kSl2_e : kSl2 c hi ρ x l F = (evO c hi ρ F).bind (kSl3 x l) := rfl
noncomputable def kSl (c : Cfg) (lo hi : IO) (ρ : Env) (x : Val) (F : Feed) : R Val := (evO c lo ρ F).bind (kSl2 c hi ρ x)
theorem kSl_e : kSl c lo hi ρ x F = (evO c lo ρ F).bind (kSl2 c hi ρ x) := rfl
theorem evE_slc : evE c (.slc a lo hi) ρ F = (evE c a ρ F).bind (kSl c lo hi ρ) := by
  rw [evE]
  congr 1
  funext x F
  unfold kSl
  congr 1
  funext l F
  unfold kSl2
  congr 1
  funext h F
  cases x <;> rfl
noncomputable def kRv : Val → Feed → R Val
  | .dat d al, F => (R.of (revD d) F).bind (kPut al)
  | _, _ => .stuck
theorem kRv_e : kRv (.dat d al) F = (R.of (revD d) F).bind (kPut al) := rfl
theorem evE_rev : evE c (.rev a) ρ F = (evE c a ρ F).bind kRv := by
  rw [evE]
  congr 1
  funext x F
  cases x <;> rfl
noncomputable def kRes (S : List Nat) : Val → Feed → R Val
  | v, F => .ok (resV S v) F
theorem kRes_e : kRes S v F = .ok (resV S v) F := rfl
noncomputable def kCl2 (c : Cfg) (f : String) (vs : List Val) (as : List Arg) (F : Feed) : R Val := (c.cl f as F).bind (kRes (alVs vs))
theorem kCl2_e {cl : Orc} {dr : Dr} : kCl2 ⟨cl, dr⟩ fn vs as F = (cl fn as F).bind (kRes (alVs vs)) := rfl
noncomputable def kCl (c : Cfg) (f : String) (vs : List Val) (F : Feed) : R Val := (R.of (argsV vs) F).bind (kCl2 c f vs)
theorem kCl_e : kCl c fn vs F = (R.of (argsV vs) F).bind (kCl2 c fn vs) := rfl
theorem evE_call : evE c (.call fn es) ρ F = (evEs c es ρ F).bind (kCl c fn) := by
  first
  | (rw [evE]; done)
  | (rw [evE] <;> first | rfl | (intro i h; cases h))
  | (rw [evE]; rfl)
  | (rw [evE]; cases ρ[n]? with
    | none => rfl
    | some o => cases o <;> rfl)
noncomputable def kDr3 : Option (Int × Feed) → R Val
  | some q => .ok (.dat (.int q.1) none) q.2
  | none => .stuck
theorem kDr3_e {r : Int} : kDr3 (some (r, F)) = .ok (.dat (.int r) none) F := rfl
noncomputable def kDr2 (c : Cfg) : Val → Feed → R Val
  | .dat (.int m) _, F => kDr3 (c.dr.f F m)
  | _, _ => .stuck
theorem kDr2_e {cl : Orc} {dr : Dr} {m : Int} : kDr2 ⟨cl, dr⟩ (.dat (.int m) al) F = kDr3 (dr.f F m) := rfl
noncomputable def kDr (c : Cfg) (e : IE) (ρ : Env) : Option (Option Val) → Feed → R Val
  | some (some .feed), F => (evE c e ρ F).bind (kDr2 c)
  | _, _ => .stuck
theorem kDr_e : kDr c e ρ (some (some .feed)) F = (evE c e ρ F).bind (kDr2 c) := rfl
theorem evE_draw : evE c (.draw n e) ρ F = kDr c e ρ ρ[n]? F := by
  rw [evE]
  cases ρ[n]? with
  | none => rfl
  | some o =>
    cases o with
    | none => rfl
    | some v =>
      cases v with
      | feed =>
        simp only [kDr_e]
        congr 1
        funext x F
        match x with
        | .dat (.int m) _ =>
          show (match c.dr.f F m with | some q => _ | none => _) = kDr3 (c.dr.f F m)
          cases c.dr.f F m <;> rfl
        | .dat (.bool true) _ => rfl
        | .dat (.bool false) _ => rfl
        | .dat .none _ => rfl
        | .dat (.str _) _ => rfl
        | .dat (.list _) _ => rfl
        | .dat (.tuple _) _ => rfl
        | .dat (.dict _) _ => rfl
        | .feed => rfl
        | .exc _ => rfl
      | _ => rfl
noncomputable def kBl2 (f : Blt) : List PyData × Al → Feed → R Val
  | p, F => (R.of (bltD f p.1) F).bind (kPut p.2)
theorem kBl2_e : kBl2 bl (ds, al) F = (R.of (bltD bl ds) F).bind (kPut al) := rfl
noncomputable def kBl (f : Blt) (vs : List Val) (F : Feed) : R Val := (R.of (datsV vs) F).bind (kBl2 f)
theorem kBl_e : kBl bl vs F = (R.of (datsV vs) F).bind (kBl2 bl) := rfl
theorem evE_blt : evE c (.blt bl es) ρ F = (evEs c es ρ F).bind (kBl bl) := by
  first
  | (rw [evE]; done)
  | (rw [evE] <;> first | rfl | (intro i h; cases h))
  | (rw [evE]; rfl)
  | (rw [evE]; cases ρ[n]? with
    | none => rfl
    | some o => cases o <;> rfl)
noncomputable def kLc (c : Cfg) (tg : Tg) (vs : List Nat) (cond : IEs) (elt : IE) (ρ : Env) : List PyData × List Nat → Feed → R Val
  | it, F => if it.2.all (fun k => !vs.contains k) = true then (mapR (elemR c tg vs cond elt ρ it.2) it.1 F).bind kL2 else .stuck
theorem kLc_e {vs : List Nat} : kLc c tg vs es e ρ (ds, S) F = if S.all (fun k => !vs.contains k) = true then (mapR (elemR c tg vs es e ρ S) ds F).bind kL2 else .stuck := rfl
theorem evE_Lc {vs : List Nat} : evE c (.lc src tg vs es e) ρ F = (evI c src ρ F).bind (kLc c tg vs es e ρ) := by
  rw [evE_lc]
  rfl
noncomputable def kGe2 (f : Blt) : List PyData → Feed → R Val
  | ds, F => if ds.length ≤ sizeLine ∧ flatAll ds = true then (R.of (bltD f [.list ds]) F).bind kPl else .stuck
theorem kGe2_e : kGe2 bl ds F = if ds.length ≤ sizeLine ∧ flatAll ds = true then (R.of (bltD bl [.list ds]) F).bind kPl else .stuck := rfl
noncomputable def kGe (c : Cfg) (f : Blt) (tg : Tg) (vs : List Nat) (cond : IEs) (elt : IE) (ρ : Env) : List PyData × List Nat → Feed → R Val
  | it, F => if it.2.all (fun k => !vs.contains k) = true then (R.of (mapP (elemR c tg vs cond elt ρ it.2) it.1 F) F).bind (kGe2 f) else .stuck
theorem kGe_e {vs : List Nat} : kGe c bl tg vs es e ρ (ds, S) F = if S.all (fun k => !vs.contains k) = true then (R.of (mapP (elemR c tg vs es e ρ S) ds F) F).bind (kGe2 bl) else .stuck := rfl
theorem evE_Ge {vs : List Nat} : evE c (.gen bl src tg vs es e) ρ F = (evI c src ρ F).bind (kGe c bl tg vs es e ρ) := by
  rw [evE_gen]
  rfl
noncomputable def kEl3 (S : List Nat) : Val → Feed → R (Option (PyData × Al))
  | .dat d al, F => .ok (some (d, srcAl S al)) F
  | _, _ => .stuck
theorem kEl3_e : kEl3 S (.dat d al) F = .ok (some (d, srcAl S al)) F := rfl
noncomputable def kEl2 (c : Cfg) (elt : IE) (ρ : Env) (S : List Nat) : Bool → Feed → R (Option (PyData × Al))
  | true, F => (evE c elt ρ F).bind (kEl3 S)
  | false, F => .ok none F
theorem kEl2_t : kEl2 c e ρ S true F = (evE c e ρ F).bind (kEl3 S) := rfl
theorem kEl2_f : kEl2 c e ρ S false F = .ok none F := rfl
noncomputable def kEl (c : Cfg) (cond : IEs) (elt : IE) (S : List Nat) (ρ : Env) (F : Feed) : R (Option (PyData × Al)) := (evC c cond ρ F).bind (kEl2 c elt ρ S)
theorem kEl_e : kEl c es e S ρ F = (evC c es ρ F).bind (kEl2 c e ρ S) := rfl
theorem elemR_e {vs : List Nat} : elemR c tg vs es e ρ S d F = (R.of (bindT tg d (some S) (wipeE ρ vs)) F).bind (kEl c es e S) := by
  unfold elemR
  congr 1
  funext ρ' F
  unfold kEl
  congr 1
  funext k F
  cases k
  · rfl
  · simp only [if_true, kEl2_t]
    congr 1
    funext v F
    cases v <;> rfl
noncomputable def kEs2 (v : Val) : List Val → Feed → R (List Val)
  | vs, F => .ok (v :: vs) F
theorem kEs2_e : kEs2 v vs F = .ok (v :: vs) F := rfl
noncomputable def kEs (c : Cfg) (es : IEs) (ρ : Env) (v : Val) (F : Feed) : R (List Val) := (evEs c es ρ F).bind (kEs2 v)
theorem kEs_e : kEs c es ρ v F = (evEs c es ρ F).bind (kEs2 v) := rfl
theorem evEs_n : evEs c .nil ρ F = .ok [] F := by
  first
  | (rw [evEs]; done)
  | (rw [evEs] <;> first | rfl | (intro i h; cases h))
  | (rw [evEs]; rfl)
  | (rw [evEs]; cases ρ[n]? with
    | none => rfl
    | some o => cases o <;> rfl)
theorem evEs_c : evEs c (.cons e es) ρ F = (evE c e ρ F).bind (kEs c es ρ) := by
  first
  | (rw [evEs]; done)
  | (rw [evEs] <;> first | rfl | (intro i h; cases h))
  | (rw [evEs]; rfl)
  | (rw [evEs]; cases ρ[n]? with
    | none => rfl
    | some o => cases o <;> rfl)
noncomputable def kSt3 (al : Al) (ds : List PyData) : List Val → Feed → R (List Val)
  | vs, F => .ok (ds.map (fun d => .dat d (itemAl al)) ++ vs) F
theorem kSt3_e : kSt3 al ds vs F = .ok (ds.map (fun d => .dat d (itemAl al)) ++ vs) F := rfl
noncomputable def kSt2 (c : Cfg) (es : IEs) (ρ : Env) (al : Al) (ds : List PyData) (F : Feed) : R (List Val) := (evEs c es ρ F).bind (kSt3 al ds)
theorem kSt2_e : kSt2 c es ρ al ds F = (evEs c es ρ F).bind (kSt3 al ds) := rfl
noncomputable def kSt (c : Cfg) (es : IEs) (ρ : Env) : Val → Feed → R (List Val)
  | .dat d al, F => (R.of (seqD d) F).bind (kSt2 c es ρ al)
  | _, _ => .stuck
theorem kSt_e : kSt c es ρ (.dat d al) F = (R.of (seqD d) F).bind (kSt2 c es ρ al) := rfl
theorem evEs_s : evEs c (.star e es) ρ F = (evE c e ρ F).bind (kSt c es ρ) := by
  rw [evEs]
  congr 1
  funext x F
  cases x <;> rfl
noncomputable def kO : Val → Feed → R (Option Int)
  | .dat (.int i) _, F => .ok (some i) F
  | _, _ => .stuck
theorem kO_e {i : Int} : kO (.dat (.int i) al) F = .ok (some i) F := rfl
theorem evO_n : evO c .no ρ F = .ok none F := by
  first
  | (rw [evO]; done)
  | (rw [evO] <;> first | rfl | (intro i h; cases h))
  | (rw [evO]; rfl)
  | (rw [evO]; cases ρ[n]? with
    | none => rfl
    | some o => cases o <;> rfl)
theorem evO_y : evO c (.yes e) ρ F = (evE c e ρ F).bind kO := by
  rw [evO]
  congr 1
  funext x F
  match x with
  | .dat (.int m) _ => rfl
  | .dat (.bool true) _ => rfl
  | .dat (.bool false) _ => rfl
  | .dat .none _ => rfl
  | .dat (.str _) _ => rfl
  | .dat (.list _) _ => rfl
  | .dat (.tuple _) _ => rfl
  | .dat (.dict _) _ => rfl
  | .feed => rfl
  | .exc _ => rfl
noncomputable def kIseq2 (al : Al) : List PyData → Feed → R (List PyData × List Nat)
  | ds, F => .ok (ds, al.getD []) F
theorem kIseq2_e : kIseq2 al ds F = .ok (ds, al.getD []) F := rfl
noncomputable def kIseq : Val → Feed → R (List PyData × List Nat)
  | .dat d al, F => (R.of (seqD d) F).bind (kIseq2 al)
  | _, _ => .stuck
theorem kIseq_e : kIseq (.dat d al) F = (R.of (seqD d) F).bind (kIseq2 al) := rfl
theorem evI_seq : evI c (.seq e) ρ F = (evE c e ρ F).bind kIseq := by
  rw [evI]
  congr 1
  funext x F
  cases x <;> rfl
noncomputable def kIenum2 (al : Al) : List PyData → Feed → R (List PyData × List Nat)
  | ds, F => .ok (enumD 0 ds, al.getD []) F
theorem kIenum2_e : kIenum2 al ds F = .ok (enumD 0 ds, al.getD []) F := rfl
noncomputable def kIenum : Val → Feed → R (List PyData × List Nat)
  | .dat d al, F => (R.of (seqD d) F).bind (kIenum2 al)
  | _, _ => .stuck
theorem kIenum_e : kIenum (.dat d al) F = (R.of (seqD d) F).bind (kIenum2 al) := rfl
theorem evI_enum : evI c (.enum e) ρ F = (evE c e ρ F).bind kIenum := by
  rw [evI]
  congr 1
  funext x F
  cases x <;> rfl
noncomputable def kIrev2 (al : Al) : List PyData → Feed → R (List PyData × List Nat)
  | ds, F => .ok (ds.reverse, al.getD []) F
theorem kIrev2_e : kIrev2 al ds F = .ok (ds.reverse, al.getD []) F := rfl
noncomputable def kIrev : Val → Feed → R (List PyData × List Nat)
  | .dat d al, F => (R.of (seqD d) F).bind (kIrev2 al)
  | _, _ => .stuck
theorem kIrev_e : kIrev (.dat d al) F = (R.of (seqD d) F).bind (kIrev2 al) := rfl
theorem evI_rev : evI c (.rev e) ρ F = (evE c e ρ F).bind kIrev := by
  rw [evI]
  congr 1
  funext x F
  cases x <;> rfl
noncomputable def kRg3 : List PyData → Feed → R (List PyData × List Nat)
  | ds, F => .ok (ds, []) F
theorem kRg3_e : kRg3 ds F = .ok (ds, []) F := rfl
noncomputable def kRg2 : List PyData × Al → Feed → R (List PyData × List Nat)
  | p, F => (R.of (rngD p.1) F).bind kRg3
theorem kRg2_e : kRg2 (ds, al) F = (R.of (rngD ds) F).bind kRg3 := rfl
noncomputable def kRg (vs : List Val) (F : Feed) : R (List PyData × List Nat) := (R.of (datsV vs) F).bind kRg2
theorem kRg_e : kRg vs F = (R.of (datsV vs) F).bind kRg2 := rfl
theorem evI_rng : evI c (.rng es) ρ F = (evEs c es ρ F).bind kRg := by
  first
  | (rw [evI]; done)
  | (rw [evI] <;> first | rfl | (intro i h; cases h))
  | (rw [evI]; rfl)
  | (rw [evI]; cases ρ[n]? with
    | none => rfl
    | some o => cases o <;> rfl)
noncomputable def kZ4 (ds : List PyData) (S : List Nat) : List PyData → Feed → R (List PyData × List Nat)
  | ds1, F => .ok (zipD ds ds1, S) F
theorem kZ4_e : kZ4 ds S ds1 F = .ok (zipD ds ds1, S) F := rfl
noncomputable def kZ3 (d : PyData) (S : List Nat) : List PyData → Feed → R (List PyData × List Nat)
  | ds, F => (R.of (seqD d) F).bind (kZ4 ds S)
theorem kZ3_e : kZ3 d S ds F = (R.of (seqD d) F).bind (kZ4 ds S) := rfl
noncomputable def kZ2 : Val → Val → Feed → R (List PyData × List Nat)
  | .dat d al, .dat d1 al1, F => (R.of (seqD d) F).bind (kZ3 d1 (al.getD [] ++ al1.getD []))
  | _, _, _ => .stuck
theorem kZ2_e : kZ2 (.dat d al) (.dat d1 al1) F = (R.of (seqD d) F).bind (kZ3 d1 (al.getD [] ++ al1.getD [])) := rfl
noncomputable def kZ (c : Cfg) (b : IE) (ρ : Env) (x : Val) (F : Feed) : R (List PyData × List Nat) := (evE c b ρ F).bind (kZ2 x)
theorem kZ_e : kZ c b ρ x F = (evE c b ρ F).bind (kZ2 x) := rfl
theorem evI_zip : evI c (.zip a b) ρ F = (evE c a ρ F).bind (kZ c b ρ) := by
  rw [evI]
  congr 1
  funext x F
  unfold kZ
  congr 1
  funext y F
  cases x <;> cases y <;> rfl
noncomputable def kC2 (c : Cfg) (es : IEs) (ρ : Env) : Bool → Feed → R Bool
  | true, F => evC c es ρ F
  | false, F => .ok false F
theorem kC2_t : kC2 c es ρ true F = evC c es ρ F := rfl
theorem kC2_f : kC2 c es ρ false F = .ok false F := rfl
noncomputable def kC (c : Cfg) (es : IEs) (ρ : Env) (x : Val) (F : Feed) : R Bool := (R.of (truV x) F).bind (kC2 c es ρ)
theorem kC_e : kC c es ρ x F = (R.of (truV x) F).bind (kC2 c es ρ) := rfl
theorem evC_n : evC c .nil ρ F = .ok true F := by
  first
  | (rw [evC]; done)
  | (rw [evC] <;> first | rfl | (intro i h; cases h))
  | (rw [evC]; rfl)
  | (rw [evC]; cases ρ[n]? with
    | none => rfl
    | some o => cases o <;> rfl)
theorem evC_c : evC c (.cons e es) ρ F = (evE c e ρ F).bind (kC c es ρ) := by
  rw [evC]
  congr 1
  funext x F
  unfold kC
  congr 1
  funext k F
  cases k <;> rfl
noncomputable def kSe (ρ : Env) (i : Nat) : Val → Feed → R Fl
  | v, F => .ok (.next (store ρ i v)) F
theorem kSe_e : kSe ρ n v F = .ok (.next (store ρ n v)) F := rfl
theorem evS_set : evS c (.set n e) ρ F = (evE c e ρ F).bind (kSe ρ n) := by
  first
  | (rw [evS]; done)
  | (rw [evS] <;> first | rfl | (intro i h; cases h))
  | (rw [evS]; rfl)
  | (rw [evS]; cases ρ[n]? with
    | none => rfl
    | some o => cases o <;> rfl)
noncomputable def kNx : Env → Feed → R Fl
  | ρ, F => .ok (.next ρ) F
theorem kNx_e : kNx ρ F = .ok (.next ρ) F := rfl
noncomputable def kUn (t : Tg) (ρ : Env) : Val → Feed → R Fl
  | .dat d al, F => (R.of (bindT t d (itemAl al) ρ) F).bind kNx
  | _, _ => .stuck
theorem kUn_e : kUn tg ρ (.dat d al) F = (R.of (bindT tg d (itemAl al) ρ) F).bind kNx := rfl
theorem evS_unp : evS c (.unp tg e) ρ F = (evE c e ρ F).bind (kUn tg ρ) := by
  rw [evS]
  congr 1
  funext x F
  cases x <;> rfl
noncomputable def kPr2 (i j : Nat) (ρ : Env) (v : Val) : Val → Feed → R Fl
  | u, F => .ok (.next (store (store ρ i (parV v u)) j u)) F
theorem kPr2_e : kPr2 n m ρ v u F = .ok (.next (store (store ρ n (parV v u)) m u)) F := rfl
noncomputable def kPr (c : Cfg) (i j : Nat) (b : IE) (ρ : Env) (v : Val) (F : Feed) : R Fl := (evE c b ρ F).bind (kPr2 i j ρ v)
theorem kPr_e : kPr c n m b ρ v F = (evE c b ρ F).bind (kPr2 n m ρ v) := rfl
theorem evS_par : evS c (.par n m a b) ρ F = (evE c a ρ F).bind (kPr c n m b ρ) := by
  first
  | (rw [evS]; done)
  | (rw [evS] <;> first | rfl | (intro i h; cases h))
  | (rw [evS]; rfl)
  | (rw [evS]; cases ρ[n]? with
    | none => rfl
    | some o => cases o <;> rfl)
noncomputable def kPx3 (i j k : Nat) (ρ : Env) (v u : Val) : Val → Feed → R Fl
  | w, F => if okP v && okP u && okP w then .ok (.next (store (store (store ρ i v) j u) k w)) F else .stuck
theorem kPx3_e : kPx3 n m n1 ρ v u w1 F = if okP v && okP u && okP w1 then .ok (.next (store (store (store ρ n v) m u) n1 w1)) F else .stuck := rfl
noncomputable def kPx2 (c : Cfg) (i j k : Nat) (e : IE) (ρ : Env) (v u : Val) (F : Feed) : R Fl := (evE c e ρ F).bind (kPx3 i j k ρ v u)
theorem kPx2_e : kPx2 c n m n1 e ρ v u F = (evE c e ρ F).bind (kPx3 n m n1 ρ v u) := rfl
noncomputable def kPx (c : Cfg) (i j k : Nat) (b e : IE) (ρ : Env) (v : Val) (F : Feed) : R Fl := (evE c b ρ F).bind (kPx2 c i j k e ρ v)
theorem kPx_e : kPx c n m n1 b e ρ v F = (evE c b ρ F).bind (kPx2 c n m n1 e ρ v) := rfl
theorem evS_par3 : evS c (.par3 n m n1 a b e) ρ F = (evE c a ρ F).bind (kPx c n m n1 b e ρ) := by
  first
  | (rw [evS]; done)
  | (rw [evS] <;> first | rfl | (intro i h; cases h))
  | (rw [evS]; rfl)
  | (rw [evS]; cases ρ[n]? with
    | none => rfl
    | some o => cases o <;> rfl)
noncomputable def kAu3 (i : Nat) (ρ : Env) : Option PyData → Feed → R Fl
  | some (.int z), F => .ok (.next (ρ.set i (some (.dat (.int z) none)))) F
  | _, _ => .stuck
theorem kAu3_e {z : Int} : kAu3 n ρ (some (.int z)) F = .ok (.next (ρ.set n (some (.dat (.int z) none)))) F := rfl
noncomputable def kAu2 (i : Nat) (f : Bop) (ρ : Env) (a : Int) : Val → Feed → R Fl
  | .dat (.int b) _, F => kAu3 i ρ (bopD f (.int a) (.int b)) F
  | _, _ => .stuck
theorem kAu2_e {a b : Int} : kAu2 n f ρ a (.dat (.int b) al) F = kAu3 n ρ (bopD f (.int a) (.int b)) F := rfl
noncomputable def kAu (c : Cfg) (i : Nat) (f : Bop) (e : IE) (ρ : Env) : Option (Option Val) → Feed → R Fl
  | some (some (.dat (.int a) _)), F => (evE c e ρ F).bind (kAu2 i f ρ a)
  | _, _ => .stuck
theorem kAu_e {a : Int} : kAu c n f e ρ (some (some (.dat (.int a) al))) F = (evE c e ρ F).bind (kAu2 n f ρ a) := rfl
theorem kAu_int {a b : Int} : (match bopD f (.int a) (.int b) with | some (.int z) => R.ok (Fl.next (ρ.set n (some (.dat (.int z) none)))) F | _ => .stuck) = kAu3 n ρ (bopD f (.int a) (.int b)) F := by
  cases bopD f (.int a) (.int b) with
  | none => rfl
  | some z => cases z <;> rfl
theorem evS_aug : evS c (.aug n f e) ρ F = kAu c n f e ρ ρ[n]? F := by
  rw [evS]
  cases ρ[n]? with
  | none => rfl
  | some o =>
    cases o with
    | none => rfl
    | some v =>
      match v with
      | .dat (.int a) al =>
        simp only [kAu_e]
        congr 1
        funext x F
        match x with
        | .dat (.int b) _ => exact kAu_int
        | .dat (.bool true) _ => rfl
        | .dat (.bool false) _ => rfl
        | .dat .none _ => rfl
        | .dat (.str _) _ => rfl
        | .dat (.list _) _ => rfl
        | .dat (.tuple _) _ => rfl
        | .dat (.dict _) _ => rfl
        | .feed => rfl
        | .exc _ => rfl
      | .dat (.bool true) _ => rfl
      | .dat (.bool false) _ => rfl
      | .dat .none _ => rfl
      | .dat (.str _) _ => rfl
      | .dat (.list _) _ => rfl
      | .dat (.tuple _) _ => rfl
      | .dat (.dict _) _ => rfl
      | .feed => rfl
      | .exc _ => rfl
noncomputable def kSx4 (x : Nat) (ρ : Env) (d : PyData) (ds : List PyData) : Nat → Feed → R Fl
  | k, F => .ok (.next (ρ.set x (some (.dat (.list (ds.set k d)) none)))) F
theorem kSx4_e : kSx4 n ρ d ds m F = .ok (.next (ρ.set n (some (.dat (.list (ds.set m d)) none)))) F := rfl
noncomputable def kSx3 (x : Nat) (ρ : Env) : Val → List PyData → Val → Feed → R Fl
  | .dat d al, ds, .dat (.int i) _, F => if okPut d al = true then (R.of (ixOf ds.length i) F).bind (kSx4 x ρ d ds) else .stuck
  | _, _, _, _ => .stuck
theorem kSx3_e {i : Int} : kSx3 n ρ (.dat d al) ds (.dat (.int i) al1) F = if okPut d al = true then (R.of (ixOf ds.length i) F).bind (kSx4 n ρ d ds) else .stuck := rfl
noncomputable def kSx2 (c : Cfg) (x : Nat) (ix : IE) (ρ : Env) (v : Val) (ds : List PyData) (F : Feed) : R Fl := (evE c ix ρ F).bind (kSx3 x ρ v ds)
theorem kSx2_e : kSx2 c n i ρ v ds F = (evE c i ρ F).bind (kSx3 n ρ v ds) := rfl
noncomputable def kSx (c : Cfg) (x : Nat) (ix : IE) (ρ : Env) (v : Val) (F : Feed) : R Fl := (R.of (ownL ρ x) F).bind (kSx2 c x ix ρ v)
theorem kSx_e : kSx c n i ρ v F = (R.of (ownL ρ n) F).bind (kSx2 c n i ρ v) := rfl
theorem evS_setIx : evS c (.setIx n i e) ρ F = (evE c e ρ F).bind (kSx c n i ρ) := by
  rw [evS]
  congr 1
  funext v F
  unfold kSx
  congr 1
  funext ds F
  unfold kSx2
  congr 1
  funext u F
  cases v with
  | dat d al =>
    match u with
    | .dat (.int i) _ => rfl
    | .dat (.bool true) _ => rfl
    | .dat (.bool false) _ => rfl
    | .dat .none _ => rfl
    | .dat (.str _) _ => rfl
    | .dat (.list _) _ => rfl
    | .dat (.tuple _) _ => rfl
    | .dat (.dict _) _ => rfl
    | .feed => rfl
    | .exc _ => rfl
  | feed => rfl
  | exc x => rfl
noncomputable def kAp2 (x : Nat) (ρ : Env) (ds : List PyData) : Val → Feed → R Fl
  | .dat d al, F => if ds.length < sizeLine ∧ okPut d al = true then .ok (.next (ρ.set x (some (.dat (.list (ds ++ [d])) none)))) F else .stuck
  | _, _ => .stuck
theorem kAp2_e : kAp2 n ρ ds (.dat d al) F = if ds.length < sizeLine ∧ okPut d al = true then .ok (.next (ρ.set n (some (.dat (.list (ds ++ [d])) none)))) F else .stuck := rfl
noncomputable def kAp (c : Cfg) (x : Nat) (e : IE) (ρ : Env) (ds : List PyData) (F : Feed) : R Fl := (evE c e ρ F).bind (kAp2 x ρ ds)
theorem kAp_e : kAp c n e ρ ds F = (evE c e ρ F).bind (kAp2 n ρ ds) := rfl
theorem evS_app : evS c (.app n e) ρ F = (R.of (ownL ρ n) F).bind (kAp c n e ρ) := by
  rw [evS]
  congr 1
  funext ds F
  unfold kAp
  congr 1
  funext x F
  cases x <;> rfl
noncomputable def kPo (x : Nat) (ρ : Env) : List PyData → Feed → R Fl
  | ds, F => if ds.isEmpty then .stuck else .ok (.next (ρ.set x (some (.dat (.list ds.dropLast) none)))) F
theorem kPo_e : kPo n ρ ds F = if ds.isEmpty = true then .stuck else .ok (.next (ρ.set n (some (.dat (.list ds.dropLast) none)))) F := rfl
theorem evS_pop : evS c (.pop n) ρ F = (R.of (ownL ρ n) F).bind (kPo n ρ) := by
  first
  | (rw [evS]; done)
  | (rw [evS] <;> first | rfl | (intro i h; cases h))
  | (rw [evS]; rfl)
  | (rw [evS]; cases ρ[n]? with
    | none => rfl
    | some o => cases o <;> rfl)
noncomputable def kRe (x : Nat) (ρ : Env) : List PyData → Feed → R Fl
  | ds, F => .ok (.next (ρ.set x (some (.dat (.list ds.reverse) none)))) F
theorem kRe_e : kRe n ρ ds F = .ok (.next (ρ.set n (some (.dat (.list ds.reverse) none)))) F := rfl
theorem evS_reverse : evS c (.reverse n) ρ F = (R.of (ownL ρ n) F).bind (kRe n ρ) := by
  first
  | (rw [evS]; done)
  | (rw [evS] <;> first | rfl | (intro i h; cases h))
  | (rw [evS]; rfl)
  | (rw [evS]; cases ρ[n]? with
    | none => rfl
    | some o => cases o <;> rfl)
noncomputable def kEx (ρ : Env) : Val → Feed → R Fl
  | _, F => .ok (.next ρ) F
theorem kEx_e : kEx ρ v F = .ok (.next ρ) F := rfl
theorem evS_ex : evS c (.ex e) ρ F = (evE c e ρ F).bind (kEx ρ) := by
  first
  | (rw [evS]; done)
  | (rw [evS] <;> first | rfl | (intro i h; cases h))
  | (rw [evS]; rfl)
  | (rw [evS]; cases ρ[n]? with
    | none => rfl
    | some o => cases o <;> rfl)
noncomputable def kIf2 (c : Cfg) (a b : ISs) (ρ : Env) : Bool → Feed → R Fl
  | true, F => evSs c a ρ F
  | false, F => evSs c b ρ F
theorem kIf2_t : kIf2 c ss sb ρ true F = evSs c ss ρ F := rfl
theorem kIf2_f : kIf2 c ss sb ρ false F = evSs c sb ρ F := rfl
noncomputable def kIf (c : Cfg) (a b : ISs) (ρ : Env) (x : Val) (F : Feed) : R Fl := (R.of (truV x) F).bind (kIf2 c a b ρ)
theorem kIf_e : kIf c ss sb ρ x F = (R.of (truV x) F).bind (kIf2 c ss sb ρ) := rfl
theorem evS_ite : evS c (.ite t ss sb) ρ F = (evE c t ρ F).bind (kIf c ss sb ρ) := by
  rw [evS]
  congr 1
  funext x F
  unfold kIf
  congr 1
  funext k F
  cases k <;> rfl
noncomputable def kRt : Val → Feed → R Fl
  | v, F => .ok (.ret v) F
theorem kRt_e : kRt v F = .ok (.ret v) F := rfl
noncomputable def kRtV : Option (Option Val) → Feed → R Fl
  | some (some v), F => .ok (.ret v) F
  | _, _ => .stuck
theorem kRtV_e : kRtV (some (some v)) F = .ok (.ret v) F := rfl
theorem evS_retV : evS c (.ret (.var n)) ρ F = kRtV ρ[n]? F := by
  first
  | (rw [evS]; done)
  | (rw [evS] <;> first | rfl | (intro i h; cases h))
  | (rw [evS]; rfl)
  | (rw [evS]; cases ρ[n]? with
    | none => rfl
    | some o => cases o <;> rfl)
theorem evR_con : evS c (.ret (.con d)) ρ F = (evE c (.con d) ρ F).bind kRt := by
  first
  | (rw [evS]; done)
  | (rw [evS] <;> first | rfl | (intro i h; cases h))
  | (rw [evS]; rfl)
  | (rw [evS]; cases ρ[n]? with
    | none => rfl
    | some o => cases o <;> rfl)
theorem evR_bin : evS c (.ret (.bin f a b)) ρ F = (evE c (.bin f a b) ρ F).bind kRt := by
  first
  | (rw [evS]; done)
  | (rw [evS] <;> first | rfl | (intro i h; cases h))
  | (rw [evS]; rfl)
  | (rw [evS]; cases ρ[n]? with
    | none => rfl
    | some o => cases o <;> rfl)
theorem evR_neg : evS c (.ret (.neg a)) ρ F = (evE c (.neg a) ρ F).bind kRt := by
  first
  | (rw [evS]; done)
  | (rw [evS] <;> first | rfl | (intro i h; cases h))
  | (rw [evS]; rfl)
  | (rw [evS]; cases ρ[n]? with
    | none => rfl
    | some o => cases o <;> rfl)
theorem evR_cmp : evS c (.ret (.cmp cf a b)) ρ F = (evE c (.cmp cf a b) ρ F).bind kRt := by
  first
  | (rw [evS]; done)
  | (rw [evS] <;> first | rfl | (intro i h; cases h))
  | (rw [evS]; rfl)
  | (rw [evS]; cases ρ[n]? with
    | none => rfl
    | some o => cases o <;> rfl)
theorem evR_chain : evS c (.ret (.chain cf cg a b e)) ρ F = (evE c (.chain cf cg a b e) ρ F).bind kRt := by
  first
  | (rw [evS]; done)
  | (rw [evS] <;> first | rfl | (intro i h; cases h))
  | (rw [evS]; rfl)
  | (rw [evS]; cases ρ[n]? with
    | none => rfl
    | some o => cases o <;> rfl)
theorem evR_andV : evS c (.ret (.andV a b)) ρ F = (evE c (.andV a b) ρ F).bind kRt := by
  first
  | (rw [evS]; done)
  | (rw [evS] <;> first | rfl | (intro i h; cases h))
  | (rw [evS]; rfl)
  | (rw [evS]; cases ρ[n]? with
    | none => rfl
    | some o => cases o <;> rfl)
theorem evR_orV : evS c (.ret (.orV a b)) ρ F = (evE c (.orV a b) ρ F).bind kRt := by
  first
  | (rw [evS]; done)
  | (rw [evS] <;> first | rfl | (intro i h; cases h))
  | (rw [evS]; rfl)
  | (rw [evS]; cases ρ[n]? with
    | none => rfl
    | some o => cases o <;> rfl)
theorem evR_andT : evS c (.ret (.andT a b)) ρ F = (evE c (.andT a b) ρ F).bind kRt := by
  first
  | (rw [evS]; done)
  | (rw [evS] <;> first | rfl | (intro i h; cases h))
  | (rw [evS]; rfl)
  | (rw [evS]; cases ρ[n]? with
    | none => rfl
    | some o => cases o <;> rfl)
theorem evR_orT : evS c (.ret (.orT a b)) ρ F = (evE c (.orT a b) ρ F).bind kRt := by
  first
  | (rw [evS]; done)
  | (rw [evS] <;> first | rfl | (intro i h; cases h))
  | (rw [evS]; rfl)
  | (rw [evS]; cases ρ[n]? with
    | none => rfl
    | some o => cases o <;> rfl)
theorem evR_ite : evS c (.ret (.ite t a b)) ρ F = (evE c (.ite t a b) ρ F).bind kRt := by
  first
  | (rw [evS]; done)
  | (rw [evS] <;> first | rfl | (intro i h; cases h))
  | (rw [evS]; rfl)
  | (rw [evS]; cases ρ[n]? with
    | none => rfl
    | some o => cases o <;> rfl)
theorem evR_tup : evS c (.ret (.tup es)) ρ F = (evE c (.tup es) ρ F).bind kRt := by
  first
  | (rw [evS]; done)
  | (rw [evS] <;> first | rfl | (intro i h; cases h))
  | (rw [evS]; rfl)
  | (rw [evS]; cases ρ[n]? with
    | none => rfl
    | some o => cases o <;> rfl)
theorem evR_lst : evS c (.ret (.lst es)) ρ F = (evE c (.lst es) ρ F).bind kRt := by
  first
  | (rw [evS]; done)
  | (rw [evS] <;> first | rfl | (intro i h; cases h))
  | (rw [evS]; rfl)
  | (rw [evS]; cases ρ[n]? with
    | none => rfl
    | some o => cases o <;> rfl)
theorem evR_idx : evS c (.ret (.idx a i)) ρ F = (evE c (.idx a i) ρ F).bind kRt := by
  first
  | (rw [evS]; done)
  | (rw [evS] <;> first | rfl | (intro i h; cases h))
  | (rw [evS]; rfl)
  | (rw [evS]; cases ρ[n]? with
    | none => rfl
    | some o => cases o <;> rfl)
theorem evR_slc : evS c (.ret (.slc a lo hi)) ρ F = (evE c (.slc a lo hi) ρ F).bind kRt := by
  first
  | (rw [evS]; done)
  | (rw [evS] <;> first | rfl | (intro i h; cases h))
  | (rw [evS]; rfl)
  | (rw [evS]; cases ρ[n]? with
    | none => rfl
    | some o => cases o <;> rfl)
theorem evR_rev : evS c (.ret (.rev a)) ρ F = (evE c (.rev a) ρ F).bind kRt := by
  first
  | (rw [evS]; done)
  | (rw [evS] <;> first | rfl | (intro i h; cases h))
  | (rw [evS]; rfl)
  | (rw [evS]; cases ρ[n]? with
    | none => rfl
    | some o => cases o <;> rfl)
theorem evR_call : evS c (.ret (.call fn es)) ρ F = (evE c (.call fn es) ρ F).bind kRt := by
  first
  | (rw [evS]; done)
  | (rw [evS] <;> first | rfl | (intro i h; cases h))
  | (rw [evS]; rfl)
  | (rw [evS]; cases ρ[n]? with
    | none => rfl
    | some o => cases o <;> rfl)
theorem evR_draw : evS c (.ret (.draw n e)) ρ F = (evE c (.draw n e) ρ F).bind kRt := by
  first
  | (rw [evS]; done)
  | (rw [evS] <;> first | rfl | (intro i h; cases h))
  | (rw [evS]; rfl)
  | (rw [evS]; cases ρ[n]? with
    | none => rfl
    | some o => cases o <;> rfl)
theorem evR_blt : evS c (.ret (.blt bl es)) ρ F = (evE c (.blt bl es) ρ F).bind kRt := by
  first
  | (rw [evS]; done)
  | (rw [evS] <;> first | rfl | (intro i h; cases h))
  | (rw [evS]; rfl)
  | (rw [evS]; cases ρ[n]? with
    | none => rfl
    | some o => cases o <;> rfl)
theorem evR_not : evS c (.ret (.not a)) ρ F = (evE c (.not a) ρ F).bind kRt := by
  first
  | (rw [evS]; done)
  | (rw [evS] <;> first | rfl | (intro i h; cases h))
  | (rw [evS]; rfl)
  | (rw [evS]; cases ρ[n]? with
    | none => rfl
    | some o => cases o <;> rfl)
theorem evR_lc {vs : List Nat} : evS c (.ret (.lc src tg vs es e)) ρ F = (evE c (.lc src tg vs es e) ρ F).bind kRt := by
  rw [evS] <;> first | rfl | (intro i h; cases h)
theorem evR_gen {vs : List Nat} : evS c (.ret (.gen bl src tg vs es e)) ρ F = (evE c (.gen bl src tg vs es e) ρ F).bind kRt := by
  rw [evS] <;> first | rfl | (intro i h; cases h)
theorem evS_retN : evS c .retN ρ F = .ok (.ret (.dat .none none)) F := by
  first
  | (rw [evS]; done)
  | (rw [evS] <;> first | rfl | (intro i h; cases h))
  | (rw [evS]; rfl)
  | (rw [evS]; cases ρ[n]? with
    | none => rfl
    | some o => cases o <;> rfl)
theorem evS_brk : evS c .brk ρ F = .ok (.brk ρ) F := by
  first
  | (rw [evS]; done)
  | (rw [evS] <;> first | rfl | (intro i h; cases h))
  | (rw [evS]; rfl)
  | (rw [evS]; cases ρ[n]? with
    | none => rfl
    | some o => cases o <;> rfl)
theorem evS_cnt : evS c .cnt ρ F = .ok (.cont ρ) F := by
  first
  | (rw [evS]; done)
  | (rw [evS] <;> first | rfl | (intro i h; cases h))
  | (rw [evS]; rfl)
  | (rw [evS]; cases ρ[n]? with
    | none => rfl
    | some o => cases o <;> rfl)
theorem evS_pas : evS c .pas ρ F = .ok (.next ρ) F := by
  first
  | (rw [evS]; done)
  | (rw [evS] <;> first | rfl | (intro i h; cases h))
  | (rw [evS]; rfl)
  | (rw [evS]; cases ρ[n]? with
    | none => rfl
    | some o => cases o <;> rfl)
noncomputable def kSs (c : Cfg) (ss : ISs) : Fl → Feed → R Fl
  | .next ρ, F => evSs c ss ρ F
  | .brk ρ, F => .ok (.brk ρ) F
  | .cont ρ, F => .ok (.cont ρ) F
  | .ret v, F => .ok (.ret v) F
theorem kSs_n : kSs c ss (.next ρ) F = evSs c ss ρ F := rfl
theorem kSs_b : kSs c ss (.brk ρ) F = .ok (.brk ρ) F := rfl
theorem kSs_c : kSs c ss (.cont ρ) F = .ok (.cont ρ) F := rfl
theorem kSs_r : kSs c ss (.ret v) F = .ok (.ret v) F := rfl
theorem evSs_n : evSs c .nil ρ F = .ok (.next ρ) F := by
  first
  | (rw [evSs]; done)
  | (rw [evSs] <;> first | rfl | (intro i h; cases h))
  | (rw [evSs]; rfl)
  | (rw [evSs]; cases ρ[n]? with
    | none => rfl
    | some o => cases o <;> rfl)
theorem evSs_c : evSs c (.cons s ss) ρ F = (evS c s ρ F).bind (kSs c ss) := by
  rw [evSs]
  congr 1
  funext x F
  cases x <;> rfl
noncomputable def kFr (c : Cfg) (tg : Tg) (b : ISs) (ρ : Env) : List PyData × List Nat → Feed → R Fl
  | it, F => loopF c tg b it.1 (freeze it.2 ρ) F
theorem kFr_e : kFr c tg ss ρ (ds, S) F = loopF c tg ss ds (freeze S ρ) F := rfl
theorem evS_For : evS c (.for_ src tg ss) ρ F = (evI c src ρ F).bind (kFr c tg ss ρ) := by
  rw [evS_for]
  rfl
noncomputable def kBd (c : Cfg) (b : ISs) : Env → Feed → R Fl
  | ρ, F => evSs c b ρ F
theorem kBd_e : kBd c ss ρ F = evSs c ss ρ F := rfl
theorem contF_next : contF c tg ss ds (.next ρ) F = loopF c tg ss ds ρ F := rfl
theorem contF_cont : contF c tg ss ds (.cont ρ) F = loopF c tg ss ds ρ F := rfl
theorem contF_brk : contF c tg ss ds (.brk ρ) F = .ok (.next ρ) F := rfl
theorem contF_ret : contF c tg ss ds (.ret v) F = .ok (.ret v) F := rfl
theorem contW_next : contW c t ss (.next ρ) F = loopW c t ss ρ F := rfl
theorem contW_cont : contW c t ss (.cont ρ) F = loopW c t ss ρ F := rfl
theorem contW_brk : contW c t ss (.brk ρ) F = .ok (.next ρ) F := rfl
theorem contW_ret : contW c t ss (.ret v) F = .ok (.ret v) F := rfl
noncomputable def kWh (c : Cfg) (t : IE) (b : ISs) (ρ : Env) : Bool → Feed → R Fl
  | true, F => (evSs c b ρ F).bind (contW c t b)
  | false, F => .ok (.next ρ) F
theorem kWh_t : kWh c t ss ρ true F = (evSs c ss ρ F).bind (contW c t ss) := rfl
theorem kWh_f : kWh c t ss ρ false F = .ok (.next ρ) F := rfl
noncomputable def kTv (x : Val) (F : Feed) : R Bool := R.of (truV x) F
theorem kTv_e : kTv x F = R.of (truV x) F := rfl
theorem loopW_e (c : Cfg) (t : IE) (ss : ISs) (ρ : Env) (F : Feed) : loopW c t ss ρ F = ((evE c t ρ F).bind kTv).bind (kWh c t ss ρ) := by
  rw [loopW_eq]
  show ((evE c t ρ F).bind kTv).bind _ = _
  congr 1
  funext k F
  cases k <;> rfl
theorem rd_n : readV n (.dat d none) = .dat d (some [n]) := rfl
theorem rd_s : readV n (.dat d (some S)) = .dat d (some []) := rfl
theorem rd_f : readV n .feed = .feed := rfl
theorem st_n : store ρ n (.dat d none) = ρ.set n (some (.dat d none)) := rfl
theorem st_s : store ρ n (.dat d (some S)) = if flat d = true then ρ.set n (some (.dat d none)) else (freeze S ρ).set n (some (.dat d (some []))) := rfl
theorem st_f : store ρ n .feed = ρ.set n (some .feed) := rfl
theorem jo_n : joinAl none al = al := by cases al <;> rfl
theorem jo_sn : joinAl (some S) none = some S := rfl
theorem ia_n : itemAl none = some [] := rfl
theorem ia_s : itemAl (some S) = some S := rfl
theorem sr_n : srcAl S none = none := rfl
theorem rs_n : resV S (.dat d none) = .dat d none := rfl
theorem rs_f : resV S .feed = .feed := rfl
theorem av_n : alVs [] = [] := rfl
theorem av_d : alVs (.dat d al :: vs) = al.getD [] ++ alVs vs := rfl
theorem av_f : alVs (.feed :: vs) = [] ++ alVs vs := rfl
theorem ds_n : datsV [] = some ([], none) := rfl
theorem ds_c : datsV (.dat d al :: vs) = (datsV vs).map fun p => (d :: p.1, joinAl al p.2) := rfl
theorem ag_n : argsV [] = some [] := rfl
theorem ag_d : argsV (.dat d al :: vs) = (argsV vs).map (.d d :: ·) := rfl
theorem ag_f : argsV (.feed :: vs) = (argsV vs).map (.feed :: ·) := rfl
noncomputable def kOw : Option (Option Val) → Option (List PyData)
  | some (some (.dat (.list ds) none)) => some ds
  | _ => none
theorem ow_e : ownL ρ n = kOw ρ[n]? := by
  unfold ownL
  cases ρ[n]? with
  | none => rfl
  | some o =>
    cases o with
    | none => rfl
    | some v =>
      match v with
      | .dat (.list ds) none => rfl
      | .dat (.list ds) (some _) => rfl
      | .dat (.int _) _ => rfl
      | .dat (.bool true) _ => rfl
      | .dat (.bool false) _ => rfl
      | .dat .none _ => rfl
      | .dat (.str _) _ => rfl
      | .dat (.tuple _) _ => rfl
      | .dat (.dict _) _ => rfl
      | .feed => rfl
      | .exc _ => rfl
theorem ow_l : kOw (some (some (.dat (.list ds) none))) = some ds := rfl
theorem tv_d : truV (.dat d al) = truD d := rfl
theorem jo_ss {S1 : List Nat} : joinAl (some S) (some S1) = some (S ++ S1) := rfl
theorem sr_s {S1 : List Nat} : srcAl S (some S1) = some (S1 ++ S) := rfl
theorem rs_s {S1 : List Nat} : resV S (.dat d (some S1)) = .dat d (some S) := rfl
noncomputable def kIsx (cs : List String) : Option (Option Val) → Feed → R Val
  | some (some (.exc w)), F => .ok (.dat (.bool (cs.any (xsub w.cls))) none) F
  | _, _ => .stuck
theorem kIsx_e {cs : List String} {w : Exc} : kIsx cs (some (some (.exc w))) F = .ok (.dat (.bool (cs.any (xsub w.cls))) none) F := rfl
theorem evE_isx {cs : List String} : evE c (.isx n cs) ρ F = kIsx cs ρ[n]? F := by
  rw [evE]
  cases ρ[n]? with
  | none => rfl
  | some o =>
    cases o with
    | none => rfl
    | some v => cases v <;> rfl
noncomputable def kXf (f : String) : Option (Option Val) → Feed → R Val
  | some (some (.exc w)), F => (R.of (((xflds w.cls).zip w.args).lookup f) F).bind kPl
  | _, _ => .stuck
theorem kXf_e {w : Exc} : kXf fn (some (some (.exc w))) F = (R.of (((xflds w.cls).zip w.args).lookup fn) F).bind kPl := rfl
theorem evE_xfld : evE c (.xfld n fn) ρ F = kXf fn ρ[n]? F := by
  rw [evE]
  cases ρ[n]? with
  | none => rfl
  | some o =>
    cases o with
    | none => rfl
    | some v => cases v <;> rfl
noncomputable def kIn : Int → Feed → R Val
  | z, F => .ok (.dat (.int z) none) F
theorem kIn_e {q : Int} : kIn q F = .ok (.dat (.int q) none) F := rfl
noncomputable def kCt3 (ys : List PyData) : Val → Feed → R Val
  | .dat e _, F => (R.of (countD ys e) F).bind kIn
  | _, _ => .stuck
theorem kCt3_e : kCt3 ds (.dat d al) F = (R.of (countD ds d) F).bind kIn := rfl
noncomputable def kCt2 (c : Cfg) (b : IE) (ρ : Env) (ys : List PyData) (F : Feed) : R Val := (evE c b ρ F).bind (kCt3 ys)
theorem kCt2_e : kCt2 c b ρ ds F = (evE c b ρ F).bind (kCt3 ds) := rfl
noncomputable def kCt (c : Cfg) (l : Bool) (b : IE) (ρ : Env) : Val → Feed → R Val
  | .dat d _, F => (R.of (seqL l d) F).bind (kCt2 c b ρ)
  | _, _ => .stuck
theorem kCt_e : kCt c bb b ρ (.dat d al) F = (R.of (seqL bb d) F).bind (kCt2 c b ρ) := rfl
theorem evE_count : evE c (.count bb a b) ρ F = (evE c a ρ F).bind (kCt c bb b ρ) := by
  rw [evE]
  congr 1
  funext x F
  cases x <;> try rfl
  simp only [datE, kCt_e]
  congr 1
  funext ys F
  unfold kCt2
  congr 1
  funext y F
  cases y <;> rfl
noncomputable def kRz2 (s : String) : List PyData × Al → Feed → R Fl
  | p, F => if xflds s = [] then (if p.1.length ≤ sizeLine then .exc ⟨s, []⟩ F else .stuck) else if p.1.length = (xflds s).length ∧ flatAll p.1 = true then .exc ⟨s, p.1⟩ F else .stuck
theorem kRz2_e : kRz2 fn (ds, al) F = if xflds fn = [] then (if ds.length ≤ sizeLine then .exc ⟨fn, []⟩ F else .stuck) else if ds.length = (xflds fn).length ∧ flatAll ds = true then .exc ⟨fn, ds⟩ F else .stuck := rfl
noncomputable def kRz (s : String) (vs : List Val) (F : Feed) : R Fl := (R.of (datsV vs) F).bind (kRz2 s)
theorem kRz_e : kRz fn vs F = (R.of (datsV vs) F).bind (kRz2 fn) := rfl
theorem evS_raise (h : c.dr.rz = true) : evS c (.raise fn es) ρ F = (evEs c es ρ F).bind (kRz fn) := by
  rw [evS, if_pos h]
  rfl
noncomputable def kTry (c : Cfg) (hs : IHs) (n : Nat) : R Fl → R Fl
  | .ok fl F => .ok fl F
  | .exc w F => evXh c hs w n F
  | .stuck => .stuck
theorem kTry_ok {hs : IHs} {fl : Fl} : kTry c hs n (.ok fl F) = .ok fl F := rfl
theorem kTry_exc {hs : IHs} {w : Exc} : kTry c hs n (.exc w F) = evXh c hs w n F := rfl
theorem evS_try {hs : IHs} : evS c (.try_ ss hs) ρ F = kTry c hs ρ.length (evSs c ss ρ F) := by
  rw [evS]
  cases evSs c ss ρ F <;> rfl
noncomputable def kSu (i : Option Nat) : R Fl → R Fl
  | .ok fl F => .ok (goneF i fl) F
  | _ => .stuck
theorem kSu_ok {i : Option Nat} {fl : Fl} : kSu i (.ok fl F) = .ok (goneF i fl) F := rfl
theorem evXh_t {hs : IHs} {w : Exc} {i : Option Nat} (h : xsub w.cls fn = true) : evXh c (.cons fn i ss hs) w n F = kSu i (evSs c ss (suiteE n w i) F) := by
  rw [evXh, if_pos h]
  cases evSs c ss (suiteE n w i) F <;> rfl
theorem rd_x {w : Exc} : readV n (.exc w) = .exc w := rfl
theorem ag_x {w : Exc} : argsV (.exc w :: vs) = (argsV vs).map (.exc w :: ·) := rfl
theorem av_x {w : Exc} : alVs (.exc w :: vs) = [] ++ alVs vs := rfl
theorem rs_x {w : Exc} : resV S (.exc w) = .exc w := rfl
end
end Pv
namespace Pv
open PySem L2 GB
class Has (T : Tab) (f : String) (fn : outParam Fn) : Prop where
  h : T f = some fn
class Sz (n : outParam Nat) (q : Rat) : Prop where
  bd : GB.Bd n q
def fr (q : Rat) : PyData := .tuple [.int q.num, .int q.den]
variable {dr : Dr} {T : Tab} {k n m : Nat} {F : Feed} {a b q : Rat}
theorem flat_fr (q : Rat) : flat (fr q) = true := rfl
theorem idx_fr0 (q : Rat) : idxD (fr q) (.int 0) = some (.int q.num) := rfl
theorem idx_fr1 (q : Rat) : idxD (fr q) (.int 1) = some (.int q.den) := rfl
theorem bindT_fr {ts : Tgs} {q : Rat} {al : Al} {ρ : Env} : bindT (.tp ts) (fr q) al ρ = bindTs ts [.int q.num, .int q.den] al ρ := by
  rw [fr, bindT]
theorem evH {f : String} {fn : Fn} [h : Has T f fn] {as : List Arg} (hl : as.length = fn.ps) : evF dr T (k + 1) f as F = (evSs ⟨evF dr T k, dr⟩ fn.body (startE fn.ns as) F).bind kOut := by
  rw [evF_eq h.h hl]
  congr 1
  funext fl F
  cases fl <;> rfl
local macro_rules | `(tactic| simp! only [$xs,*]) => `(tactic| simp (config := {dsimp := false, implicitDefEqProofs := false}) only [kOut_n, kOut_r, kPut_e, kPl_e, kBo_e, kVar_e, evE_var, evE_con, kBin2_e, kBin_e, evE_bin, kNeg_e, evE_neg, kCmp2_e, kCmp_e, evE_cmp, kCh3_t, kCh3_f, kCh2_e, kCh_e, evE_chain, kAnd_t, kAnd_f, kOr_t, kOr_f, evE_andV, evE_orV, kTru_e, kAnT2_t, kAnT2_f, kOrT2_f, kOrT2_t, kAnT_e, evE_andT, kOrT_e, evE_orT, kNo2_e, kNot_e, evE_not, kIte2_t, kIte2_f, kIte_e, evE_ite, kT2_e, kT_e, evE_tup, kL2_e, kL_e, evE_lst, kItem_e, kIx2_e, kIx_e, evE_idx, kSl3_e, kSl2_e, kSl_e, evE_slc, kRv_e, evE_rev, kRes_e, kCl2_e, kCl_e, evE_call, kDr3_e, kDr2_e, kDr_e, evE_draw, kBl2_e, kBl_e, evE_blt, kLc_e, evE_Lc, kGe2_e, kGe_e, evE_Ge, kEl3_e, kEl2_t, kEl2_f, kEl_e, elemR_e, kEs2_e, kEs_e, evEs_n, evEs_c, kSt3_e, kSt2_e, kSt_e, evEs_s, kO_e, evO_n, evO_y, kIseq2_e, kIseq_e, evI_seq, kIenum2_e, kIenum_e, evI_enum, kIrev2_e, kIrev_e, evI_rev, kRg3_e, kRg2_e, kRg_e, evI_rng, kZ4_e, kZ3_e, kZ2_e, kZ_e, evI_zip, kC2_t, kC2_f, kC_e, evC_n, evC_c, kSe_e, evS_set, kNx_e, kUn_e, evS_unp, kPr2_e, kPr_e, evS_par, kPx3_e, kPx2_e, kPx_e, evS_par3, kAu3_e, kAu2_e, kAu_e, evS_aug, kSx4_e, kSx3_e, kSx2_e, kSx_e, evS_setIx, kAp2_e, kAp_e, evS_app, kPo_e, evS_pop, kRe_e, evS_reverse, kEx_e, evS_ex, kIf2_t, kIf2_f, kIf_e, evS_ite, kRt_e, kRtV_e, evS_retV, evR_con, evR_bin, evR_neg, evR_cmp, evR_chain, evR_andV, evR_orV, evR_andT, evR_orT, evR_ite, evR_tup, evR_lst, evR_idx, evR_slc, evR_rev, evR_call, evR_draw, evR_blt, evR_not, evR_lc, evR_gen, evS_retN, evS_brk, evS_cnt, evS_pas, kSs_n, kSs_b, kSs_c, kSs_r, evSs_n, evSs_c, kFr_e, evS_For, kBd_e, contF_next, contF_cont, contF_brk, contF_ret, contW_next, contW_cont, contW_brk, contW_ret, evS_whl, kWh_t, kWh_f, kTv_e, rd_n, rd_s, rd_f, st_n, st_s, st_f, jo_n, jo_sn, ia_n, ia_s, sr_n, rs_n, rs_f, av_n, av_d, av_f, ds_n, ds_c, ag_n, ag_d, ag_f, ow_e, ow_l, tv_d, jo_ss, sr_s, rs_s, kIsx_e, evE_isx, kXf_e, evE_xfld, kIn_e, kCt3_e, kCt2_e, kCt_e, evE_count, kRz2_e, kRz_e, kTry_ok, kTry_exc, evS_try, kSu_ok, rd_x, ag_x, av_x, rs_x, R.ok_bind, R.exc_bind, R.stuck_bind, R.of_some, R.of_none, bindT, bindTs, flat, flatAll, List.getElem?_cons_zero, List.getElem?_cons_succ, List.set_cons_zero, List.set_cons_succ, alNew_none, alNew_some, alOp, datsV_star, datsV_star0, parV, bopD, addD, subD, mul_int, fdivD, modD, negD, copD, intsD, truD, idx_t0, idx_t1, idx_t2, idx_t3, idx_l0, idx_l1, idx_l2, idx_l3, idx_fr0, idx_fr1, flat_fr, bindT_fr, Option.getD_some, Option.getD_none, Option.map_some, Option.map_none, Option.bind_some, Option.bind_none, bl_len_t, bl_len_l, bl_abs, bl_int_i, bl_int_b, bl_bool_i, bl_bool_b, bl_list_t, bl_list_l, bl_tuple_t, bl_tuple_l, bl_isTup, bl_isInt, bl_isBool, bl_isStr, bl_isList, List.append_nil, List.nil_append, List.cons_append, Bool.false_eq_true, ite_true, ite_false, if_true, if_false, reduceIte, Bool.true_and, Bool.and_true, Bool.and_self, Bool.not_true, Bool.not_false, Bool.and_false, Bool.false_and, Bool.or_true, Bool.or_false, Bool.true_or, Bool.false_or, List.all_nil, List.all_cons, seqD, lstD, freeze, List.length_cons, List.length_nil, List.length_map, List.length_append, Nat.reduceAdd, Nat.reduceLeDiff, leS, okPut, wipeE, List.contains_cons, List.contains_nil, Nat.reduceBEq, $xs,*])
theorem gcd_fmod {a b : Int} (ha : 0 ≤ a) (hb : 0 < b) : Int.gcd b (a.fmod b) = Int.gcd a b := by
  rw [Int.fmod_eq_emod_of_nonneg _ (by omega)]
  exact gcd_step hb
theorem common_loop {c : Cfg} {F : Feed} : ∀ (n : Nat) (a b : Int), 0 ≤ a → 0 ≤ b → b.toNat = n → ∀ x y, 
    loopW c (.var 1) (.cons (.par 0 1 (.var 1) (.bin .mod (.var 0) (.var 1))) .nil) [some (.dat (.int a) x), some (.dat (.int b) y)] F = .ok (.next [some (.dat (.int (Int.gcd a b)) (if b = 0 then x else none)), some (.dat (.int 0) (if b = 0 then y else none))]) F := by
  intro n
  induction n using Nat.strongRecOn with
  | _ n ih =>
    intro a b ha hb hn x y
    rw [loopW_e]
    by_cases z : b = 0
    · subst z
      cases x <;> cases y <;> simp! only [bne_self_eq_false, Int.gcd_zero] <;> simp [ha] <;> omega
    · have hb0 : (b != 0) = true := by simpa using z
      have hm : 0 ≤ a.fmod b := Int.fmod_nonneg ha hb
      have hl : a.fmod b < b := Int.fmod_lt_of_pos a (by omega)
      have := ih (a.fmod b).toNat (by omega) b (a.fmod b) (by omega) hm rfl none none
      cases x <;> cases y <;> simp! only [hb0, z, ne_eq, not_false_eq_true, this, gcd_fmod ha (show 0 < b by omega)] <;> simp 
theorem common_of_ev [Has T "common_of" f_p_common_of] {a b : Int} (ha : 0 ≤ a) (hb : 0 ≤ b) : evF dr T (k + 1) "common_of" [.d (.int a), .d (.int b)] F = .ok (.dat (.int (Int.gcd a b)) (if b = 0 then some [] else none)) F := by
  rw [evH (fn := f_p_common_of) rfl]
  show (evSs _ _ [some (.dat (.int a) (some [])), some (.dat (.int b) (some []))] F).bind _ = _
  simp! only [f_p_common_of, common_loop _ a b ha hb rfl]
theorem common_pos [Has T "common_of" f_p_common_of] {a b : Int} (ha : 0 ≤ a) (hb : 0 < b) : evF dr T (k + 1) "common_of" [.d (.int a), .d (.int b)] F = .ok (.dat (.int (Int.gcd a b)) none) F := by
  rw [common_of_ev ha (by omega), if_neg (by omega)]
theorem okMul_of {i j : Int} {B C : Nat} (h1 : i.natAbs.log2 ≤ B) (h2 : j.natAbs.log2 ≤ C) (h : B + C < 100000000) : okMul i j = true := by
  unfold okMul
  simp only [decide_eq_true_eq]
  omega
theorem gcd_pos {a b : Int} (h : 0 < b) : (0 : Int) < (Int.gcd a b : Nat) := by
  have := gcd_ne (a := a) (b := b) (by omega)
  omega
theorem plus_by_ev [Has T "common_of" f_p_common_of] [Has T "plus_by" f_p_plus_by] [ha : Sz n a] [hb : Sz m b] (h : n + m < 100000000) : evF dr T (k + 2) "plus_by" [.d (fr a), .d (fr b)] F = .ok (.dat (fr (a + b)) none) F := by
  rw [evH (fn := f_p_plus_by) rfl]
  show (evSs _ _ [some (.dat (.tuple [.int a.num, .int a.den]) (some [])), some (.dat (.tuple [.int b.num, .int b.den]) (some [])), none, none, none, none, none, none, none, none] F).bind _ = _
  have da := pos_den a
  have db := pos_den b
  have hp := plus_rat a b
  have g0 : (0 : Int) < (Int.gcd (a.den : Int) (b.den : Int) : Nat) := gcd_pos db
  have d1 : (Int.gcd (a.den : Int) (b.den : Int) : Int) ∣ (a.den : Int) := Int.gcd_dvd_left ..
  have d2 : (Int.gcd (a.den : Int) (b.den : Int) : Int) ∣ (b.den : Int) := Int.gcd_dvd_right ..
  have l1 : okMul a.num ((b.den : Int).fdiv (Int.gcd (a.den : Int) (b.den : Int))) = true := okMul_of ha.bd.n (fdiv_log (by omega) d2 (by simpa using hb.bd.2)) h
  have l2 : okMul b.num ((a.den : Int).fdiv (Int.gcd (a.den : Int) (b.den : Int))) = true := okMul_of hb.bd.n (fdiv_log (by omega) d1 (by simpa using ha.bd.2)) (by omega)
  dsimp only at hp
  generalize hn : a.num * (b.den : Int).fdiv (Int.gcd (a.den : Int) (b.den : Int)) + b.num * (a.den : Int).fdiv (Int.gcd (a.den : Int) (b.den : Int)) = N at *
  have r0 : (0 : Int) < (Int.gcd N (Int.gcd (a.den : Int) (b.den : Int) : Int) : Nat) := gcd_pos g0
  have d3 : (Int.gcd N (Int.gcd (a.den : Int) (b.den : Int) : Int) : Int) ∣ (b.den : Int) := Int.dvd_trans (Int.gcd_dvd_right ..) d2
  have l3 : okMul ((a.den : Int).fdiv (Int.gcd (a.den : Int) (b.den : Int))) ((b.den : Int).fdiv (Int.gcd N (Int.gcd (a.den : Int) (b.den : Int) : Int))) = true := okMul_of (fdiv_log (by omega) d1 (by simpa using ha.bd.2)) (fdiv_log (by omega) d3 (by simpa using hb.bd.2)) h
  have nz1 : ¬ ((Int.gcd (a.den : Int) (b.den : Int) : Nat) : Int) = 0 := by omega
  have nz2 : ¬ ((Int.gcd N (Int.gcd (a.den : Int) (b.den : Int) : Int) : Nat) : Int) = 0 := by omega
  simp! only [f_p_plus_by, common_pos (Int.le_of_lt da) db, common_pos (abs_nn N) g0, gcd_abs, nz1, nz2, ne_eq, not_false_eq_true, l1, l2, l3, hn]
  simp only [fr, hp.1, hp.2, List.length_cons, List.length_nil]
theorem times_by_ev [Has T "common_of" f_p_common_of] [Has T "times_by" f_p_times_by] [ha : Sz n a] [hb : Sz m b] (h : n + m < 100000000) : evF dr T (k + 2) "times_by" [.d (fr a), .d (fr b)] F = .ok (.dat (fr (a * b)) none) F := by
  rw [evH (fn := f_p_times_by) rfl]
  show (evSs _ _ [some (.dat (.tuple [.int a.num, .int a.den]) (some [])), some (.dat (.tuple [.int b.num, .int b.den]) (some [])), none, none, none, none, none, none] F).bind _ = _
  have da := pos_den a
  have db := pos_den b
  have hp := times_rat a b
  have g0 : (0 : Int) < (Int.gcd a.num (b.den : Int) : Nat) := gcd_pos db
  have g1 : (0 : Int) < (Int.gcd b.num (a.den : Int) : Nat) := gcd_pos da
  have d1 : (Int.gcd a.num (b.den : Int) : Int) ∣ a.num := Int.gcd_dvd_left ..
  have d2 : (Int.gcd a.num (b.den : Int) : Int) ∣ (b.den : Int) := Int.gcd_dvd_right ..
  have d3 : (Int.gcd b.num (a.den : Int) : Int) ∣ b.num := Int.gcd_dvd_left ..
  have d4 : (Int.gcd b.num (a.den : Int) : Int) ∣ (a.den : Int) := Int.gcd_dvd_right ..
  have l1 : okMul (a.num.fdiv (Int.gcd a.num (b.den : Int))) (b.num.fdiv (Int.gcd b.num (a.den : Int))) = true := okMul_of (fdiv_log (by omega) d1 ha.bd.1) (fdiv_log (by omega) d3 hb.bd.1) h
  have l2 : okMul ((a.den : Int).fdiv (Int.gcd b.num (a.den : Int))) ((b.den : Int).fdiv (Int.gcd a.num (b.den : Int))) = true := okMul_of (fdiv_log (by omega) d4 (by simpa using ha.bd.2)) (fdiv_log (by omega) d2 (by simpa using hb.bd.2)) h
  have nz1 : ¬ ((Int.gcd a.num (b.den : Int) : Nat) : Int) = 0 := by omega
  have nz2 : ¬ ((Int.gcd b.num (a.den : Int) : Nat) : Int) = 0 := by omega
  dsimp only at hp
  simp! only [f_p_times_by, common_pos (abs_nn a.num) db, common_pos (abs_nn b.num) da, gcd_abs, nz1, nz2, ne_eq, not_false_eq_true, l1, l2]
  simp only [fr, hp.1, hp.2, List.length_cons, List.length_nil]
end Pv
namespace Pv
open PySem L2 GB
abbrev f_lowest : Fn := g_lowest_1
abbrev f_number : Fn := g_number_3
abbrev f_fraction : Fn := g_fraction_2
def f_is_alone : Fn := ⟨2, 3,
      (.cons (.set 2 (.lst (.cons (.isx 0 ["NoCut"]) (.cons (.isx 0 ["NoKnot"]) (.cons (.isx 0 ["NoKnots"]) (.cons (.isx 0 ["NoOne"]) .nil))))))
      (.cons (.set 2 (.bin .add (.var 2) (.lst (.cons (.isx 0 ["NoOver"]) (.cons (.isx 0 ["NoPaper"]) (.cons (.isx 0 ["NoPlace"]) (.cons (.isx 0 ["NoPoint"]) .nil)))))))
      (.cons (.set 2 (.bin .add (.var 2) (.lst (.cons (.isx 0 ["NoShares"]) (.cons (.isx 0 ["NoSheet"]) (.cons (.isx 0 ["NoSmooth"]) (.cons (.isx 0 ["NoStretch"]) .nil)))))))
      (.cons (.set 2 (.bin .add (.var 2) (.lst (.cons (.isx 0 ["NoTask"]) (.cons (.isx 0 ["NoText"]) (.cons (.isx 0 ["Twice"]) .nil))))))
      (.cons (.ret (.andV (.var 1) (.andV (.isx 0 ["ValueError"]) (.cmp .eq (.count true (.var 2) (.con (.bool true))) (.con (.int 1))))))
      .nil)))))⟩
def f_told : Fn := ⟨3, 5,
      (.cons (.set 3 (.tup (.cons (.con (.str "odd")) .nil)))
      (.cons (.try_ (.cons (.ite (.cmp .eq (.var 0) (.con (.int 0))) (.cons (.set 3 (.tup (.cons (.con (.str "told")) (.cons (.call "fraction_of" (.cons (.var 1) (.cons (.var 2) .nil))) .nil))))
      .nil) (.cons (.set 3 (.tup (.cons (.con (.str "told")) (.cons (.call "over_by" (.cons (.var 1) (.cons (.var 2) .nil))) .nil))))
      .nil))
      .nil) (.cons "BendError" (some 4) (.cons (.set 3 (.tup (.cons (.con (.str "refused")) (.cons (.call "_law_is_alone" (.cons (.var 4) (.cons (.isx 4 ["NoOver"]) .nil))) .nil))))
      .nil) .nil))
      (.cons (.ret (.var 3))
      .nil)))⟩
def f_right : Fn := ⟨4, 5,
      (.cons (.set 4 (.lst (.cons (.call "_law_lowest" (.cons (.bin .add (.bin .mul (.idx (.var 0) (.con (.int 0))) (.idx (.var 1) (.con (.int 1)))) (.bin .mul (.idx (.var 1) (.con (.int 0))) (.idx (.var 0) (.con (.int 1))))) (.cons (.bin .mul (.idx (.var 0) (.con (.int 1))) (.idx (.var 1) (.con (.int 1)))) .nil))) .nil)))
      (.cons (.app 4 (.call "_law_lowest" (.cons (.bin .sub (.bin .mul (.idx (.var 0) (.con (.int 0))) (.idx (.var 1) (.con (.int 1)))) (.bin .mul (.idx (.var 1) (.con (.int 0))) (.idx (.var 0) (.con (.int 1))))) (.cons (.bin .mul (.idx (.var 0) (.con (.int 1))) (.idx (.var 1) (.con (.int 1)))) .nil))))
      (.cons (.app 4 (.call "_law_lowest" (.cons (.bin .mul (.idx (.var 0) (.con (.int 0))) (.idx (.var 1) (.con (.int 0)))) (.cons (.bin .mul (.idx (.var 0) (.con (.int 1))) (.idx (.var 1) (.con (.int 1)))) .nil))))
      (.cons (.ite (.cmp .ne (.blt .repr (.cons (.lst (.cons (.call "plus_by" (.cons (.var 0) (.cons (.var 1) .nil))) (.cons (.call "minus_by" (.cons (.var 0) (.cons (.var 1) .nil))) (.cons (.call "times_by" (.cons (.var 0) (.cons (.var 1) .nil))) .nil)))) .nil)) (.blt .repr (.cons (.var 4) .nil))) (.cons (.ret (.con (.bool false)))
      .nil) .nil)
      (.cons (.set 4 (.tup (.cons (.con (.str "refused")) (.cons (.con (.bool true)) .nil))))
      (.cons (.ite (.cmp .ne (.idx (.var 1) (.con (.int 0))) (.con (.int 0))) (.cons (.set 4 (.tup (.cons (.con (.str "told")) (.cons (.call "_law_lowest" (.cons (.bin .mul (.idx (.var 0) (.con (.int 0))) (.idx (.var 1) (.con (.int 1)))) (.cons (.bin .mul (.idx (.var 0) (.con (.int 1))) (.idx (.var 1) (.con (.int 0)))) .nil))) .nil))))
      .nil) .nil)
      (.cons (.ite (.cmp .ne (.blt .repr (.cons (.call "_law_told" (.cons (.con (.int 1)) (.cons (.var 0) (.cons (.var 1) .nil)))) .nil)) (.blt .repr (.cons (.var 4) .nil))) (.cons (.ret (.con (.bool false)))
      .nil) .nil)
      (.cons (.set 4 (.ite (.cmp .ne (.var 3) (.con (.int 0))) (.tup (.cons (.con (.str "told")) (.cons (.call "_law_lowest" (.cons (.var 2) (.cons (.var 3) .nil))) .nil))) (.tup (.cons (.con (.str "refused")) (.cons (.con (.bool true)) .nil)))))
      (.cons (.ret (.cmp .eq (.blt .repr (.cons (.call "_law_told" (.cons (.con (.int 0)) (.cons (.var 2) (.cons (.var 3) .nil)))) .nil)) (.blt .repr (.cons (.var 4) .nil))))
      .nil)))))))))⟩
def f_p_law : Fn := ⟨1, 9,
      (.cons (.set 2 (.draw 1 (.con (.int 8))))
      (.cons (.par 3 4 (.call "_law_fraction" (.cons (.var 1) .nil)) (.call "_law_fraction" (.cons (.var 1) .nil)))
      (.cons (.set 5 (.lst (.cons (.var 3) (.cons (.tup (.cons (.bin .sub (.con (.int 0)) (.idx (.var 3) (.con (.int 0)))) (.cons (.idx (.var 3) (.con (.int 1))) .nil))) (.cons (.tup (.cons (.con (.int 0)) (.cons (.con (.int 1)) .nil))) (.cons (.call "_law_lowest" (.cons (.idx (.var 3) (.con (.int 1))) (.cons (.ite (.cmp .ne (.idx (.var 3) (.con (.int 0))) (.con (.int 0))) (.idx (.var 3) (.con (.int 0))) (.con (.int 1))) .nil))) .nil))))))
      (.cons (.set 4 (.ite (.cmp .lt (.var 2) (.con (.int 4))) (.idx (.var 5) (.var 2)) (.var 4)))
      (.cons (.par 6 7 (.call "_law_number" (.cons (.var 1) .nil)) (.bin .mul (.call "_law_number" (.cons (.var 1) .nil)) (.blt .int (.cons (.cmp .gt (.draw 1 (.con (.int 4))) (.con (.int 0))) .nil))))
      (.cons (.for_ (.rng (.cons (.con (.int 2)) .nil)) (.nm 8) (.cons (.ite (.orT (.not (.call "_law_right" (.cons (.var 3) (.cons (.var 4) (.cons (.var 6) (.cons (.var 7) .nil)))))) (.not (.call "_law_right" (.cons (.var 4) (.cons (.var 3) (.cons (.var 7) (.cons (.var 6) .nil))))))) (.cons (.ret (.con (.bool false)))
      .nil) .nil)
      .nil))
      (.cons (.ret (.con (.bool true)))
      .nil)))))))⟩
def tab : Tab := fun f => if f = "common_of" then some f_p_common_of else if f = "fraction_of" then some f_p_fraction_of else if f = "plus_by" then some f_p_plus_by else if f = "contrary_of" then some f_p_contrary_of else if f = "minus_by" then some f_p_minus_by else if f = "times_by" then some f_p_times_by else if f = "over_by" then some f_p_over_by else if f = "_law_lowest" then some g_lowest_1 else if f = "_law_number" then some g_number_3 else if f = "_law_fraction" then some g_fraction_2 else if f = "_law_is_alone" then some f_is_alone else if f = "_law_told" then some f_told else if f = "_law_right" then some f_right else none
theorem tab_p_common_of : tab "common_of" = some f_p_common_of := rfl
instance : Has tab "common_of" f_p_common_of := ⟨rfl⟩
theorem tab_p_fraction_of : tab "fraction_of" = some f_p_fraction_of := rfl
instance : Has tab "fraction_of" f_p_fraction_of := ⟨rfl⟩
theorem tab_p_plus_by : tab "plus_by" = some f_p_plus_by := rfl
instance : Has tab "plus_by" f_p_plus_by := ⟨rfl⟩
theorem tab_p_contrary_of : tab "contrary_of" = some f_p_contrary_of := rfl
instance : Has tab "contrary_of" f_p_contrary_of := ⟨rfl⟩
theorem tab_p_minus_by : tab "minus_by" = some f_p_minus_by := rfl
instance : Has tab "minus_by" f_p_minus_by := ⟨rfl⟩
theorem tab_p_times_by : tab "times_by" = some f_p_times_by := rfl
instance : Has tab "times_by" f_p_times_by := ⟨rfl⟩
theorem tab_p_over_by : tab "over_by" = some f_p_over_by := rfl
instance : Has tab "over_by" f_p_over_by := ⟨rfl⟩
theorem tab_lowest : tab "_law_lowest" = some g_lowest_1 := rfl
instance : Has tab "_law_lowest" g_lowest_1 := ⟨rfl⟩
theorem tab_number : tab "_law_number" = some g_number_3 := rfl
instance : Has tab "_law_number" g_number_3 := ⟨rfl⟩
theorem tab_fraction : tab "_law_fraction" = some g_fraction_2 := rfl
instance : Has tab "_law_fraction" g_fraction_2 := ⟨rfl⟩
theorem tab_is_alone : tab "_law_is_alone" = some f_is_alone := rfl
instance : Has tab "_law_is_alone" f_is_alone := ⟨rfl⟩
theorem tab_told : tab "_law_told" = some f_told := rfl
instance : Has tab "_law_told" f_told := ⟨rfl⟩
theorem tab_right : tab "_law_right" = some f_right := rfl
instance : Has tab "_law_right" f_right := ⟨rfl⟩
end Pv
namespace Pv
open PySem L2 GB
section
variable [Tabs] {P : Program} {w : World} {K : PySem.W.Frag} {mg : Str → Option Value} {base : Heap} {dr : Dr} {A_BendError A_NoCut A_NoKnot A_NoKnots A_NoOne A_NoOver A_NoPaper A_NoPlace A_NoPoint A_NoShares A_NoSheet A_NoSmooth A_NoStretch A_NoTask A_NoText A_Twice : Addr}
structure Ds (K : PySem.W.Frag) (mg : Str → Option Value) : Prop where
  d_p_common_of : Def K mg "common_of" s_p_common_of
  d_p_fraction_of : Def K mg "fraction_of" s_p_fraction_of
  d_p_plus_by : Def K mg "plus_by" s_p_plus_by
  d_p_contrary_of : Def K mg "contrary_of" s_p_contrary_of
  d_p_minus_by : Def K mg "minus_by" s_p_minus_by
  d_p_times_by : Def K mg "times_by" s_p_times_by
  d_p_over_by : Def K mg "over_by" s_p_over_by
  d_lowest : Def K mg "_law_lowest" s_lowest
  d_number : Def K mg "_law_number" s_number
  d_fraction : Def K mg "_law_fraction" s_fraction
  d_is_alone : Def K mg "_law_is_alone" s_is_alone
  d_told : Def K mg "_law_told" s_told
  d_right : Def K mg "_law_right" s_right
structure Xs [Tabs] (P : Program) (K : PySem.W.Frag) (mg : Str → Option Value) (A_BendError A_NoCut A_NoKnot A_NoKnots A_NoOne A_NoOver A_NoPaper A_NoPlace A_NoPoint A_NoShares A_NoSheet A_NoSmooth A_NoStretch A_NoTask A_NoText A_Twice : Addr) : Prop where
  m_BendError : mg "BendError" = some (.ref A_BendError)
  m_NoCut : mg "NoCut" = some (.ref A_NoCut)
  m_NoKnot : mg "NoKnot" = some (.ref A_NoKnot)
  m_NoKnots : mg "NoKnots" = some (.ref A_NoKnots)
  m_NoOne : mg "NoOne" = some (.ref A_NoOne)
  m_NoOver : mg "NoOver" = some (.ref A_NoOver)
  m_NoPaper : mg "NoPaper" = some (.ref A_NoPaper)
  m_NoPlace : mg "NoPlace" = some (.ref A_NoPlace)
  m_NoPoint : mg "NoPoint" = some (.ref A_NoPoint)
  m_NoShares : mg "NoShares" = some (.ref A_NoShares)
  m_NoSheet : mg "NoSheet" = some (.ref A_NoSheet)
  m_NoSmooth : mg "NoSmooth" = some (.ref A_NoSmooth)
  m_NoStretch : mg "NoStretch" = some (.ref A_NoStretch)
  m_NoTask : mg "NoTask" = some (.ref A_NoTask)
  m_NoText : mg "NoText" = some (.ref A_NoText)
  m_Twice : mg "Twice" = some (.ref A_Twice)
  x_NoOver : Tabs.xc "NoOver" = some A_NoOver
  r_NoOver : XC0 K A_NoOver
  cl : ∀ c C, Tabs.xc c = some C → XCl K C
  fl : ∀ c C, Tabs.xc c = some C → ∀ f : String, f ∈ xflds c → NoAttr K C f
  k_NoCut : ∀ c C, Tabs.xc c = some C → PySem.W.kitOne K (.ref C) (.ref A_NoCut) = some (xsub c "NoCut")
  k_NoKnot : ∀ c C, Tabs.xc c = some C → PySem.W.kitOne K (.ref C) (.ref A_NoKnot) = some (xsub c "NoKnot")
  k_NoKnots : ∀ c C, Tabs.xc c = some C → PySem.W.kitOne K (.ref C) (.ref A_NoKnots) = some (xsub c "NoKnots")
  k_NoOne : ∀ c C, Tabs.xc c = some C → PySem.W.kitOne K (.ref C) (.ref A_NoOne) = some (xsub c "NoOne")
  k_NoOver : ∀ c C, Tabs.xc c = some C → PySem.W.kitOne K (.ref C) (.ref A_NoOver) = some (xsub c "NoOver")
  k_NoPaper : ∀ c C, Tabs.xc c = some C → PySem.W.kitOne K (.ref C) (.ref A_NoPaper) = some (xsub c "NoPaper")
  k_NoPlace : ∀ c C, Tabs.xc c = some C → PySem.W.kitOne K (.ref C) (.ref A_NoPlace) = some (xsub c "NoPlace")
  k_NoPoint : ∀ c C, Tabs.xc c = some C → PySem.W.kitOne K (.ref C) (.ref A_NoPoint) = some (xsub c "NoPoint")
  k_NoShares : ∀ c C, Tabs.xc c = some C → PySem.W.kitOne K (.ref C) (.ref A_NoShares) = some (xsub c "NoShares")
  k_NoSheet : ∀ c C, Tabs.xc c = some C → PySem.W.kitOne K (.ref C) (.ref A_NoSheet) = some (xsub c "NoSheet")
  k_NoSmooth : ∀ c C, Tabs.xc c = some C → PySem.W.kitOne K (.ref C) (.ref A_NoSmooth) = some (xsub c "NoSmooth")
  k_NoStretch : ∀ c C, Tabs.xc c = some C → PySem.W.kitOne K (.ref C) (.ref A_NoStretch) = some (xsub c "NoStretch")
  k_NoTask : ∀ c C, Tabs.xc c = some C → PySem.W.kitOne K (.ref C) (.ref A_NoTask) = some (xsub c "NoTask")
  k_NoText : ∀ c C, Tabs.xc c = some C → PySem.W.kitOne K (.ref C) (.ref A_NoText) = some (xsub c "NoText")
  k_Twice : ∀ c C, Tabs.xc c = some C → PySem.W.kitOne K (.ref C) (.ref A_Twice) = some (xsub c "Twice")
  k_ValueError : ∀ c C, Tabs.xc c = some C → PySem.W.kitOne K (.ref C) (.type "ValueError") = some (xsub c "ValueError")
  e_BendError : ∀ c C, Tabs.xc c = some C → PySem.W.exmOne K (.ref C) (.ref A_BendError) = some (xsub c "BendError")
theorem passN {X : Cx} : Passes (CX1 X.prog X.w) X (fun _ _ _ => False) := fun _ _ _ _ _ _ _ h => by
  obtain ⟨_, _, _, _, _, _, _, _, _, _, _, _, _, _, _, _, _, z⟩ := h
  exact z.elim
structure Fns (P : Program) (w : World) (K : PySem.W.Frag) (mg : Str → Option Value) (base : Heap) (dr : Dr) (k : Nat) : Prop where
  f_p_common_of : FnQ P w K mg base (CX1 P w) (2 * k + 1) "common_of" ["a", "b"] (Pr (evF dr tab k) (WX K) K "common_of")
  f_p_fraction_of : FnQ P w K mg base (CX1 P w) (2 * k + 1) "fraction_of" ["n", "d"] (Pr (evF dr tab k) (WX K) K "fraction_of")
  f_p_plus_by : FnQ P w K mg base (CX1 P w) (2 * k + 1) "plus_by" ["one", "other"] (Pr (evF dr tab k) (WX K) K "plus_by")
  f_p_contrary_of : FnQ P w K mg base (CX1 P w) (2 * k + 1) "contrary_of" ["one"] (Pr (evF dr tab k) (WX K) K "contrary_of")
  f_p_minus_by : FnQ P w K mg base (CX1 P w) (2 * k + 1) "minus_by" ["one", "other"] (Pr (evF dr tab k) (WX K) K "minus_by")
  f_p_times_by : FnQ P w K mg base (CX1 P w) (2 * k + 1) "times_by" ["one", "other"] (Pr (evF dr tab k) (WX K) K "times_by")
  f_p_over_by : FnQ P w K mg base (CX1 P w) (2 * k + 1) "over_by" ["one", "other"] (Pr (evF dr tab k) (WX K) K "over_by")
  f_lowest : FnQ P w K mg base (CX1 P w) (2 * k + 1) "_law_lowest" ["_law_top", "_law_bottom"] (Pr (evF dr tab k) (WX K) K "_law_lowest")
  f_number : FnQ P w K mg base (CX1 P w) (2 * k + 1) "_law_number" ["_law_feed_here"] (Pr (evF dr tab k) (WX K) K "_law_number")
  f_fraction : FnQ P w K mg base (CX1 P w) (2 * k + 1) "_law_fraction" ["_law_feed_here"] (Pr (evF dr tab k) (WX K) K "_law_fraction")
  f_told : FnQ P w K mg base (CX1 P w) (2 * k + 1) "_law_told" ["_law_way", "_law_one", "_law_other"] (Pr (evF dr tab k) (WX K) K "_law_told")
  f_right : FnQ P w K mg base (CX1 P w) (2 * k + 1) "_law_right" ["_law_one", "_law_other", "_law_n", "_law_d"] (Pr (evF dr tab k) (WX K) K "_law_right")
  n_is_alone : FnQN P w K mg base (2 * k + 1) "_law_is_alone" ["_law_e", "_law_own"] (Pr (evF dr tab k) Wno K "_law_is_alone")
theorem bd_p_common_of (D : Def K mg "common_of" s_p_common_of) (hT : P.given.tree = none) (hz : dr.rz = true) (B : Bs mg) (Xf : Xs P K mg A_BendError A_NoCut A_NoKnot A_NoKnots A_NoOne A_NoOver A_NoPaper A_NoPlace A_NoPoint A_NoShares A_NoSheet A_NoSmooth A_NoStretch A_NoTask A_NoText A_Twice) (Gd : FnQ P w K mg base CX0 1 "_law_draw" ["_law_feed_here", "_law_many"] (PrDraw dr)) {k : Nat} (Fs : Fns P w K mg base dr k) : FnQ P w K mg base (CX1 P w) (2 * (k + 1) + 1) "common_of" ["a", "b"] (Pr (evF dr tab (k + 1)) (WX K) K "common_of") := by
  refine def_okX (r := 2 * k + 2) (fn := f_p_common_of) D sc_p_common_of (fun _ _ _ _ _ _ us hl => match us, hl with | [_, _], _ => rfl) tab_p_common_of rfl rfl fun fa cdv A outer s H E hr => ?_
  have nd := sc_p_common_of.nd
  have hj : 1 ≤ 2 * k + 2 := Nat.le_add_left 1 _
  have hj1 : 1 ≤ 2 * k + 1 := Nat.le_add_left 1 _
  have l0 : 2 * k + 1 ≤ 2 * k + 2 := Nat.le_succ _
  have hF : Flies (cxOf (CX1 P w) P w K mg base ["a", "b"] "common_of" (defScope s_p_common_of) fa cdv A outer s H E) E := flies_def
  have hx := hF.passes rfl
  have hp := passes_def (P := P) (w := w) (K := K) (mg := mg) (base := base) (N := ["a", "b"]) (qual := "common_of") (scope := defScope s_p_common_of) (f := fa) (cd := cdv) (A := A) (outer := outer) (s := s) (H := H) (E := E)
  exact (ss_cons (s_while hp (t_val (q_var 1)) (ss_cons (s_par 0 1 nd (q_var 1) (q_bin x_mod (q_var 0) (q_var 1)))
      ss_nil))
      (ss_cons (s_retV 0)
      ss_nil)).t
theorem bd_p_fraction_of (D : Def K mg "fraction_of" s_p_fraction_of) (hT : P.given.tree = none) (hz : dr.rz = true) (B : Bs mg) (Xf : Xs P K mg A_BendError A_NoCut A_NoKnot A_NoKnots A_NoOne A_NoOver A_NoPaper A_NoPlace A_NoPoint A_NoShares A_NoSheet A_NoSmooth A_NoStretch A_NoTask A_NoText A_Twice) (Gd : FnQ P w K mg base CX0 1 "_law_draw" ["_law_feed_here", "_law_many"] (PrDraw dr)) {k : Nat} (Fs : Fns P w K mg base dr k) : FnQ P w K mg base (CX1 P w) (2 * (k + 1) + 1) "fraction_of" ["n", "d"] (Pr (evF dr tab (k + 1)) (WX K) K "fraction_of") := by
  refine def_okX (r := 2 * k + 2) (fn := f_p_fraction_of) D sc_p_fraction_of (fun _ _ _ _ _ _ us hl => match us, hl with | [_, _], _ => rfl) tab_p_fraction_of rfl rfl fun fa cdv A outer s H E hr => ?_
  have nd := sc_p_fraction_of.nd
  have hj : 1 ≤ 2 * k + 2 := Nat.le_add_left 1 _
  have hj1 : 1 ≤ 2 * k + 1 := Nat.le_add_left 1 _
  have l0 : 2 * k + 1 ≤ 2 * k + 2 := Nat.le_succ _
  have hF : Flies (cxOf (CX1 P w) P w K mg base ["n", "d", "common"] "fraction_of" (defScope s_p_fraction_of) fa cdv A outer s H E) E := flies_def
  have hx := hF.passes rfl
  have hp := passes_def (P := P) (w := w) (K := K) (mg := mg) (base := base) (N := ["n", "d", "common"]) (qual := "fraction_of") (scope := defScope s_p_fraction_of) (f := fa) (cd := cdv) (A := A) (outer := outer) (s := s) (H := H) (E := E)
  exact (ss_cons (s_if (t_cmp (x_eq hr.units) (q_var 1) q_int (nomark _)) (ss_cons (s_raise0 Xf.r_NoOver Xf.x_NoOver rfl hF rfl hz Xf.m_NoOver (a_cons q_str a_nil))
      ss_nil) ss_nil)
      (ss_cons (s_if (t_cmp x_lt (q_var 1) q_int (nomark _)) (ss_cons (s_par 0 1 nd (q_neg (q_var 0)) (q_neg (q_var 1)))
      ss_nil) ss_nil)
      (ss_cons (s_set 2 nd (q_call Fs.f_p_common_of hr l0 hx rfl (fun _ _ _ z => z) (a_cons (q_bltB x_abs B.abs (a_cons (q_var 0) a_nil)) (a_cons (q_var 1) a_nil))))
      (ss_cons (s_ret (q_tup (a_cons (q_bin (x_fdiv (op_fdivR hr hT)) (q_var 0) (q_var 2)) (a_cons (q_bin (x_fdiv (op_fdivR hr hT)) (q_var 1) (q_var 2)) a_nil))))
      ss_nil)))).t
theorem bd_p_plus_by (D : Def K mg "plus_by" s_p_plus_by) (hT : P.given.tree = none) (hz : dr.rz = true) (B : Bs mg) (Xf : Xs P K mg A_BendError A_NoCut A_NoKnot A_NoKnots A_NoOne A_NoOver A_NoPaper A_NoPlace A_NoPoint A_NoShares A_NoSheet A_NoSmooth A_NoStretch A_NoTask A_NoText A_Twice) (Gd : FnQ P w K mg base CX0 1 "_law_draw" ["_law_feed_here", "_law_many"] (PrDraw dr)) {k : Nat} (Fs : Fns P w K mg base dr k) : FnQ P w K mg base (CX1 P w) (2 * (k + 1) + 1) "plus_by" ["one", "other"] (Pr (evF dr tab (k + 1)) (WX K) K "plus_by") := by
  refine def_okX (r := 2 * k + 2) (fn := f_p_plus_by) D sc_p_plus_by (fun _ _ _ _ _ _ us hl => match us, hl with | [_, _], _ => rfl) tab_p_plus_by rfl rfl fun fa cdv A outer s H E hr => ?_
  have nd := sc_p_plus_by.nd
  have hj : 1 ≤ 2 * k + 2 := Nat.le_add_left 1 _
  have hj1 : 1 ≤ 2 * k + 1 := Nat.le_add_left 1 _
  have l0 : 2 * k + 1 ≤ 2 * k + 2 := Nat.le_succ _
  have hF : Flies (cxOf (CX1 P w) P w K mg base ["one", "other", "a", "b", "c", "d", "common", "part", "n", "rest"] "plus_by" (defScope s_p_plus_by) fa cdv A outer s H E) E := flies_def
  have hx := hF.passes rfl
  have hp := passes_def (P := P) (w := w) (K := K) (mg := mg) (base := base) (N := ["one", "other", "a", "b", "c", "d", "common", "part", "n", "rest"]) (qual := "plus_by") (scope := defScope s_p_plus_by) (f := fa) (cd := cdv) (A := A) (outer := outer) (s := s) (H := H) (E := E)
  exact (ss_cons (s_unp (q_var 0) (g_tup rfl (gs_cons (g_name 2 nd) (gs_cons (g_name 3 nd) gs_nil)) rfl))
      (ss_cons (s_unp (q_var 1) (g_tup rfl (gs_cons (g_name 4 nd) (gs_cons (g_name 5 nd) gs_nil)) rfl))
      (ss_cons (s_set 6 nd (q_call Fs.f_p_common_of hr l0 hx rfl (fun _ _ _ z => z) (a_cons (q_var 3) (a_cons (q_var 5) a_nil))))
      (ss_cons (s_set 7 nd (q_bin (x_fdiv (op_fdivR hr hT)) (q_var 3) (q_var 6)))
      (ss_cons (s_set 8 nd (q_bin x_add (q_bin x_mul (q_var 2) (q_bin (x_fdiv (op_fdivR hr hT)) (q_var 5) (q_var 6))) (q_bin x_mul (q_var 4) (q_var 7))))
      (ss_cons (s_set 9 nd (q_call Fs.f_p_common_of hr l0 hx rfl (fun _ _ _ z => z) (a_cons (q_bltB x_abs B.abs (a_cons (q_var 8) a_nil)) (a_cons (q_var 6) a_nil))))
      (ss_cons (s_ret (q_tup (a_cons (q_bin (x_fdiv (op_fdivR hr hT)) (q_var 8) (q_var 9)) (a_cons (q_bin x_mul (q_var 7) (q_bin (x_fdiv (op_fdivR hr hT)) (q_var 5) (q_var 9))) a_nil))))
      ss_nil))))))).t
theorem bd_p_contrary_of (D : Def K mg "contrary_of" s_p_contrary_of) (hT : P.given.tree = none) (hz : dr.rz = true) (B : Bs mg) (Xf : Xs P K mg A_BendError A_NoCut A_NoKnot A_NoKnots A_NoOne A_NoOver A_NoPaper A_NoPlace A_NoPoint A_NoShares A_NoSheet A_NoSmooth A_NoStretch A_NoTask A_NoText A_Twice) (Gd : FnQ P w K mg base CX0 1 "_law_draw" ["_law_feed_here", "_law_many"] (PrDraw dr)) {k : Nat} (Fs : Fns P w K mg base dr k) : FnQ P w K mg base (CX1 P w) (2 * (k + 1) + 1) "contrary_of" ["one"] (Pr (evF dr tab (k + 1)) (WX K) K "contrary_of") := by
  refine def_okX (r := 2 * k + 2) (fn := f_p_contrary_of) D sc_p_contrary_of (fun _ _ _ _ _ _ us hl => match us, hl with | [_], _ => rfl) tab_p_contrary_of rfl rfl fun fa cdv A outer s H E hr => ?_
  have nd := sc_p_contrary_of.nd
  have hj : 1 ≤ 2 * k + 2 := Nat.le_add_left 1 _
  have hj1 : 1 ≤ 2 * k + 1 := Nat.le_add_left 1 _
  have l0 : 2 * k + 1 ≤ 2 * k + 2 := Nat.le_succ _
  have hF : Flies (cxOf (CX1 P w) P w K mg base ["one"] "contrary_of" (defScope s_p_contrary_of) fa cdv A outer s H E) E := flies_def
  have hx := hF.passes rfl
  have hp := passes_def (P := P) (w := w) (K := K) (mg := mg) (base := base) (N := ["one"]) (qual := "contrary_of") (scope := defScope s_p_contrary_of) (f := fa) (cd := cdv) (A := A) (outer := outer) (s := s) (H := H) (E := E)
  exact (ss_cons (s_ret (q_tup (a_cons (q_neg (q_idx (q_var 0) q_int)) (a_cons (q_idx (q_var 0) q_int) a_nil))))
      ss_nil).t
theorem bd_p_minus_by (D : Def K mg "minus_by" s_p_minus_by) (hT : P.given.tree = none) (hz : dr.rz = true) (B : Bs mg) (Xf : Xs P K mg A_BendError A_NoCut A_NoKnot A_NoKnots A_NoOne A_NoOver A_NoPaper A_NoPlace A_NoPoint A_NoShares A_NoSheet A_NoSmooth A_NoStretch A_NoTask A_NoText A_Twice) (Gd : FnQ P w K mg base CX0 1 "_law_draw" ["_law_feed_here", "_law_many"] (PrDraw dr)) {k : Nat} (Fs : Fns P w K mg base dr k) : FnQ P w K mg base (CX1 P w) (2 * (k + 1) + 1) "minus_by" ["one", "other"] (Pr (evF dr tab (k + 1)) (WX K) K "minus_by") := by
  refine def_okX (r := 2 * k + 2) (fn := f_p_minus_by) D sc_p_minus_by (fun _ _ _ _ _ _ us hl => match us, hl with | [_, _], _ => rfl) tab_p_minus_by rfl rfl fun fa cdv A outer s H E hr => ?_
  have nd := sc_p_minus_by.nd
  have hj : 1 ≤ 2 * k + 2 := Nat.le_add_left 1 _
  have hj1 : 1 ≤ 2 * k + 1 := Nat.le_add_left 1 _
  have l0 : 2 * k + 1 ≤ 2 * k + 2 := Nat.le_succ _
  have hF : Flies (cxOf (CX1 P w) P w K mg base ["one", "other"] "minus_by" (defScope s_p_minus_by) fa cdv A outer s H E) E := flies_def
  have hx := hF.passes rfl
  have hp := passes_def (P := P) (w := w) (K := K) (mg := mg) (base := base) (N := ["one", "other"]) (qual := "minus_by") (scope := defScope s_p_minus_by) (f := fa) (cd := cdv) (A := A) (outer := outer) (s := s) (H := H) (E := E)
  exact (ss_cons (s_ret (q_call Fs.f_p_plus_by hr l0 hx rfl (fun _ _ _ z => z) (a_cons (q_var 0) (a_cons (q_call Fs.f_p_contrary_of hr l0 hx rfl (fun _ _ _ z => z) (a_cons (q_var 1) a_nil)) a_nil))))
      ss_nil).t
theorem bd_p_times_by (D : Def K mg "times_by" s_p_times_by) (hT : P.given.tree = none) (hz : dr.rz = true) (B : Bs mg) (Xf : Xs P K mg A_BendError A_NoCut A_NoKnot A_NoKnots A_NoOne A_NoOver A_NoPaper A_NoPlace A_NoPoint A_NoShares A_NoSheet A_NoSmooth A_NoStretch A_NoTask A_NoText A_Twice) (Gd : FnQ P w K mg base CX0 1 "_law_draw" ["_law_feed_here", "_law_many"] (PrDraw dr)) {k : Nat} (Fs : Fns P w K mg base dr k) : FnQ P w K mg base (CX1 P w) (2 * (k + 1) + 1) "times_by" ["one", "other"] (Pr (evF dr tab (k + 1)) (WX K) K "times_by") := by
  refine def_okX (r := 2 * k + 2) (fn := f_p_times_by) D sc_p_times_by (fun _ _ _ _ _ _ us hl => match us, hl with | [_, _], _ => rfl) tab_p_times_by rfl rfl fun fa cdv A outer s H E hr => ?_
  have nd := sc_p_times_by.nd
  have hj : 1 ≤ 2 * k + 2 := Nat.le_add_left 1 _
  have hj1 : 1 ≤ 2 * k + 1 := Nat.le_add_left 1 _
  have l0 : 2 * k + 1 ≤ 2 * k + 2 := Nat.le_succ _
  have hF : Flies (cxOf (CX1 P w) P w K mg base ["one", "other", "a", "b", "c", "d", "first", "second"] "times_by" (defScope s_p_times_by) fa cdv A outer s H E) E := flies_def
  have hx := hF.passes rfl
  have hp := passes_def (P := P) (w := w) (K := K) (mg := mg) (base := base) (N := ["one", "other", "a", "b", "c", "d", "first", "second"]) (qual := "times_by") (scope := defScope s_p_times_by) (f := fa) (cd := cdv) (A := A) (outer := outer) (s := s) (H := H) (E := E)
  exact (ss_cons (s_unp (q_var 0) (g_tup rfl (gs_cons (g_name 2 nd) (gs_cons (g_name 3 nd) gs_nil)) rfl))
      (ss_cons (s_unp (q_var 1) (g_tup rfl (gs_cons (g_name 4 nd) (gs_cons (g_name 5 nd) gs_nil)) rfl))
      (ss_cons (s_set 6 nd (q_call Fs.f_p_common_of hr l0 hx rfl (fun _ _ _ z => z) (a_cons (q_bltB x_abs B.abs (a_cons (q_var 2) a_nil)) (a_cons (q_var 5) a_nil))))
      (ss_cons (s_set 7 nd (q_call Fs.f_p_common_of hr l0 hx rfl (fun _ _ _ z => z) (a_cons (q_bltB x_abs B.abs (a_cons (q_var 4) a_nil)) (a_cons (q_var 3) a_nil))))
      (ss_cons (s_ret (q_tup (a_cons (q_bin x_mul (q_bin (x_fdiv (op_fdivR hr hT)) (q_var 2) (q_var 6)) (q_bin (x_fdiv (op_fdivR hr hT)) (q_var 4) (q_var 7))) (a_cons (q_bin x_mul (q_bin (x_fdiv (op_fdivR hr hT)) (q_var 3) (q_var 7)) (q_bin (x_fdiv (op_fdivR hr hT)) (q_var 5) (q_var 6))) a_nil))))
      ss_nil))))).t
theorem bd_p_over_by (D : Def K mg "over_by" s_p_over_by) (hT : P.given.tree = none) (hz : dr.rz = true) (B : Bs mg) (Xf : Xs P K mg A_BendError A_NoCut A_NoKnot A_NoKnots A_NoOne A_NoOver A_NoPaper A_NoPlace A_NoPoint A_NoShares A_NoSheet A_NoSmooth A_NoStretch A_NoTask A_NoText A_Twice) (Gd : FnQ P w K mg base CX0 1 "_law_draw" ["_law_feed_here", "_law_many"] (PrDraw dr)) {k : Nat} (Fs : Fns P w K mg base dr k) : FnQ P w K mg base (CX1 P w) (2 * (k + 1) + 1) "over_by" ["one", "other"] (Pr (evF dr tab (k + 1)) (WX K) K "over_by") := by
  refine def_okX (r := 2 * k + 2) (fn := f_p_over_by) D sc_p_over_by (fun _ _ _ _ _ _ us hl => match us, hl with | [_, _], _ => rfl) tab_p_over_by rfl rfl fun fa cdv A outer s H E hr => ?_
  have nd := sc_p_over_by.nd
  have hj : 1 ≤ 2 * k + 2 := Nat.le_add_left 1 _
  have hj1 : 1 ≤ 2 * k + 1 := Nat.le_add_left 1 _
  have l0 : 2 * k + 1 ≤ 2 * k + 2 := Nat.le_succ _
  have hF : Flies (cxOf (CX1 P w) P w K mg base ["one", "other", "n", "d"] "over_by" (defScope s_p_over_by) fa cdv A outer s H E) E := flies_def
  have hx := hF.passes rfl
  have hp := passes_def (P := P) (w := w) (K := K) (mg := mg) (base := base) (N := ["one", "other", "n", "d"]) (qual := "over_by") (scope := defScope s_p_over_by) (f := fa) (cd := cdv) (A := A) (outer := outer) (s := s) (H := H) (E := E)
  exact (ss_cons (s_unp (q_var 1) (g_tup rfl (gs_cons (g_name 2 nd) (gs_cons (g_name 3 nd) gs_nil)) rfl))
      (ss_cons (s_if (t_cmp (x_eq hr.units) (q_var 2) q_int (nomark _)) (ss_cons (s_raise0 Xf.r_NoOver Xf.x_NoOver rfl hF rfl hz Xf.m_NoOver (a_cons q_str a_nil))
      ss_nil) ss_nil)
      (ss_cons (s_ret (q_call Fs.f_p_times_by hr l0 hx rfl (fun _ _ _ z => z) (a_cons (q_var 0) (a_cons (q_ite (t_cmp x_gt (q_var 2) q_int (nomark _)) (q_tup (a_cons (q_var 3) (a_cons (q_var 2) a_nil))) (q_tup (a_cons (q_neg (q_var 3)) (a_cons (q_neg (q_var 2)) a_nil)))) a_nil))))
      ss_nil))).t
theorem bd_lowest (D : Def K mg "_law_lowest" s_lowest) (hT : P.given.tree = none) (hz : dr.rz = true) (B : Bs mg) (Xf : Xs P K mg A_BendError A_NoCut A_NoKnot A_NoKnots A_NoOne A_NoOver A_NoPaper A_NoPlace A_NoPoint A_NoShares A_NoSheet A_NoSmooth A_NoStretch A_NoTask A_NoText A_Twice) (Gd : FnQ P w K mg base CX0 1 "_law_draw" ["_law_feed_here", "_law_many"] (PrDraw dr)) {k : Nat} (Fs : Fns P w K mg base dr k) : FnQ P w K mg base (CX1 P w) (2 * (k + 1) + 1) "_law_lowest" ["_law_top", "_law_bottom"] (Pr (evF dr tab (k + 1)) (WX K) K "_law_lowest") := by
  refine def_okX (r := 2 * k + 2) (fn := g_lowest_1) D sc_lowest (fun _ _ _ _ _ _ us hl => match us, hl with | [_, _], _ => rfl) tab_lowest rfl rfl fun fa cdv A outer s H E hr => ?_
  have nd := sc_lowest.nd
  have hj : 1 ≤ 2 * k + 2 := Nat.le_add_left 1 _
  have hj1 : 1 ≤ 2 * k + 1 := Nat.le_add_left 1 _
  have l0 : 2 * k + 1 ≤ 2 * k + 2 := Nat.le_succ _
  have hF : Flies (cxOf (CX1 P w) P w K mg base ["_law_top", "_law_bottom", "_law_one", "_law_other"] "_law_lowest" (defScope s_lowest) fa cdv A outer s H E) E := flies_def
  have hx := hF.passes rfl
  have hp := passes_def (P := P) (w := w) (K := K) (mg := mg) (base := base) (N := ["_law_top", "_law_bottom", "_law_one", "_law_other"]) (qual := "_law_lowest") (scope := defScope s_lowest) (f := fa) (cd := cdv) (A := A) (outer := outer) (s := s) (H := H) (E := E)
  exact (ss_cons (s_par 2 3 nd (q_bltB x_abs B.abs (a_cons (q_var 0) a_nil)) (q_bltB x_abs B.abs (a_cons (q_var 1) a_nil)))
      (ss_cons (s_while hp (t_cmp x_gt (q_var 3) q_int (nomark _)) (ss_cons (s_par 2 3 nd (q_var 3) (q_bin x_mod (q_var 2) (q_var 3)))
      ss_nil))
      (ss_cons (s_if (t_cmp x_lt (q_var 1) q_int (nomark _)) (ss_cons (s_set 2 nd (q_bin x_sub q_int (q_var 2)))
      ss_nil) ss_nil)
      (ss_cons (s_ret (q_tup (a_cons (q_bin (x_fdiv (op_fdivR hr hT)) (q_var 0) (q_var 2)) (a_cons (q_bin (x_fdiv (op_fdivR hr hT)) (q_var 1) (q_var 2)) a_nil))))
      ss_nil)))).t
theorem bd_number (D : Def K mg "_law_number" s_number) (hT : P.given.tree = none) (hz : dr.rz = true) (B : Bs mg) (Xf : Xs P K mg A_BendError A_NoCut A_NoKnot A_NoKnots A_NoOne A_NoOver A_NoPaper A_NoPlace A_NoPoint A_NoShares A_NoSheet A_NoSmooth A_NoStretch A_NoTask A_NoText A_Twice) (Gd : FnQ P w K mg base CX0 1 "_law_draw" ["_law_feed_here", "_law_many"] (PrDraw dr)) {k : Nat} (Fs : Fns P w K mg base dr k) : FnQ P w K mg base (CX1 P w) (2 * (k + 1) + 1) "_law_number" ["_law_feed_here"] (Pr (evF dr tab (k + 1)) (WX K) K "_law_number") := by
  refine def_okX (r := 2 * k + 2) (fn := g_number_3) D sc_number (fun _ _ _ _ _ _ us hl => match us, hl with | [_], _ => rfl) tab_number rfl rfl fun fa cdv A outer s H E hr => ?_
  have nd := sc_number.nd
  have hj : 1 ≤ 2 * k + 2 := Nat.le_add_left 1 _
  have hj1 : 1 ≤ 2 * k + 1 := Nat.le_add_left 1 _
  have l0 : 2 * k + 1 ≤ 2 * k + 2 := Nat.le_succ _
  have hF : Flies (cxOf (CX1 P w) P w K mg base ["_law_feed_here", "_law_way", "_law_found", "_law_k"] "_law_number" (defScope s_number) fa cdv A outer s H E) E := flies_def
  have hx := hF.passes rfl
  have hp := passes_def (P := P) (w := w) (K := K) (mg := mg) (base := base) (N := ["_law_feed_here", "_law_way", "_law_found", "_law_k"]) (qual := "_law_number") (scope := defScope s_number) (f := fa) (cd := cdv) (A := A) (outer := outer) (s := s) (H := H) (E := E)
  exact (ss_cons (s_set 1 nd (q_draw 0 Gd hr hj pass0 rfl q_int))
      (ss_cons (s_set 2 nd (q_draw 0 Gd hr hj pass0 rfl q_int))
      (ss_cons (s_if (t_cmp (x_eq hr.units) (q_var 1) q_int (nomark _)) (ss_cons (s_for hp (i_rng1 (q_draw 0 Gd hr hj pass0 rfl q_int) B.range) (g_name 3 nd) (ss_cons (s_set 2 nd (q_bin x_add (q_bin x_mul (q_var 2) (q_bin x_pow q_int q_int)) (q_draw 0 Gd hr hj pass0 rfl (q_bin x_pow q_int q_int))))
      ss_nil))
      ss_nil) ss_nil)
      (ss_cons (s_ret (q_bin x_mul (q_var 2) (q_bin x_sub q_int (q_bin x_mul q_int (q_draw 0 Gd hr hj pass0 rfl q_int)))))
      ss_nil)))).t
theorem bd_fraction (D : Def K mg "_law_fraction" s_fraction) (hT : P.given.tree = none) (hz : dr.rz = true) (B : Bs mg) (Xf : Xs P K mg A_BendError A_NoCut A_NoKnot A_NoKnots A_NoOne A_NoOver A_NoPaper A_NoPlace A_NoPoint A_NoShares A_NoSheet A_NoSmooth A_NoStretch A_NoTask A_NoText A_Twice) (Gd : FnQ P w K mg base CX0 1 "_law_draw" ["_law_feed_here", "_law_many"] (PrDraw dr)) {k : Nat} (Fs : Fns P w K mg base dr k) : FnQ P w K mg base (CX1 P w) (2 * (k + 1) + 1) "_law_fraction" ["_law_feed_here"] (Pr (evF dr tab (k + 1)) (WX K) K "_law_fraction") := by
  refine def_okX (r := 2 * k + 2) (fn := g_fraction_2) D sc_fraction (fun _ _ _ _ _ _ us hl => match us, hl with | [_], _ => rfl) tab_fraction rfl rfl fun fa cdv A outer s H E hr => ?_
  have nd := sc_fraction.nd
  have hj : 1 ≤ 2 * k + 2 := Nat.le_add_left 1 _
  have hj1 : 1 ≤ 2 * k + 1 := Nat.le_add_left 1 _
  have l0 : 2 * k + 1 ≤ 2 * k + 2 := Nat.le_succ _
  have hF : Flies (cxOf (CX1 P w) P w K mg base ["_law_feed_here", "_law_top", "_law_bottom"] "_law_fraction" (defScope s_fraction) fa cdv A outer s H E) E := flies_def
  have hx := hF.passes rfl
  have hp := passes_def (P := P) (w := w) (K := K) (mg := mg) (base := base) (N := ["_law_feed_here", "_law_top", "_law_bottom"]) (qual := "_law_fraction") (scope := defScope s_fraction) (f := fa) (cd := cdv) (A := A) (outer := outer) (s := s) (H := H) (E := E)
  exact (ss_cons (s_par 1 2 nd (q_call Fs.f_number hr l0 hx rfl (fun _ _ _ z => z) (a_cons (q_var 0) a_nil)) (q_call Fs.f_number hr l0 hx rfl (fun _ _ _ z => z) (a_cons (q_var 0) a_nil)))
      (ss_cons (s_ret (q_call Fs.f_lowest hr l0 hx rfl (fun _ _ _ z => z) (a_cons (q_var 1) (a_cons (q_ite (t_cmp (x_ne hr.units) (q_var 2) q_int (nomark _)) (q_var 2) q_int) a_nil))))
      ss_nil)).t
theorem bd_told (D : Def K mg "_law_told" s_told) (hT : P.given.tree = none) (hz : dr.rz = true) (B : Bs mg) (Xf : Xs P K mg A_BendError A_NoCut A_NoKnot A_NoKnots A_NoOne A_NoOver A_NoPaper A_NoPlace A_NoPoint A_NoShares A_NoSheet A_NoSmooth A_NoStretch A_NoTask A_NoText A_Twice) (Gd : FnQ P w K mg base CX0 1 "_law_draw" ["_law_feed_here", "_law_many"] (PrDraw dr)) {k : Nat} (Fs : Fns P w K mg base dr k) : FnQ P w K mg base (CX1 P w) (2 * (k + 1) + 1) "_law_told" ["_law_way", "_law_one", "_law_other"] (Pr (evF dr tab (k + 1)) (WX K) K "_law_told") := by
  refine def_okX (r := 2 * k + 2) (fn := f_told) D sc_told (fun _ _ _ _ _ _ us hl => match us, hl with | [_, _, _], _ => rfl) tab_told rfl rfl fun fa cdv A outer s H E hr => ?_
  have nd := sc_told.nd
  have hj : 1 ≤ 2 * k + 2 := Nat.le_add_left 1 _
  have hj1 : 1 ≤ 2 * k + 1 := Nat.le_add_left 1 _
  have l0 : 2 * k + 1 ≤ 2 * k + 2 := Nat.le_succ _
  have hF : Flies (cxOf (CX1 P w) P w K mg base ["_law_way", "_law_one", "_law_other", "_law_found", "_law_e"] "_law_told" (defScope s_told) fa cdv A outer s H E) E := flies_def
  have hx := hF.passes rfl
  have hp := passes_def (P := P) (w := w) (K := K) (mg := mg) (base := base) (N := ["_law_way", "_law_one", "_law_other", "_law_found", "_law_e"]) (qual := "_law_told") (scope := defScope s_told) (f := fa) (cd := cdv) (A := A) (outer := outer) (s := s) (H := H) (E := E)
  exact (ss_consT (s_set 3 nd (q_tup (a_cons q_str a_nil))).t
      (ss_consT (s_try nd (fun pn xe E1 hF1 hp1 => (have hx1 := hF1.passes rfl; (ss_cons (s_if (t_cmp (x_eq hr.units) (q_var 0) q_int (nomark _)) (ss_cons (s_set 3 nd (q_tup (a_cons q_str (a_cons (q_call Fs.f_p_fraction_of hr l0 hx1 rfl (fun _ _ _ z => z) (a_cons (q_var 1) (a_cons (q_var 2) a_nil))) a_nil))))
      ss_nil) (ss_cons (s_set 3 nd (q_tup (a_cons q_str (a_cons (q_call Fs.f_p_over_by hr l0 hx1 rfl (fun _ _ _ z => z) (a_cons (q_var 1) (a_cons (q_var 2) a_nil))) a_nil))))
      ss_nil))
      ss_nil))) (.cons (by rfl) Xf.m_BendError (by decide) (.inr ⟨_, _, rfl, rfl, rfl, rfl⟩) Xf.e_BendError (fun _ _ _ => (ss_cons (s_set 3 nd (q_tup (a_cons q_str (a_cons (q_callN Fs.n_is_alone ((hr.n).mark _) l0 rfl (fun _ _ _ z => z) (a_cons (q_var 4) (a_cons (q_isx 4 (fun c C h => ⟨Xf.cl c C h, Xf.k_NoOver c C h⟩) (.inl ⟨_, rfl⟩) (pe_glob (by rfl) Xf.m_NoOver (v := .ref _) rfl) B.isinstance) a_nil))) a_nil))))
      ss_nil)) .nil))
      (ss_consT (s_retV 3).t
      ss_nil.t)))
theorem bd_right (D : Def K mg "_law_right" s_right) (hT : P.given.tree = none) (hz : dr.rz = true) (B : Bs mg) (Xf : Xs P K mg A_BendError A_NoCut A_NoKnot A_NoKnots A_NoOne A_NoOver A_NoPaper A_NoPlace A_NoPoint A_NoShares A_NoSheet A_NoSmooth A_NoStretch A_NoTask A_NoText A_Twice) (Gd : FnQ P w K mg base CX0 1 "_law_draw" ["_law_feed_here", "_law_many"] (PrDraw dr)) {k : Nat} (Fs : Fns P w K mg base dr k) : FnQ P w K mg base (CX1 P w) (2 * (k + 1) + 1) "_law_right" ["_law_one", "_law_other", "_law_n", "_law_d"] (Pr (evF dr tab (k + 1)) (WX K) K "_law_right") := by
  refine def_okX (r := 2 * k + 2) (fn := f_right) D sc_right (fun _ _ _ _ _ _ us hl => match us, hl with | [_, _, _, _], _ => rfl) tab_right rfl rfl fun fa cdv A outer s H E hr => ?_
  have nd := sc_right.nd
  have hj : 1 ≤ 2 * k + 2 := Nat.le_add_left 1 _
  have hj1 : 1 ≤ 2 * k + 1 := Nat.le_add_left 1 _
  have l0 : 2 * k + 1 ≤ 2 * k + 2 := Nat.le_succ _
  have hF : Flies (cxOf (CX1 P w) P w K mg base ["_law_one", "_law_other", "_law_n", "_law_d", "_law_due"] "_law_right" (defScope s_right) fa cdv A outer s H E) E := flies_def
  have hx := hF.passes rfl
  have hp := passes_def (P := P) (w := w) (K := K) (mg := mg) (base := base) (N := ["_law_one", "_law_other", "_law_n", "_law_d", "_law_due"]) (qual := "_law_right") (scope := defScope s_right) (f := fa) (cd := cdv) (A := A) (outer := outer) (s := s) (H := H) (E := E)
  exact (ss_cons (s_set 4 nd (q_lst (a_cons (q_call Fs.f_lowest hr l0 hx rfl (fun _ _ _ z => z) (a_cons (q_bin x_add (q_bin x_mul (q_idx (q_var 0) q_int) (q_idx (q_var 1) q_int)) (q_bin x_mul (q_idx (q_var 1) q_int) (q_idx (q_var 0) q_int))) (a_cons (q_bin x_mul (q_idx (q_var 0) q_int) (q_idx (q_var 1) q_int)) a_nil))) a_nil)))
      (ss_cons (s_app 4 (q_call Fs.f_lowest hr l0 hx rfl (fun _ _ _ z => z) (a_cons (q_bin x_sub (q_bin x_mul (q_idx (q_var 0) q_int) (q_idx (q_var 1) q_int)) (q_bin x_mul (q_idx (q_var 1) q_int) (q_idx (q_var 0) q_int))) (a_cons (q_bin x_mul (q_idx (q_var 0) q_int) (q_idx (q_var 1) q_int)) a_nil))))
      (ss_cons (s_app 4 (q_call Fs.f_lowest hr l0 hx rfl (fun _ _ _ z => z) (a_cons (q_bin x_mul (q_idx (q_var 0) q_int) (q_idx (q_var 1) q_int)) (a_cons (q_bin x_mul (q_idx (q_var 0) q_int) (q_idx (q_var 1) q_int)) a_nil))))
      (ss_cons (s_if (t_cmp (x_ne hr.units) (q_bltB (x_repr hr.units hr.gd) B.repr (a_cons (q_lst (a_cons (q_call Fs.f_p_plus_by hr l0 hx rfl (fun _ _ _ z => z) (a_cons (q_var 0) (a_cons (q_var 1) a_nil))) (a_cons (q_call Fs.f_p_minus_by hr l0 hx rfl (fun _ _ _ z => z) (a_cons (q_var 0) (a_cons (q_var 1) a_nil))) (a_cons (q_call Fs.f_p_times_by hr l0 hx rfl (fun _ _ _ z => z) (a_cons (q_var 0) (a_cons (q_var 1) a_nil))) a_nil)))) a_nil)) (q_bltB (x_repr hr.units hr.gd) B.repr (a_cons (q_var 4) a_nil)) (nomark _)) (ss_cons (s_ret q_bl)
      ss_nil) ss_nil)
      (ss_cons (s_set 4 nd (q_tup (a_cons q_str (a_cons q_bl a_nil))))
      (ss_cons (s_if (t_cmp (x_ne hr.units) (q_idx (q_var 1) q_int) q_int (nomark _)) (ss_cons (s_set 4 nd (q_tup (a_cons q_str (a_cons (q_call Fs.f_lowest hr l0 hx rfl (fun _ _ _ z => z) (a_cons (q_bin x_mul (q_idx (q_var 0) q_int) (q_idx (q_var 1) q_int)) (a_cons (q_bin x_mul (q_idx (q_var 0) q_int) (q_idx (q_var 1) q_int)) a_nil))) a_nil))))
      ss_nil) ss_nil)
      (ss_cons (s_if (t_cmp (x_ne hr.units) (q_bltB (x_repr hr.units hr.gd) B.repr (a_cons (q_call Fs.f_told hr l0 hx rfl (fun _ _ _ z => z) (a_cons q_int (a_cons (q_var 0) (a_cons (q_var 1) a_nil)))) a_nil)) (q_bltB (x_repr hr.units hr.gd) B.repr (a_cons (q_var 4) a_nil)) (nomark _)) (ss_cons (s_ret q_bl)
      ss_nil) ss_nil)
      (ss_cons (s_set 4 nd (q_ite (t_cmp (x_ne hr.units) (q_var 3) q_int (nomark _)) (q_tup (a_cons q_str (a_cons (q_call Fs.f_lowest hr l0 hx rfl (fun _ _ _ z => z) (a_cons (q_var 2) (a_cons (q_var 3) a_nil))) a_nil))) (q_tup (a_cons q_str (a_cons q_bl a_nil)))))
      (ss_cons (s_ret (q_cmp (x_eq hr.units) (q_bltB (x_repr hr.units hr.gd) B.repr (a_cons (q_call Fs.f_told hr l0 hx rfl (fun _ _ _ z => z) (a_cons q_int (a_cons (q_var 2) (a_cons (q_var 3) a_nil)))) a_nil)) (q_bltB (x_repr hr.units hr.gd) B.repr (a_cons (q_var 4) a_nil)) (nomark _)))
      ss_nil))))))))).t
theorem bd_is_alone (D : Def K mg "_law_is_alone" s_is_alone) (hT : P.given.tree = none) (hz : dr.rz = true) (B : Bs mg) (Xf : Xs P K mg A_BendError A_NoCut A_NoKnot A_NoKnots A_NoOne A_NoOver A_NoPaper A_NoPlace A_NoPoint A_NoShares A_NoSheet A_NoSmooth A_NoStretch A_NoTask A_NoText A_Twice) (Gd : FnQ P w K mg base CX0 1 "_law_draw" ["_law_feed_here", "_law_many"] (PrDraw dr)) {k : Nat} : FnQN P w K mg base (2 * (k + 1) + 1) "_law_is_alone" ["_law_e", "_law_own"] (Pr (evF dr tab (k + 1)) Wno K "_law_is_alone") := by
  refine def_okN (r := 2 * k + 2) (fn := f_is_alone) D sc_is_alone (fun _ _ _ _ _ _ us hl => match us, hl with | [_, _], _ => rfl) tab_is_alone rfl rfl fun fa cdv A outer s H E hr => ?_
  have nd := sc_is_alone.nd
  have hj : 1 ≤ 2 * k + 2 := Nat.le_add_left 1 _
  have hj1 : 1 ≤ 2 * k + 1 := Nat.le_add_left 1 _
  have l0 : 2 * k + 1 ≤ 2 * k + 2 := Nat.le_succ _
  exact (ss_cons (s_set 2 nd (q_lst (a_cons (q_isx 0 (fun c C h => ⟨Xf.cl c C h, Xf.k_NoCut c C h⟩) (.inl ⟨_, rfl⟩) (pe_glob (by rfl) Xf.m_NoCut (v := .ref _) rfl) B.isinstance) (a_cons (q_isx 0 (fun c C h => ⟨Xf.cl c C h, Xf.k_NoKnot c C h⟩) (.inl ⟨_, rfl⟩) (pe_glob (by rfl) Xf.m_NoKnot (v := .ref _) rfl) B.isinstance) (a_cons (q_isx 0 (fun c C h => ⟨Xf.cl c C h, Xf.k_NoKnots c C h⟩) (.inl ⟨_, rfl⟩) (pe_glob (by rfl) Xf.m_NoKnots (v := .ref _) rfl) B.isinstance) (a_cons (q_isx 0 (fun c C h => ⟨Xf.cl c C h, Xf.k_NoOne c C h⟩) (.inl ⟨_, rfl⟩) (pe_glob (by rfl) Xf.m_NoOne (v := .ref _) rfl) B.isinstance) a_nil))))))
      (ss_cons (s_set 2 nd (q_bin x_add (q_var 2) (q_lst (a_cons (q_isx 0 (fun c C h => ⟨Xf.cl c C h, Xf.k_NoOver c C h⟩) (.inl ⟨_, rfl⟩) (pe_glob (by rfl) Xf.m_NoOver (v := .ref _) rfl) B.isinstance) (a_cons (q_isx 0 (fun c C h => ⟨Xf.cl c C h, Xf.k_NoPaper c C h⟩) (.inl ⟨_, rfl⟩) (pe_glob (by rfl) Xf.m_NoPaper (v := .ref _) rfl) B.isinstance) (a_cons (q_isx 0 (fun c C h => ⟨Xf.cl c C h, Xf.k_NoPlace c C h⟩) (.inl ⟨_, rfl⟩) (pe_glob (by rfl) Xf.m_NoPlace (v := .ref _) rfl) B.isinstance) (a_cons (q_isx 0 (fun c C h => ⟨Xf.cl c C h, Xf.k_NoPoint c C h⟩) (.inl ⟨_, rfl⟩) (pe_glob (by rfl) Xf.m_NoPoint (v := .ref _) rfl) B.isinstance) a_nil)))))))
      (ss_cons (s_set 2 nd (q_bin x_add (q_var 2) (q_lst (a_cons (q_isx 0 (fun c C h => ⟨Xf.cl c C h, Xf.k_NoShares c C h⟩) (.inl ⟨_, rfl⟩) (pe_glob (by rfl) Xf.m_NoShares (v := .ref _) rfl) B.isinstance) (a_cons (q_isx 0 (fun c C h => ⟨Xf.cl c C h, Xf.k_NoSheet c C h⟩) (.inl ⟨_, rfl⟩) (pe_glob (by rfl) Xf.m_NoSheet (v := .ref _) rfl) B.isinstance) (a_cons (q_isx 0 (fun c C h => ⟨Xf.cl c C h, Xf.k_NoSmooth c C h⟩) (.inl ⟨_, rfl⟩) (pe_glob (by rfl) Xf.m_NoSmooth (v := .ref _) rfl) B.isinstance) (a_cons (q_isx 0 (fun c C h => ⟨Xf.cl c C h, Xf.k_NoStretch c C h⟩) (.inl ⟨_, rfl⟩) (pe_glob (by rfl) Xf.m_NoStretch (v := .ref _) rfl) B.isinstance) a_nil)))))))
      (ss_cons (s_set 2 nd (q_bin x_add (q_var 2) (q_lst (a_cons (q_isx 0 (fun c C h => ⟨Xf.cl c C h, Xf.k_NoTask c C h⟩) (.inl ⟨_, rfl⟩) (pe_glob (by rfl) Xf.m_NoTask (v := .ref _) rfl) B.isinstance) (a_cons (q_isx 0 (fun c C h => ⟨Xf.cl c C h, Xf.k_NoText c C h⟩) (.inl ⟨_, rfl⟩) (pe_glob (by rfl) Xf.m_NoText (v := .ref _) rfl) B.isinstance) (a_cons (q_isx 0 (fun c C h => ⟨Xf.cl c C h, Xf.k_Twice c C h⟩) (.inl ⟨_, rfl⟩) (pe_glob (by rfl) Xf.m_Twice (v := .ref _) rfl) B.isinstance) a_nil))))))
      (ss_cons (s_ret (q_and (q_var 1) (q_and (q_isx 0 (fun c C h => ⟨Xf.cl c C h, Xf.k_ValueError c C h⟩) (.inr ⟨_, rfl⟩) (pe_bltn (v := .ty "ValueError") (by rfl) B.ValueError (by decide +kernel) rfl) B.isinstance) (q_one (q_cmp (x_eq hr.units) (q_count hr.units (q_var 2) q_bl) q_int (nomark _))))))
      ss_nil)))))
theorem bd_law (hT : P.given.tree = none) (hz : dr.rz = true) (B : Bs mg) (Xf : Xs P K mg A_BendError A_NoCut A_NoKnot A_NoKnots A_NoOne A_NoOver A_NoPaper A_NoPlace A_NoPoint A_NoShares A_NoSheet A_NoSmooth A_NoStretch A_NoTask A_NoText A_Twice) (Gd : FnQ P w K mg base CX0 1 "_law_draw" ["_law_feed_here", "_law_many"] (PrDraw dr)) {k : Nat} (Fs : Fns P w K mg base dr k) (fa : Addr) (cdv : Value) (A : Around) (outer : List PySem.Env) (s : Shared) (H : Hp) (E : XK) (hr : Room (2 * k + 2) (A.deeper (PyProof.Rows.envOfC "law" (defScope s_p_law) s.heap.objs.size fa cdv))) : QSs (Gk dr tab k) (cxOf CX0 P w K mg base ["_law_script", "_law_feed_here", "_law_way", "_law_one", "_law_other", "_law_some", "_law_n", "_law_d", "_law_turn"] "law" (defScope s_p_law) fa cdv A outer s H E).nox (defBody s_p_law).tail f_p_law.body := by
  have nd := sc_p_law.nd
  have hj : 1 ≤ 2 * k + 2 := Nat.le_add_left 1 _
  have hj1 : 1 ≤ 2 * k + 1 := Nat.le_add_left 1 _
  have l0 : 2 * k + 1 ≤ 2 * k + 2 := Nat.le_succ _
  exact (ss_cons (s_set 2 nd (q_draw 1 Gd hr hj pass0 rfl q_int))
      (ss_cons (s_par 3 4 nd (q_call Fs.f_fraction hr l0 passN rfl (fun _ _ _ (z : False) => z.elim) (a_cons (q_var 1) a_nil)) (q_call Fs.f_fraction hr l0 passN rfl (fun _ _ _ (z : False) => z.elim) (a_cons (q_var 1) a_nil)))
      (ss_cons (s_set 5 nd (q_lst (a_cons (q_var 3) (a_cons (q_tup (a_cons (q_bin x_sub q_int (q_idx (q_var 3) q_int)) (a_cons (q_idx (q_var 3) q_int) a_nil))) (a_cons (q_tup (a_cons q_int (a_cons q_int a_nil))) (a_cons (q_call Fs.f_lowest hr l0 passN rfl (fun _ _ _ (z : False) => z.elim) (a_cons (q_idx (q_var 3) q_int) (a_cons (q_ite (t_cmp (x_ne hr.units) (q_idx (q_var 3) q_int) q_int (nomark _)) (q_idx (q_var 3) q_int) q_int) a_nil))) a_nil))))))
      (ss_cons (s_set 4 nd (q_ite (t_cmp x_lt (q_var 2) q_int (nomark _)) (q_idx (q_var 5) (q_var 2)) (q_var 4)))
      (ss_cons (s_par 6 7 nd (q_call Fs.f_number hr l0 passN rfl (fun _ _ _ (z : False) => z.elim) (a_cons (q_var 1) a_nil)) (q_bin x_mul (q_call Fs.f_number hr l0 passN rfl (fun _ _ _ (z : False) => z.elim) (a_cons (q_var 1) a_nil)) (q_bltT x_int B.int (a_cons (q_cmp x_gt (q_draw 1 Gd hr hj pass0 rfl q_int) q_int (nomark _)) a_nil))))
      (ss_cons (s_for PassesOwn.never (i_rng1 q_int B.range) (g_name 8 nd) (ss_cons (s_if ((w_or (t_not (t_val (q_call Fs.f_right hr l0 passN rfl (fun _ _ _ (z : False) => z.elim) (a_cons (q_var 3) (a_cons (q_var 4) (a_cons (q_var 6) (a_cons (q_var 7) a_nil))))))) (w_or1 (t_not (t_val (q_call Fs.f_right hr l0 passN rfl (fun _ _ _ (z : False) => z.elim) (a_cons (q_var 4) (a_cons (q_var 3) (a_cons (q_var 7) (a_cons (q_var 6) a_nil)))))))))).t (ss_cons (s_ret q_bl)
      ss_nil) ss_nil)
      ss_nil))
      (ss_cons (s_ret q_bl)
      ss_nil)))))))
set_option maxHeartbeats 4000000 in
theorem fns_zero (D : Ds K mg) : Fns P w K mg base dr 0 := ⟨def_zeroX D.d_p_common_of sc_p_common_of (fun _ _ _ _ _ _ us hl => match us, hl with | [_, _], _ => rfl), def_zeroX D.d_p_fraction_of sc_p_fraction_of (fun _ _ _ _ _ _ us hl => match us, hl with | [_, _], _ => rfl), def_zeroX D.d_p_plus_by sc_p_plus_by (fun _ _ _ _ _ _ us hl => match us, hl with | [_, _], _ => rfl), def_zeroX D.d_p_contrary_of sc_p_contrary_of (fun _ _ _ _ _ _ us hl => match us, hl with | [_], _ => rfl), def_zeroX D.d_p_minus_by sc_p_minus_by (fun _ _ _ _ _ _ us hl => match us, hl with | [_, _], _ => rfl), def_zeroX D.d_p_times_by sc_p_times_by (fun _ _ _ _ _ _ us hl => match us, hl with | [_, _], _ => rfl), def_zeroX D.d_p_over_by sc_p_over_by (fun _ _ _ _ _ _ us hl => match us, hl with | [_, _], _ => rfl), def_zeroX D.d_lowest sc_lowest (fun _ _ _ _ _ _ us hl => match us, hl with | [_, _], _ => rfl), def_zeroX D.d_number sc_number (fun _ _ _ _ _ _ us hl => match us, hl with | [_], _ => rfl), def_zeroX D.d_fraction sc_fraction (fun _ _ _ _ _ _ us hl => match us, hl with | [_], _ => rfl), def_zeroX D.d_told sc_told (fun _ _ _ _ _ _ us hl => match us, hl with | [_, _, _], _ => rfl), def_zeroX D.d_right sc_right (fun _ _ _ _ _ _ us hl => match us, hl with | [_, _, _, _], _ => rfl), def_zeroN D.d_is_alone sc_is_alone (fun _ _ _ _ _ _ us hl => match us, hl with | [_, _], _ => rfl)⟩
set_option maxHeartbeats 4000000 in
theorem fns_succ (D : Ds K mg) (hT : P.given.tree = none) (hz : dr.rz = true) (B : Bs mg) (Xf : Xs P K mg A_BendError A_NoCut A_NoKnot A_NoKnots A_NoOne A_NoOver A_NoPaper A_NoPlace A_NoPoint A_NoShares A_NoSheet A_NoSmooth A_NoStretch A_NoTask A_NoText A_Twice) (Gd : FnQ P w K mg base CX0 1 "_law_draw" ["_law_feed_here", "_law_many"] (PrDraw dr)) {k : Nat} (Fs : Fns P w K mg base dr k) : Fns P w K mg base dr (k + 1) := ⟨bd_p_common_of D.d_p_common_of hT hz B Xf Gd Fs, bd_p_fraction_of D.d_p_fraction_of hT hz B Xf Gd Fs, bd_p_plus_by D.d_p_plus_by hT hz B Xf Gd Fs, bd_p_contrary_of D.d_p_contrary_of hT hz B Xf Gd Fs, bd_p_minus_by D.d_p_minus_by hT hz B Xf Gd Fs, bd_p_times_by D.d_p_times_by hT hz B Xf Gd Fs, bd_p_over_by D.d_p_over_by hT hz B Xf Gd Fs, bd_lowest D.d_lowest hT hz B Xf Gd Fs, bd_number D.d_number hT hz B Xf Gd Fs, bd_fraction D.d_fraction hT hz B Xf Gd Fs, bd_told D.d_told hT hz B Xf Gd Fs, bd_right D.d_right hT hz B Xf Gd Fs, bd_is_alone D.d_is_alone hT hz B Xf Gd⟩
theorem fns (D : Ds K mg) (hT : P.given.tree = none) (hz : dr.rz = true) (B : Bs mg) (Xf : Xs P K mg A_BendError A_NoCut A_NoKnot A_NoKnots A_NoOne A_NoOver A_NoPaper A_NoPlace A_NoPoint A_NoShares A_NoSheet A_NoSmooth A_NoStretch A_NoTask A_NoText A_Twice) (Gd : FnQ P w K mg base CX0 1 "_law_draw" ["_law_feed_here", "_law_many"] (PrDraw dr)) : ∀ k, Fns P w K mg base dr k
  | 0 => fns_zero D
  | k + 1 => fns_succ D hT hz B Xf Gd (fns D hT hz B Xf Gd k)
end
end Pv
namespace Pv
open PySem L2 GB
local macro_rules | `(tactic| simp! only [$xs,*]) => `(tactic| simp (config := {dsimp := false, implicitDefEqProofs := false}) only [kOut_n, kOut_r, kPut_e, kPl_e, kBo_e, kVar_e, evE_var, evE_con, kBin2_e, kBin_e, evE_bin, kNeg_e, evE_neg, kCmp2_e, kCmp_e, evE_cmp, kCh3_t, kCh3_f, kCh2_e, kCh_e, evE_chain, kAnd_t, kAnd_f, kOr_t, kOr_f, evE_andV, evE_orV, kTru_e, kAnT2_t, kAnT2_f, kOrT2_f, kOrT2_t, kAnT_e, evE_andT, kOrT_e, evE_orT, kNo2_e, kNot_e, evE_not, kIte2_t, kIte2_f, kIte_e, evE_ite, kT2_e, kT_e, evE_tup, kL2_e, kL_e, evE_lst, kItem_e, kIx2_e, kIx_e, evE_idx, kSl3_e, kSl2_e, kSl_e, evE_slc, kRv_e, evE_rev, kRes_e, kCl2_e, kCl_e, evE_call, kDr3_e, kDr2_e, kDr_e, evE_draw, kBl2_e, kBl_e, evE_blt, kLc_e, evE_Lc, kGe2_e, kGe_e, evE_Ge, kEl3_e, kEl2_t, kEl2_f, kEl_e, elemR_e, kEs2_e, kEs_e, evEs_n, evEs_c, kSt3_e, kSt2_e, kSt_e, evEs_s, kO_e, evO_n, evO_y, kIseq2_e, kIseq_e, evI_seq, kIenum2_e, kIenum_e, evI_enum, kIrev2_e, kIrev_e, evI_rev, kRg3_e, kRg2_e, kRg_e, evI_rng, kZ4_e, kZ3_e, kZ2_e, kZ_e, evI_zip, kC2_t, kC2_f, kC_e, evC_n, evC_c, kSe_e, evS_set, kNx_e, kUn_e, evS_unp, kPr2_e, kPr_e, evS_par, kPx3_e, kPx2_e, kPx_e, evS_par3, kAu3_e, kAu2_e, kAu_e, evS_aug, kSx4_e, kSx3_e, kSx2_e, kSx_e, evS_setIx, kAp2_e, kAp_e, evS_app, kPo_e, evS_pop, kRe_e, evS_reverse, kEx_e, evS_ex, kIf2_t, kIf2_f, kIf_e, evS_ite, kRt_e, kRtV_e, evS_retV, evR_con, evR_bin, evR_neg, evR_cmp, evR_chain, evR_andV, evR_orV, evR_andT, evR_orT, evR_ite, evR_tup, evR_lst, evR_idx, evR_slc, evR_rev, evR_call, evR_draw, evR_blt, evR_not, evR_lc, evR_gen, evS_retN, evS_brk, evS_cnt, evS_pas, kSs_n, kSs_b, kSs_c, kSs_r, evSs_n, evSs_c, kFr_e, evS_For, kBd_e, contF_next, contF_cont, contF_brk, contF_ret, contW_next, contW_cont, contW_brk, contW_ret, evS_whl, kWh_t, kWh_f, kTv_e, rd_n, rd_s, rd_f, st_n, st_s, st_f, jo_n, jo_sn, ia_n, ia_s, sr_n, rs_n, rs_f, av_n, av_d, av_f, ds_n, ds_c, ag_n, ag_d, ag_f, ow_e, ow_l, tv_d, jo_ss, sr_s, rs_s, kIsx_e, evE_isx, kXf_e, evE_xfld, kIn_e, kCt3_e, kCt2_e, kCt_e, evE_count, kRz2_e, kRz_e, kTry_ok, kTry_exc, evS_try, kSu_ok, rd_x, ag_x, av_x, rs_x, R.ok_bind, R.exc_bind, R.stuck_bind, R.of_some, R.of_none, bindT, bindTs, flat, flatAll, List.getElem?_cons_zero, List.getElem?_cons_succ, List.set_cons_zero, List.set_cons_succ, alNew_none, alNew_some, alOp, datsV_star, datsV_star0, parV, bopD, addD, subD, mul_int, fdivD, modD, negD, copD, intsD, truD, idx_t0, idx_t1, idx_t2, idx_t3, idx_l0, idx_l1, idx_l2, idx_l3, idx_fr0, idx_fr1, flat_fr, bindT_fr, Option.getD_some, Option.getD_none, Option.map_some, Option.map_none, Option.bind_some, Option.bind_none, bl_len_t, bl_len_l, bl_abs, bl_int_i, bl_int_b, bl_bool_i, bl_bool_b, bl_list_t, bl_list_l, bl_tuple_t, bl_tuple_l, bl_isTup, bl_isInt, bl_isBool, bl_isStr, bl_isList, List.append_nil, List.nil_append, List.cons_append, Bool.false_eq_true, ite_true, ite_false, if_true, if_false, reduceIte, Bool.true_and, Bool.and_true, Bool.and_self, Bool.not_true, Bool.not_false, Bool.and_false, Bool.false_and, Bool.or_true, Bool.or_false, Bool.true_or, Bool.false_or, List.all_nil, List.all_cons, seqD, lstD, freeze, List.length_cons, List.length_nil, List.length_map, List.length_append, Nat.reduceAdd, Nat.reduceLeDiff, leS, okPut, wipeE, List.contains_cons, List.contains_nil, Nat.reduceBEq, $xs,*])
structure Rp (w k : Nat) (d : PyData) : Prop where
  ok : GB.okX d = true
  len : d.shown.length ≤ w
  dep : d.depth ≤ k
structure RpA (w k : Nat) (ds : List PyData) : Prop where
  ok : GB.okXAll ds = true
  len : piled (PyData.shownAll ds) ≤ w
  dep : PyData.depthAll ds ≤ k
theorem intLen {a : Int} (h : a.natAbs.log2 < 12900) : (PyData.shown (.int a)).length ≤ 4301 := by
  simp only [PyData.shown]
  have e := int_text_length_le10 (k := 4300) (by decide) (lt4300 h)
  rw [ofString_length]
  exact e
theorem Rp.int {a : Int} (h : a.natAbs.log2 < 12900) : Rp 4301 0 (.int a) := ⟨by simp [GB.okX, h], intLen h, by simp [PyData.depth]⟩
theorem Rp.bool (b : Bool) : Rp 5 0 (.bool b) := ⟨rfl, by cases b <;> decide, by simp [PyData.depth]⟩
theorem Rp.none : Rp 4 0 .none := ⟨rfl, by decide, by simp [PyData.depth]⟩
theorem RpA.nil {k : Nat} : RpA 0 k [] := ⟨rfl, by simp [PyData.shownAll, piled], by simp [PyData.depthAll]⟩
theorem RpA.cons {w v k : Nat} {d : PyData} {ds : List PyData} (h : Rp w k d) (g : RpA v k ds) : RpA (w + 2 + v) k (d :: ds) := by
  refine ⟨by simp [GB.okXAll, h.ok, g.ok], ?_, ?_⟩
  · rw [PyData.shownAll, piled_cons]
    have := h.len
    have := g.len
    omega
  · simp only [PyData.depthAll]
    have := h.dep
    have := g.dep
    omega
theorem Rp.tup {w k : Nat} {ds : List PyData} (h : RpA w k ds) : Rp (w + 3) (k + 1) (.tuple ds) := by
  refine ⟨by simpa [GB.okX] using h.ok, ?_, ?_⟩
  · simp only [PyData.shown]
    have := tupleText_ub (PyData.shownAll ds)
    have := h.len
    omega
  · simp only [PyData.depth]
    have := h.dep
    omega
theorem Rp.lst {w k : Nat} {ds : List PyData} (h : RpA w k ds) : Rp (w + 3) (k + 1) (.list ds) := by
  refine ⟨by simpa [GB.okX] using h.ok, ?_, ?_⟩
  · simp only [PyData.shown]
    have := listText_ub (PyData.shownAll ds)
    have := h.len
    omega
  · simp only [PyData.depth]
    have := h.dep
    omega
theorem Rp.mono {w v k j : Nat} {d : PyData} (h : Rp w k d) (e : w ≤ v) (f : k ≤ j) : Rp v j d := ⟨h.ok, Nat.le_trans h.len e, Nat.le_trans h.dep f⟩
theorem Rp.fr {q : Rat} (h : GB.Bd 12000 q) : Rp 8609 1 (fr q) := by
  have h1 := h.n
  have h2 := h.d
  exact (Rp.tup (RpA.cons (.int (by omega)) (RpA.cons (.int (by omega)) .nil))).mono (by omega) (by omega)
theorem RpA.of {α : Type} {f : α → PyData} {w k : Nat} : ∀ {xs : List α}, (∀ x ∈ xs, Rp w k (f x)) → RpA (xs.length * (w + 2)) k (xs.map f)
  | [], _ => by simpa using RpA.nil
  | x :: xs, h => by
    have := RpA.cons (h x (by simp)) (RpA.of (xs := xs) fun y m => h y (by simp [m]))
    rw [List.length_cons, Nat.add_mul, Nat.one_mul, Nat.add_comm]
    exact this
theorem okRepr_of {w k : Nat} {d : PyData} (h : Rp w k d) (hw : w ≤ 16000000) (hk : k ≤ 60) : okRepr d = true := by
  unfold okRepr
  have h1 := h.len
  have h2 := h.dep
  have : (16000000 : Nat) ≤ sizeLine := by decide
  simp only [h.ok, Bool.true_and, Bool.and_eq_true, decide_eq_true_eq]
  omega
theorem repr_ev {w k : Nat} {d : PyData} (h : Rp w k d) (hw : w ≤ 16000000) (hk : k ≤ 60) : bltD .repr [d] = some (.str d.shown) := by
  show (if okRepr d = true then some (PyData.str d.shown) else none) = _
  rw [if_pos (okRepr_of h hw hk)]
theorem shaped_fr (q : Rat) : shaped (fr q) = true := by
  simp [shaped, SeqAt.shaped, fr, PyData.canLay0, PyData.canLayAll0, PyData.depth, PyData.depthAll]
theorem eqv_fr (a b : Rat) : PyData.eqv (fr a) (fr b) = decide (a = b) := by
  simp only [fr, PyData.eqv, PyData.eqvAll, Bool.and_true]
  rw [Bool.eq_iff_iff]
  simp only [Bool.and_eq_true, beq_iff_eq, decide_eq_true_eq]
  constructor
  · rintro ⟨h1, h2⟩
    exact Rat.ext h1 (by omega)
  · rintro rfl
    exact ⟨rfl, rfl⟩
theorem eqD_fr (a b : Rat) : eqD (fr a) (fr b) = some (decide (a = b)) := by
  have : strsD (fr a) (fr b) = none := rfl
  simp [eqD, this, shaped_fr, eqv_fr]
theorem eqD_int (a b : Int) : eqD (.int a) (.int b) = some (decide (a = b)) := by
  have : strsD (.int a) (.int b) = none := rfl
  have s : ∀ i : Int, shaped (.int i) = true := fun i => rfl
  simp only [eqD, this, s, PyData.eqv]
  rw [if_pos (by decide)]
  congr 1
theorem eqD_str (a b : Str) : eqD (.str a) (.str b) = some (decide (a = b)) := rfl
theorem bdN : GB.Bd 1 0 := ⟨by decide, by decide⟩
theorem atI_nat {α : Type} {xs : List α} {i : Nat} {x : α} (h : xs[i]? = some x) : L2.atI xs (i : Int) = some x := by
  have hl : i < xs.length := (List.getElem?_eq_some_iff.mp h).1
  unfold L2.atI L2.ixN
  rw [if_pos (by omega), if_pos (by omega)]
  simpa using h
theorem fr0 : (PyData.tuple [.int 0, .int 1]) = fr 0 := rfl
instance : Sz 1 0 := ⟨bdN⟩
instance : Sz 1 1 := ⟨⟨by decide, by decide⟩⟩
instance {n m : Nat} {a b : Rat} [h : Sz n a] [g : Sz m b] : Sz (n + m + 1) (a + b) := ⟨GB.bd_add h.bd g.bd⟩
instance {n m : Nat} {a b : Rat} [h : Sz n a] [g : Sz m b] : Sz (n + m + 1) (a - b) := ⟨GB.bd_sub h.bd g.bd⟩
instance {n m : Nat} {a b : Rat} [h : Sz n a] [g : Sz m b] : Sz (n + m) (a * b) := ⟨GB.bd_mul h.bd g.bd⟩
instance {n : Nat} {a : Rat} [h : Sz n a] : Sz n (-a) := ⟨GB.bd_neg h.bd⟩
theorem R.bind_assoc {α β γ : Type} (m : R α) (f : α → Feed → R β) (g : β → Feed → R γ) : (m.bind f).bind g = m.bind fun a F => (f a F).bind g := by
  cases m <;> rfl
def sumQ : List Rat → Rat
  | [] => 0
  | x :: xs => x + sumQ xs
section
variable {dr : Dr} {T : Tab} {k n m : Nat} {F : Feed} {a b q : Rat}
end
end Pv
namespace Pv
open PySem L2 GB
local macro_rules | `(tactic| simp! only [$xs,*]) => `(tactic| simp (config := {dsimp := false, implicitDefEqProofs := false}) only [kOut_n, kOut_r, kPut_e, kPl_e, kBo_e, kVar_e, evE_var, evE_con, kBin2_e, kBin_e, evE_bin, kNeg_e, evE_neg, kCmp2_e, kCmp_e, evE_cmp, kCh3_t, kCh3_f, kCh2_e, kCh_e, evE_chain, kAnd_t, kAnd_f, kOr_t, kOr_f, evE_andV, evE_orV, kTru_e, kAnT2_t, kAnT2_f, kOrT2_f, kOrT2_t, kAnT_e, evE_andT, kOrT_e, evE_orT, kNo2_e, kNot_e, evE_not, kIte2_t, kIte2_f, kIte_e, evE_ite, kT2_e, kT_e, evE_tup, kL2_e, kL_e, evE_lst, kItem_e, kIx2_e, kIx_e, evE_idx, kSl3_e, kSl2_e, kSl_e, evE_slc, kRv_e, evE_rev, kRes_e, kCl2_e, kCl_e, evE_call, kDr3_e, kDr2_e, kDr_e, evE_draw, kBl2_e, kBl_e, evE_blt, kLc_e, evE_Lc, kGe2_e, kGe_e, evE_Ge, kEl3_e, kEl2_t, kEl2_f, kEl_e, elemR_e, kEs2_e, kEs_e, evEs_n, evEs_c, kSt3_e, kSt2_e, kSt_e, evEs_s, kO_e, evO_n, evO_y, kIseq2_e, kIseq_e, evI_seq, kIenum2_e, kIenum_e, evI_enum, kIrev2_e, kIrev_e, evI_rev, kRg3_e, kRg2_e, kRg_e, evI_rng, kZ4_e, kZ3_e, kZ2_e, kZ_e, evI_zip, kC2_t, kC2_f, kC_e, evC_n, evC_c, kSe_e, evS_set, kNx_e, kUn_e, evS_unp, kPr2_e, kPr_e, evS_par, kPx3_e, kPx2_e, kPx_e, evS_par3, kAu3_e, kAu2_e, kAu_e, evS_aug, kSx4_e, kSx3_e, kSx2_e, kSx_e, evS_setIx, kAp2_e, kAp_e, evS_app, kPo_e, evS_pop, kRe_e, evS_reverse, kEx_e, evS_ex, kIf2_t, kIf2_f, kIf_e, evS_ite, kRt_e, kRtV_e, evS_retV, evR_con, evR_bin, evR_neg, evR_cmp, evR_chain, evR_andV, evR_orV, evR_andT, evR_orT, evR_ite, evR_tup, evR_lst, evR_idx, evR_slc, evR_rev, evR_call, evR_draw, evR_blt, evR_not, evR_lc, evR_gen, evS_retN, evS_brk, evS_cnt, evS_pas, kSs_n, kSs_b, kSs_c, kSs_r, evSs_n, evSs_c, kFr_e, evS_For, kBd_e, contF_next, contF_cont, contF_brk, contF_ret, contW_next, contW_cont, contW_brk, contW_ret, evS_whl, kWh_t, kWh_f, kTv_e, rd_n, rd_s, rd_f, st_n, st_s, st_f, jo_n, jo_sn, ia_n, ia_s, sr_n, rs_n, rs_f, av_n, av_d, av_f, ds_n, ds_c, ag_n, ag_d, ag_f, ow_e, ow_l, tv_d, jo_ss, sr_s, rs_s, kIsx_e, evE_isx, kXf_e, evE_xfld, kIn_e, kCt3_e, kCt2_e, kCt_e, evE_count, kRz2_e, kRz_e, kTry_ok, kTry_exc, evS_try, kSu_ok, rd_x, ag_x, av_x, rs_x, R.ok_bind, R.exc_bind, R.stuck_bind, R.of_some, R.of_none, bindT, bindTs, flat, flatAll, List.getElem?_cons_zero, List.getElem?_cons_succ, List.set_cons_zero, List.set_cons_succ, alNew_none, alNew_some, alOp, datsV_star, datsV_star0, parV, bopD, addD, subD, mul_int, fdivD, modD, negD, copD, intsD, truD, idx_t0, idx_t1, idx_t2, idx_t3, idx_l0, idx_l1, idx_l2, idx_l3, idx_fr0, idx_fr1, flat_fr, bindT_fr, Option.getD_some, Option.getD_none, Option.map_some, Option.map_none, Option.bind_some, Option.bind_none, bl_len_t, bl_len_l, bl_abs, bl_int_i, bl_int_b, bl_bool_i, bl_bool_b, bl_list_t, bl_list_l, bl_tuple_t, bl_tuple_l, bl_isTup, bl_isInt, bl_isBool, bl_isStr, bl_isList, List.append_nil, List.nil_append, List.cons_append, Bool.false_eq_true, ite_true, ite_false, if_true, if_false, reduceIte, Bool.true_and, Bool.and_true, Bool.and_self, Bool.not_true, Bool.not_false, Bool.and_false, Bool.false_and, Bool.or_true, Bool.or_false, Bool.true_or, Bool.false_or, List.all_nil, List.all_cons, seqD, lstD, freeze, List.length_cons, List.length_nil, List.length_map, List.length_append, Nat.reduceAdd, Nat.reduceLeDiff, leS, okPut, wipeE, List.contains_cons, List.contains_nil, Nat.reduceBEq, eqD_fr, eqD_int, eqD_str, $xs,*])
def strip (xs : List Rat) : List Rat := (xs.reverse.dropWhile (fun x => decide (x = 0))).reverse
def evalQ (t : Rat) : List Rat → Rat
  | [] => 0
  | c :: cs => c + t * evalQ t cs
def nA (cs : List Rat) (k : Nat) : Rat := cs[k]?.getD 0
theorem rng_nat {n : Nat} (h : n ≤ 100000000) : rngD [.int (n : Int)] = some ((List.range n).map fun i : Nat => .int (i : Int)) := by
  have : okR (n : Int) = true := by
    unfold okR
    exact decide_eq_true (by omega)
  simp only [rngD, this, if_true, rngI, Int.toNat_natCast, Int.zero_add]
section
variable {dr : Dr} {T : Tab} {k n m : Nat} {F : Feed} {a b q : Rat}
def addL (cs ds : List Rat) : List Rat := (List.range (max cs.length ds.length)).map fun k => nA cs k + nA ds k
end
end Pv
namespace Pv
open PySem L2 GB
local macro_rules | `(tactic| simp! only [$xs,*]) => `(tactic| simp (config := {dsimp := false, implicitDefEqProofs := false}) only [kOut_n, kOut_r, kPut_e, kPl_e, kBo_e, kVar_e, evE_var, evE_con, kBin2_e, kBin_e, evE_bin, kNeg_e, evE_neg, kCmp2_e, kCmp_e, evE_cmp, kCh3_t, kCh3_f, kCh2_e, kCh_e, evE_chain, kAnd_t, kAnd_f, kOr_t, kOr_f, evE_andV, evE_orV, kTru_e, kAnT2_t, kAnT2_f, kOrT2_f, kOrT2_t, kAnT_e, evE_andT, kOrT_e, evE_orT, kNo2_e, kNot_e, evE_not, kIte2_t, kIte2_f, kIte_e, evE_ite, kT2_e, kT_e, evE_tup, kL2_e, kL_e, evE_lst, kItem_e, kIx2_e, kIx_e, evE_idx, kSl3_e, kSl2_e, kSl_e, evE_slc, kRv_e, evE_rev, kRes_e, kCl2_e, kCl_e, evE_call, kDr3_e, kDr2_e, kDr_e, evE_draw, kBl2_e, kBl_e, evE_blt, kLc_e, evE_Lc, kGe2_e, kGe_e, evE_Ge, kEl3_e, kEl2_t, kEl2_f, kEl_e, elemR_e, kEs2_e, kEs_e, evEs_n, evEs_c, kSt3_e, kSt2_e, kSt_e, evEs_s, kO_e, evO_n, evO_y, kIseq2_e, kIseq_e, evI_seq, kIenum2_e, kIenum_e, evI_enum, kIrev2_e, kIrev_e, evI_rev, kRg3_e, kRg2_e, kRg_e, evI_rng, kZ4_e, kZ3_e, kZ2_e, kZ_e, evI_zip, kC2_t, kC2_f, kC_e, evC_n, evC_c, kSe_e, evS_set, kNx_e, kUn_e, evS_unp, kPr2_e, kPr_e, evS_par, kPx3_e, kPx2_e, kPx_e, evS_par3, kAu3_e, kAu2_e, kAu_e, evS_aug, kSx4_e, kSx3_e, kSx2_e, kSx_e, evS_setIx, kAp2_e, kAp_e, evS_app, kPo_e, evS_pop, kRe_e, evS_reverse, kEx_e, evS_ex, kIf2_t, kIf2_f, kIf_e, evS_ite, kRt_e, kRtV_e, evS_retV, evR_con, evR_bin, evR_neg, evR_cmp, evR_chain, evR_andV, evR_orV, evR_andT, evR_orT, evR_ite, evR_tup, evR_lst, evR_idx, evR_slc, evR_rev, evR_call, evR_draw, evR_blt, evR_not, evR_lc, evR_gen, evS_retN, evS_brk, evS_cnt, evS_pas, kSs_n, kSs_b, kSs_c, kSs_r, evSs_n, evSs_c, kFr_e, evS_For, kBd_e, contF_next, contF_cont, contF_brk, contF_ret, contW_next, contW_cont, contW_brk, contW_ret, evS_whl, kWh_t, kWh_f, kTv_e, rd_n, rd_s, rd_f, st_n, st_s, st_f, jo_n, jo_sn, ia_n, ia_s, sr_n, rs_n, rs_f, av_n, av_d, av_f, ds_n, ds_c, ag_n, ag_d, ag_f, ow_e, ow_l, tv_d, jo_ss, sr_s, rs_s, kIsx_e, evE_isx, kXf_e, evE_xfld, kIn_e, kCt3_e, kCt2_e, kCt_e, evE_count, kRz2_e, kRz_e, kTry_ok, kTry_exc, evS_try, kSu_ok, rd_x, ag_x, av_x, rs_x, R.ok_bind, R.exc_bind, R.stuck_bind, R.of_some, R.of_none, bindT, bindTs, flat, flatAll, List.getElem?_cons_zero, List.getElem?_cons_succ, List.set_cons_zero, List.set_cons_succ, alNew_none, alNew_some, alOp, datsV_star, datsV_star0, parV, bopD, addD, subD, mul_int, fdivD, modD, negD, copD, intsD, truD, idx_t0, idx_t1, idx_t2, idx_t3, idx_l0, idx_l1, idx_l2, idx_l3, idx_fr0, idx_fr1, flat_fr, bindT_fr, Option.getD_some, Option.getD_none, Option.map_some, Option.map_none, Option.bind_some, Option.bind_none, bl_len_t, bl_len_l, bl_abs, bl_int_i, bl_int_b, bl_bool_i, bl_bool_b, bl_list_t, bl_list_l, bl_tuple_t, bl_tuple_l, bl_isTup, bl_isInt, bl_isBool, bl_isStr, bl_isList, List.append_nil, List.nil_append, List.cons_append, Bool.false_eq_true, ite_true, ite_false, if_true, if_false, reduceIte, Bool.true_and, Bool.and_true, Bool.and_self, Bool.not_true, Bool.not_false, Bool.and_false, Bool.false_and, Bool.or_true, Bool.or_false, Bool.true_or, Bool.false_or, List.all_nil, List.all_cons, seqD, lstD, freeze, List.length_cons, List.length_nil, List.length_map, List.length_append, Nat.reduceAdd, Nat.reduceLeDiff, leS, okPut, wipeE, List.contains_cons, List.contains_nil, Nat.reduceBEq, eqD_fr, eqD_int, eqD_str, $xs,*])
section
variable {dr : Dr} {T : Tab} {k n m : Nat} {F : Feed} {a b q : Rat}
theorem okMul_bd {i j : Int} {B C : Nat} (h1 : i.natAbs < 2 ^ B) (h2 : j.natAbs < 2 ^ C) (h : B + C < 100000000) : okMul i j = true := okMul_of (GB.log2_lt_of h1) (GB.log2_lt_of h2) h
theorem mul_bd {i j : Int} {B C : Nat} (h1 : i.natAbs < 2 ^ B) (h2 : j.natAbs < 2 ^ C) : (i * j).natAbs < 2 ^ (B + C) := by
  rw [Int.natAbs_mul]
  exact GB.mul_lt_pow h1 h2
theorem add_bd {i j : Int} {B : Nat} (h1 : i.natAbs < 2 ^ B) (h2 : j.natAbs < 2 ^ B) : (i + j).natAbs < 2 ^ (B + 1) ∧ (i - j).natAbs < 2 ^ (B + 1) := by
  rw [Nat.pow_succ]
  omega
theorem den_bd {B : Nat} {q : Rat} (h : GB.Bd B q) : ((q.den : Int)).natAbs < 2 ^ B := by simpa using h.2
theorem den_mul_ne (a b : Rat) : (a.den : Int) * (b.den : Int) ≠ 0 := by
  have h1 := GB.pos_den a
  have h2 := GB.pos_den b
  have := Int.mul_pos h1 h2
  omega
theorem bd_div {t b : Int} {B : Nat} (hb : b ≠ 0) (h1 : t.natAbs < 2 ^ B) (h2 : b.natAbs < 2 ^ B) : GB.Bd B ((t : Rat) / (b : Rat)) := GB.bd_of (C := 0) hb h1 h2
end
end Pv
namespace Pv
open PySem L2 GB
local macro_rules | `(tactic| simp! only [$xs,*]) => `(tactic| simp (config := {dsimp := false, implicitDefEqProofs := false}) only [kOut_n, kOut_r, kPut_e, kPl_e, kBo_e, kVar_e, evE_var, evE_con, kBin2_e, kBin_e, evE_bin, kNeg_e, evE_neg, kCmp2_e, kCmp_e, evE_cmp, kCh3_t, kCh3_f, kCh2_e, kCh_e, evE_chain, kAnd_t, kAnd_f, kOr_t, kOr_f, evE_andV, evE_orV, kTru_e, kAnT2_t, kAnT2_f, kOrT2_f, kOrT2_t, kAnT_e, evE_andT, kOrT_e, evE_orT, kNo2_e, kNot_e, evE_not, kIte2_t, kIte2_f, kIte_e, evE_ite, kT2_e, kT_e, evE_tup, kL2_e, kL_e, evE_lst, kItem_e, kIx2_e, kIx_e, evE_idx, kSl3_e, kSl2_e, kSl_e, evE_slc, kRv_e, evE_rev, kRes_e, kCl2_e, kCl_e, evE_call, kDr3_e, kDr2_e, kDr_e, evE_draw, kBl2_e, kBl_e, evE_blt, kLc_e, evE_Lc, kGe2_e, kGe_e, evE_Ge, kEl3_e, kEl2_t, kEl2_f, kEl_e, elemR_e, kEs2_e, kEs_e, evEs_n, evEs_c, kSt3_e, kSt2_e, kSt_e, evEs_s, kO_e, evO_n, evO_y, kIseq2_e, kIseq_e, evI_seq, kIenum2_e, kIenum_e, evI_enum, kIrev2_e, kIrev_e, evI_rev, kRg3_e, kRg2_e, kRg_e, evI_rng, kZ4_e, kZ3_e, kZ2_e, kZ_e, evI_zip, kC2_t, kC2_f, kC_e, evC_n, evC_c, kSe_e, evS_set, kNx_e, kUn_e, evS_unp, kPr2_e, kPr_e, evS_par, kPx3_e, kPx2_e, kPx_e, evS_par3, kAu3_e, kAu2_e, kAu_e, evS_aug, kSx4_e, kSx3_e, kSx2_e, kSx_e, evS_setIx, kAp2_e, kAp_e, evS_app, kPo_e, evS_pop, kRe_e, evS_reverse, kEx_e, evS_ex, kIf2_t, kIf2_f, kIf_e, evS_ite, kRt_e, kRtV_e, evS_retV, evR_con, evR_bin, evR_neg, evR_cmp, evR_chain, evR_andV, evR_orV, evR_andT, evR_orT, evR_ite, evR_tup, evR_lst, evR_idx, evR_slc, evR_rev, evR_call, evR_draw, evR_blt, evR_not, evR_lc, evR_gen, evS_retN, evS_brk, evS_cnt, evS_pas, kSs_n, kSs_b, kSs_c, kSs_r, evSs_n, evSs_c, kFr_e, evS_For, kBd_e, contF_next, contF_cont, contF_brk, contF_ret, contW_next, contW_cont, contW_brk, contW_ret, evS_whl, kWh_t, kWh_f, kTv_e, rd_n, rd_s, rd_f, st_n, st_s, st_f, jo_n, jo_sn, ia_n, ia_s, sr_n, rs_n, rs_f, av_n, av_d, av_f, ds_n, ds_c, ag_n, ag_d, ag_f, ow_e, ow_l, tv_d, jo_ss, sr_s, rs_s, kIsx_e, evE_isx, kXf_e, evE_xfld, kIn_e, kCt3_e, kCt2_e, kCt_e, evE_count, kRz2_e, kRz_e, kTry_ok, kTry_exc, evS_try, kSu_ok, rd_x, ag_x, av_x, rs_x, R.ok_bind, R.exc_bind, R.stuck_bind, R.of_some, R.of_none, bindT, bindTs, flat, flatAll, List.getElem?_cons_zero, List.getElem?_cons_succ, List.set_cons_zero, List.set_cons_succ, alNew_none, alNew_some, alOp, datsV_star, datsV_star0, parV, bopD, addD, subD, mul_int, fdivD, modD, negD, copD, intsD, truD, idx_t0, idx_t1, idx_t2, idx_t3, idx_l0, idx_l1, idx_l2, idx_l3, idx_fr0, idx_fr1, flat_fr, bindT_fr, Option.getD_some, Option.getD_none, Option.map_some, Option.map_none, Option.bind_some, Option.bind_none, bl_len_t, bl_len_l, bl_abs, bl_int_i, bl_int_b, bl_bool_i, bl_bool_b, bl_list_t, bl_list_l, bl_tuple_t, bl_tuple_l, bl_isTup, bl_isInt, bl_isBool, bl_isStr, bl_isList, List.append_nil, List.nil_append, List.cons_append, Bool.false_eq_true, ite_true, ite_false, if_true, if_false, reduceIte, Bool.true_and, Bool.and_true, Bool.and_self, Bool.not_true, Bool.not_false, Bool.and_false, Bool.false_and, Bool.or_true, Bool.or_false, Bool.true_or, Bool.false_or, List.all_nil, List.all_cons, seqD, lstD, freeze, List.length_cons, List.length_nil, List.length_map, List.length_append, Nat.reduceAdd, Nat.reduceLeDiff, leS, okPut, wipeE, List.contains_cons, List.contains_nil, Nat.reduceBEq, eqD_fr, eqD_int, eqD_str, $xs,*])
section
variable {dr : Dr} {T : Tab} {k n m : Nat} {F : Feed} {a b q : Rat}
theorem lowest_loop {c : Cfg} {F : Feed} {x0 x1 : Option Val} : ∀ (n : Nat) (a b : Int), 0 ≤ a → 0 ≤ b → b.toNat = n → 
    loopW c (.cmp .gt (.var 3) (.con (.int 0))) (.cons (.par 2 3 (.var 3) (.bin .mod (.var 2) (.var 3))) .nil) [x0, x1, some (.dat (.int a) none), some (.dat (.int b) none)] F = .ok (.next [x0, x1, some (.dat (.int (Int.gcd a b)) none), some (.dat (.int 0) none)]) F := by
  intro n
  induction n using Nat.strongRecOn with
  | _ n ih =>
    intro a b ha hb hn
    rw [loopW_e]
    by_cases z : b = 0
    · subst z
      simp! only [Int.lt_irrefl, decide_false, Int.gcd_zero]
      rw [Int.natAbs_of_nonneg ha]
    · have hb0 : decide (0 < b) = true := decide_eq_true (by omega)
      have hm : 0 ≤ a.fmod b := Int.fmod_nonneg ha hb
      have hl : a.fmod b < b := Int.fmod_lt_of_pos a (by omega)
      have := ih (a.fmod b).toNat (by omega) b (a.fmod b) (by omega) hm rfl
      simp! only [hb0, z, ne_eq, not_false_eq_true, this, gcd_fmod ha (show 0 < b by omega)]
theorem lowest_ev [Has T "_law_lowest" g_lowest_1] {t b : Int} (hb : b ≠ 0) : evF dr T (k + 1) "_law_lowest" [.d (.int t), .d (.int b)] F = .ok (.dat (fr ((t : Rat) / (b : Rat))) none) F := by
  rw [evH (fn := g_lowest_1) rfl]
  show (evSs _ _ [some (.dat (.int t) (some [])), some (.dat (.int b) (some [])), none, none] F).bind _ = _
  have hl := lowest_loop (c := ⟨evF dr T k, dr⟩) (F := F) (x0 := some (.dat (.int t) (some []))) (x1 := some (.dat (.int b) (some []))) _ (if t < 0 then -t else t) (if b < 0 then -b else b) (GB.abs_nn t) (GB.abs_nn b) rfl
  have hg : ((if t < 0 then -t else t).gcd (if b < 0 then -b else b)) = Int.gcd t b := by
    rw [GB.gcd_abs, Int.gcd_comm, GB.gcd_abs, Int.gcd_comm]
  rw [hg] at hl
  have hnz : ¬ ((Int.gcd t b : Nat) : Int) = 0 := GB.gcd_ne hb
  have hnz2 : ¬ (0 - ((Int.gcd t b : Nat) : Int) = 0) := by omega
  obtain ⟨w1, w2⟩ := GB.low_rat (t := t) hb
  unfold GB.lo1 GB.sg at w1
  unfold GB.lo2 GB.sg at w2
  by_cases hp : b < 0
  · have hd : decide (b < 0) = true := decide_eq_true hp
    rw [if_pos hp, ← Int.zero_sub] at w1 w2
    simp! only [g_lowest_1, hl, hd, hnz2, ne_eq, not_false_eq_true]
    simp only [fr, w1, w2]
  · have hd : decide (b < 0) = false := decide_eq_false hp
    rw [if_neg hp] at w1 w2
    simp! only [g_lowest_1, hl, hd, hnz, ne_eq, not_false_eq_true]
    simp only [fr, w1, w2]
theorem numz (q : Rat) : decide (q.num = 0) = decide (q = 0) := by
  rw [Bool.eq_iff_iff]
  simp only [decide_eq_true_eq]
  exact Rat.num_eq_zero
theorem contrary_of_ev [Has T "contrary_of" f_p_contrary_of] : evF dr T (k + 1) "contrary_of" [.d (fr a)] F = .ok (.dat (fr (-a)) none) F := by
  rw [evH (fn := f_p_contrary_of) rfl]
  show (evSs _ _ [some (.dat (fr a) (some []))] F).bind _ = _
  obtain ⟨h1, h2⟩ := GB.neg_rat a
  have e : fr (-a) = .tuple [.int (-a.num), .int a.den] := by unfold fr; rw [h1, h2]
  rw [e]
  simp! only [f_p_contrary_of]
theorem fraction_of_ev [Has T "common_of" f_p_common_of] [Has T "fraction_of" f_p_fraction_of] {t b : Int} (hb : 0 < b) : evF dr T (k + 2) "fraction_of" [.d (.int t), .d (.int b)] F = .ok (.dat (fr ((t : Rat) / (b : Rat))) none) F := by
  rw [evH (fn := f_p_fraction_of) rfl]
  show (evSs _ _ [some (.dat (.int t) (some [])), some (.dat (.int b) (some [])), none] F).bind _ = _
  have hb0 : b ≠ 0 := by omega
  have hnz : ¬ ((Int.gcd t b : Nat) : Int) = 0 := GB.gcd_ne hb0
  obtain ⟨w1, w2⟩ := GB.low_rat (t := t) hb0
  unfold GB.lo1 GB.sg at w1
  unfold GB.lo2 GB.sg at w2
  rw [if_neg (by omega)] at w1 w2
  have e1 : decide (b = 0) = false := decide_eq_false hb0
  have e2 : decide (b < 0) = false := decide_eq_false (by omega)
  have hc := common_pos (T := T) (dr := dr) (k := k) (F := F) (GB.abs_nn t) hb
  rw [GB.gcd_abs] at hc
  simp! only [f_p_fraction_of, e1, e2, hc, hnz, ne_eq, not_false_eq_true]
  simp only [fr, w1, w2]
end
end Pv
namespace Pv
open PySem L2 GB
local macro_rules | `(tactic| simp! only [$xs,*]) => `(tactic| simp (config := {dsimp := false, implicitDefEqProofs := false}) only [kOut_n, kOut_r, kPut_e, kPl_e, kBo_e, kVar_e, evE_var, evE_con, kBin2_e, kBin_e, evE_bin, kNeg_e, evE_neg, kCmp2_e, kCmp_e, evE_cmp, kCh3_t, kCh3_f, kCh2_e, kCh_e, evE_chain, kAnd_t, kAnd_f, kOr_t, kOr_f, evE_andV, evE_orV, kTru_e, kAnT2_t, kAnT2_f, kOrT2_f, kOrT2_t, kAnT_e, evE_andT, kOrT_e, evE_orT, kNo2_e, kNot_e, evE_not, kIte2_t, kIte2_f, kIte_e, evE_ite, kT2_e, kT_e, evE_tup, kL2_e, kL_e, evE_lst, kItem_e, kIx2_e, kIx_e, evE_idx, kSl3_e, kSl2_e, kSl_e, evE_slc, kRv_e, evE_rev, kRes_e, kCl2_e, kCl_e, evE_call, kDr3_e, kDr2_e, kDr_e, evE_draw, kBl2_e, kBl_e, evE_blt, kLc_e, evE_Lc, kGe2_e, kGe_e, evE_Ge, kEl3_e, kEl2_t, kEl2_f, kEl_e, elemR_e, kEs2_e, kEs_e, evEs_n, evEs_c, kSt3_e, kSt2_e, kSt_e, evEs_s, kO_e, evO_n, evO_y, kIseq2_e, kIseq_e, evI_seq, kIenum2_e, kIenum_e, evI_enum, kIrev2_e, kIrev_e, evI_rev, kRg3_e, kRg2_e, kRg_e, evI_rng, kZ4_e, kZ3_e, kZ2_e, kZ_e, evI_zip, kC2_t, kC2_f, kC_e, evC_n, evC_c, kSe_e, evS_set, kNx_e, kUn_e, evS_unp, kPr2_e, kPr_e, evS_par, kPx3_e, kPx2_e, kPx_e, evS_par3, kAu3_e, kAu2_e, kAu_e, evS_aug, kSx4_e, kSx3_e, kSx2_e, kSx_e, evS_setIx, kAp2_e, kAp_e, evS_app, kPo_e, evS_pop, kRe_e, evS_reverse, kEx_e, evS_ex, kIf2_t, kIf2_f, kIf_e, evS_ite, kRt_e, kRtV_e, evS_retV, evR_con, evR_bin, evR_neg, evR_cmp, evR_chain, evR_andV, evR_orV, evR_andT, evR_orT, evR_ite, evR_tup, evR_lst, evR_idx, evR_slc, evR_rev, evR_call, evR_draw, evR_blt, evR_not, evR_lc, evR_gen, evS_retN, evS_brk, evS_cnt, evS_pas, kSs_n, kSs_b, kSs_c, kSs_r, evSs_n, evSs_c, kFr_e, evS_For, kBd_e, contF_next, contF_cont, contF_brk, contF_ret, contW_next, contW_cont, contW_brk, contW_ret, evS_whl, kWh_t, kWh_f, kTv_e, rd_n, rd_s, rd_f, st_n, st_s, st_f, jo_n, jo_sn, ia_n, ia_s, sr_n, rs_n, rs_f, av_n, av_d, av_f, ds_n, ds_c, ag_n, ag_d, ag_f, ow_e, ow_l, tv_d, jo_ss, sr_s, rs_s, kIsx_e, evE_isx, kXf_e, evE_xfld, kIn_e, kCt3_e, kCt2_e, kCt_e, evE_count, kRz2_e, kRz_e, kTry_ok, kTry_exc, evS_try, kSu_ok, rd_x, ag_x, av_x, rs_x, R.ok_bind, R.exc_bind, R.stuck_bind, R.of_some, R.of_none, bindT, bindTs, flat, flatAll, List.getElem?_cons_zero, List.getElem?_cons_succ, List.set_cons_zero, List.set_cons_succ, alNew_none, alNew_some, alOp, datsV_star, datsV_star0, parV, bopD, addD, subD, mul_int, fdivD, modD, negD, copD, intsD, truD, idx_t0, idx_t1, idx_t2, idx_t3, idx_l0, idx_l1, idx_l2, idx_l3, idx_fr0, idx_fr1, flat_fr, bindT_fr, Option.getD_some, Option.getD_none, Option.map_some, Option.map_none, Option.bind_some, Option.bind_none, bl_len_t, bl_len_l, bl_abs, bl_int_i, bl_int_b, bl_bool_i, bl_bool_b, bl_list_t, bl_list_l, bl_tuple_t, bl_tuple_l, bl_isTup, bl_isInt, bl_isBool, bl_isStr, bl_isList, List.append_nil, List.nil_append, List.cons_append, Bool.false_eq_true, ite_true, ite_false, if_true, if_false, reduceIte, Bool.true_and, Bool.and_true, Bool.and_self, Bool.not_true, Bool.not_false, Bool.and_false, Bool.false_and, Bool.or_true, Bool.or_false, Bool.true_or, Bool.false_or, List.all_nil, List.all_cons, seqD, lstD, freeze, List.length_cons, List.length_nil, List.length_map, List.length_append, Nat.reduceAdd, Nat.reduceLeDiff, leS, okPut, wipeE, List.contains_cons, List.contains_nil, Nat.reduceBEq, eqD_fr, eqD_int, eqD_str, $xs,*])
theorem bindT_nm {i : Nat} {d : PyData} {al : Al} {ρ : Env} : bindT (.nm i) d al ρ = some (store ρ i (.dat d al)) := rfl
theorem bindT_tp {ts : Tgs} {ds : List PyData} {al : Al} {ρ : Env} : bindT (.tp ts) (.tuple ds) al ρ = bindTs ts ds al ρ := rfl
class SzI (n : outParam Nat) (i : Int) : Prop where
  bd : i.natAbs < 2 ^ n
class PosI (i : Int) : Prop where
  pos : 0 < i
instance {n : Nat} {q : Rat} [h : Sz n q] : SzI n q.num := ⟨h.bd.1⟩
instance {n : Nat} {q : Rat} [h : Sz n q] : SzI n (q.den : Int) := ⟨den_bd h.bd⟩
instance {n m : Nat} {i j : Int} [h : SzI n i] [g : SzI m j] : SzI (n + m) (i * j) := ⟨mul_bd h.bd g.bd⟩
instance {n m : Nat} {i j : Int} [h : SzI n i] [g : SzI m j] : SzI (n + m + 1) (i + j) := ⟨by
  have h1 : i.natAbs < 2 ^ (n + m) := Nat.lt_of_lt_of_le h.bd (Nat.pow_le_pow_right (by decide) (by omega))
  have h2 : j.natAbs < 2 ^ (n + m) := Nat.lt_of_lt_of_le g.bd (Nat.pow_le_pow_right (by decide) (by omega))
  exact (add_bd h1 h2).1⟩
instance {q : Rat} : PosI (q.den : Int) := ⟨GB.pos_den q⟩
instance {i j : Int} [h : PosI i] [g : PosI j] : PosI (i * j) := ⟨Int.mul_pos h.pos g.pos⟩
theorem numden (q : Rat) : ((q.num : Rat)) / (((q.den : Int)) : Rat) = q := by
  have f1 := GB.num_eq q
  have d1 := GB.den_ne q
  simp only [Rat.intCast_natCast, f1]
  grind
noncomputable def kMp (f : PyData → Feed → R (Option (PyData × Al))) (xs : List PyData) (F : Feed) : R (Option (PyData × Al)) → Option (List PyData)
  | .ok (some q) F1 => (open Classical in if F1 = F then (mapP f xs F).map (q.1 :: ·) else none)
  | _ => none
theorem nz1 : ((1 : Int) != 0) = true := rfl
def mirL : List Rat → List Rat
  | [a, b, c, d] => [a, -b, c, -d]
  | [a, b, c] => [a, -b, c]
  | [a, b] => [a, -b]
  | [a] => [a]
  | _ => []
def slopL : List Rat → List Rat
  | [_, b, c, d] => [((1 : Int) : Rat) * b, ((2 : Int) : Rat) * c, ((3 : Int) : Rat) * d]
  | [_, b, c] => [((1 : Int) : Rat) * b, ((2 : Int) : Rat) * c]
  | [_, b] => [((1 : Int) : Rat) * b]
  | _ => []
instance : Sz 1 ((1 : Int) : Rat) := ⟨⟨by decide, by decide⟩⟩
instance : Sz 2 ((2 : Int) : Rat) := ⟨⟨by decide, by decide⟩⟩
instance : Sz 2 ((3 : Int) : Rat) := ⟨⟨by decide, by decide⟩⟩
section
variable {dr : Dr} {T : Tab} {k n m : Nat} {F : Feed} {a b q : Rat}
end
end Pv
namespace Pv
open PySem L2 GB
local macro_rules | `(tactic| simp! only [$xs,*]) => `(tactic| simp (config := {dsimp := false, implicitDefEqProofs := false}) only [kOut_n, kOut_r, kPut_e, kPl_e, kBo_e, kVar_e, evE_var, evE_con, kBin2_e, kBin_e, evE_bin, kNeg_e, evE_neg, kCmp2_e, kCmp_e, evE_cmp, kCh3_t, kCh3_f, kCh2_e, kCh_e, evE_chain, kAnd_t, kAnd_f, kOr_t, kOr_f, evE_andV, evE_orV, kTru_e, kAnT2_t, kAnT2_f, kOrT2_f, kOrT2_t, kAnT_e, evE_andT, kOrT_e, evE_orT, kNo2_e, kNot_e, evE_not, kIte2_t, kIte2_f, kIte_e, evE_ite, kT2_e, kT_e, evE_tup, kL2_e, kL_e, evE_lst, kItem_e, kIx2_e, kIx_e, evE_idx, kSl3_e, kSl2_e, kSl_e, evE_slc, kRv_e, evE_rev, kRes_e, kCl2_e, kCl_e, evE_call, kDr3_e, kDr2_e, kDr_e, evE_draw, kBl2_e, kBl_e, evE_blt, kLc_e, evE_Lc, kGe2_e, kGe_e, evE_Ge, kEl3_e, kEl2_t, kEl2_f, kEl_e, elemR_e, kEs2_e, kEs_e, evEs_n, evEs_c, kSt3_e, kSt2_e, kSt_e, evEs_s, kO_e, evO_n, evO_y, kIseq2_e, kIseq_e, evI_seq, kIenum2_e, kIenum_e, evI_enum, kIrev2_e, kIrev_e, evI_rev, kRg3_e, kRg2_e, kRg_e, evI_rng, kZ4_e, kZ3_e, kZ2_e, kZ_e, evI_zip, kC2_t, kC2_f, kC_e, evC_n, evC_c, kSe_e, evS_set, kNx_e, kUn_e, evS_unp, kPr2_e, kPr_e, evS_par, kPx3_e, kPx2_e, kPx_e, evS_par3, kAu3_e, kAu2_e, kAu_e, evS_aug, kSx4_e, kSx3_e, kSx2_e, kSx_e, evS_setIx, kAp2_e, kAp_e, evS_app, kPo_e, evS_pop, kRe_e, evS_reverse, kEx_e, evS_ex, kIf2_t, kIf2_f, kIf_e, evS_ite, kRt_e, kRtV_e, evS_retV, evR_con, evR_bin, evR_neg, evR_cmp, evR_chain, evR_andV, evR_orV, evR_andT, evR_orT, evR_ite, evR_tup, evR_lst, evR_idx, evR_slc, evR_rev, evR_call, evR_draw, evR_blt, evR_not, evR_lc, evR_gen, evS_retN, evS_brk, evS_cnt, evS_pas, kSs_n, kSs_b, kSs_c, kSs_r, evSs_n, evSs_c, kFr_e, evS_For, kBd_e, contF_next, contF_cont, contF_brk, contF_ret, contW_next, contW_cont, contW_brk, contW_ret, evS_whl, kWh_t, kWh_f, kTv_e, rd_n, rd_s, rd_f, st_n, st_s, st_f, jo_n, jo_sn, ia_n, ia_s, sr_n, rs_n, rs_f, av_n, av_d, av_f, ds_n, ds_c, ag_n, ag_d, ag_f, ow_e, ow_l, tv_d, jo_ss, sr_s, rs_s, kIsx_e, evE_isx, kXf_e, evE_xfld, kIn_e, kCt3_e, kCt2_e, kCt_e, evE_count, kRz2_e, kRz_e, kTry_ok, kTry_exc, evS_try, kSu_ok, rd_x, ag_x, av_x, rs_x, R.ok_bind, R.exc_bind, R.stuck_bind, R.of_some, R.of_none, bindTs, flat, flatAll, List.getElem?_cons_zero, List.getElem?_cons_succ, List.set_cons_zero, List.set_cons_succ, alNew_none, alNew_some, alOp, datsV_star, datsV_star0, parV, bopD, addD, subD, mul_int, fdivD, modD, negD, copD, intsD, truD, idx_t0, idx_t1, idx_t2, idx_t3, idx_l0, idx_l1, idx_l2, idx_l3, idx_fr0, idx_fr1, flat_fr, bindT_fr, Option.getD_some, Option.getD_none, Option.map_some, Option.map_none, Option.bind_some, Option.bind_none, bl_len_t, bl_len_l, bl_abs, bl_int_i, bl_int_b, bl_bool_i, bl_bool_b, bl_list_t, bl_list_l, bl_tuple_t, bl_tuple_l, bl_isTup, bl_isInt, bl_isBool, bl_isStr, bl_isList, List.append_nil, List.nil_append, List.cons_append, Bool.false_eq_true, ite_true, ite_false, if_true, if_false, reduceIte, Bool.true_and, Bool.and_true, Bool.and_self, Bool.not_true, Bool.not_false, Bool.and_false, Bool.false_and, Bool.or_true, Bool.or_false, Bool.true_or, Bool.false_or, List.all_nil, List.all_cons, seqD, lstD, freeze, List.length_cons, List.length_nil, List.length_map, List.length_append, Nat.reduceAdd, Nat.reduceLeDiff, leS, okPut, wipeE, List.contains_cons, List.contains_nil, Nat.reduceBEq, eqD_fr, eqD_int, eqD_str, bindT_nm, bindT_tp, $xs,*])
def tayL (t : Rat) : List Rat → List Rat
  | [a, b, c, d] => [a + b * t + c * t * t + d * t * t * t, b + 2 * c * t + 3 * d * t * t, c + 3 * d * t, d]
  | [a, b, c] => [a + b * t + c * t * t, b + 2 * c * t, c]
  | [a, b] => [a + b * t, b]
  | [a] => [a]
  | _ => []
def prdL : List Rat → List Rat → List Rat
  | [a, b, c, d], [x] => [(0 + a * x), (0 + b * x), (0 + c * x), (0 + d * x)]
  | [a, b, c], [x, y] => [(0 + a * x), ((0 + a * y) + b * x), ((0 + b * y) + c * x), (0 + c * y)]
  | [a, b, c], [x] => [(0 + a * x), (0 + b * x), (0 + c * x)]
  | [a, b], [x, y, z] => [(0 + a * x), ((0 + a * y) + b * x), ((0 + a * z) + b * y), (0 + b * z)]
  | [a, b], [x, y] => [(0 + a * x), ((0 + a * y) + b * x), (0 + b * y)]
  | [a, b], [x] => [(0 + a * x), (0 + b * x)]
  | [a], [x, y, z, w] => [(0 + a * x), (0 + a * y), (0 + a * z), (0 + a * w)]
  | [a], [x, y, z] => [(0 + a * x), (0 + a * y), (0 + a * z)]
  | [a], [x, y] => [(0 + a * x), (0 + a * y)]
  | [a], [x] => [(0 + a * x)]
  | _, _ => []
section
variable {dr : Dr} {T : Tab} {k n m : Nat} {F : Feed} {a b q t : Rat}
end
end Pv
namespace Pv
open PySem L2 GB
local macro_rules | `(tactic| simp! only [$xs,*]) => `(tactic| simp (config := {dsimp := false, implicitDefEqProofs := false}) only [kOut_n, kOut_r, kPut_e, kPl_e, kBo_e, kVar_e, evE_var, evE_con, kBin2_e, kBin_e, evE_bin, kNeg_e, evE_neg, kCmp2_e, kCmp_e, evE_cmp, kCh3_t, kCh3_f, kCh2_e, kCh_e, evE_chain, kAnd_t, kAnd_f, kOr_t, kOr_f, evE_andV, evE_orV, kTru_e, kAnT2_t, kAnT2_f, kOrT2_f, kOrT2_t, kAnT_e, evE_andT, kOrT_e, evE_orT, kNo2_e, kNot_e, evE_not, kIte2_t, kIte2_f, kIte_e, evE_ite, kT2_e, kT_e, evE_tup, kL2_e, kL_e, evE_lst, kItem_e, kIx2_e, kIx_e, evE_idx, kSl3_e, kSl2_e, kSl_e, evE_slc, kRv_e, evE_rev, kRes_e, kCl2_e, kCl_e, evE_call, kDr3_e, kDr2_e, kDr_e, evE_draw, kBl2_e, kBl_e, evE_blt, kLc_e, evE_Lc, kGe2_e, kGe_e, evE_Ge, kEl3_e, kEl2_t, kEl2_f, kEl_e, elemR_e, kEs2_e, kEs_e, evEs_n, evEs_c, kSt3_e, kSt2_e, kSt_e, evEs_s, kO_e, evO_n, evO_y, kIseq2_e, kIseq_e, evI_seq, kIenum2_e, kIenum_e, evI_enum, kIrev2_e, kIrev_e, evI_rev, kRg3_e, kRg2_e, kRg_e, evI_rng, kZ4_e, kZ3_e, kZ2_e, kZ_e, evI_zip, kC2_t, kC2_f, kC_e, evC_n, evC_c, kSe_e, evS_set, kNx_e, kUn_e, evS_unp, kPr2_e, kPr_e, evS_par, kPx3_e, kPx2_e, kPx_e, evS_par3, kAu3_e, kAu2_e, kAu_e, evS_aug, kSx4_e, kSx3_e, kSx2_e, kSx_e, evS_setIx, kAp2_e, kAp_e, evS_app, kPo_e, evS_pop, kRe_e, evS_reverse, kEx_e, evS_ex, kIf2_t, kIf2_f, kIf_e, evS_ite, kRt_e, kRtV_e, evS_retV, evR_con, evR_bin, evR_neg, evR_cmp, evR_chain, evR_andV, evR_orV, evR_andT, evR_orT, evR_ite, evR_tup, evR_lst, evR_idx, evR_slc, evR_rev, evR_call, evR_draw, evR_blt, evR_not, evR_lc, evR_gen, evS_retN, evS_brk, evS_cnt, evS_pas, kSs_n, kSs_b, kSs_c, kSs_r, evSs_n, evSs_c, kFr_e, evS_For, kBd_e, contF_next, contF_cont, contF_brk, contF_ret, contW_next, contW_cont, contW_brk, contW_ret, evS_whl, kWh_t, kWh_f, kTv_e, rd_n, rd_s, rd_f, st_n, st_s, st_f, jo_n, jo_sn, ia_n, ia_s, sr_n, rs_n, rs_f, av_n, av_d, av_f, ds_n, ds_c, ag_n, ag_d, ag_f, ow_e, ow_l, tv_d, jo_ss, sr_s, rs_s, kIsx_e, evE_isx, kXf_e, evE_xfld, kIn_e, kCt3_e, kCt2_e, kCt_e, evE_count, kRz2_e, kRz_e, kTry_ok, kTry_exc, evS_try, kSu_ok, rd_x, ag_x, av_x, rs_x, R.ok_bind, R.exc_bind, R.stuck_bind, R.of_some, R.of_none, bindTs, flat, flatAll, List.getElem?_cons_zero, List.getElem?_cons_succ, List.set_cons_zero, List.set_cons_succ, alNew_none, alNew_some, alOp, datsV_star, datsV_star0, parV, bopD, addD, subD, mul_int, fdivD, modD, negD, copD, intsD, truD, idx_t0, idx_t1, idx_t2, idx_t3, idx_l0, idx_l1, idx_l2, idx_l3, idx_fr0, idx_fr1, flat_fr, bindT_fr, Option.getD_some, Option.getD_none, Option.map_some, Option.map_none, Option.bind_some, Option.bind_none, bl_len_t, bl_len_l, bl_abs, bl_int_i, bl_int_b, bl_bool_i, bl_bool_b, bl_list_t, bl_list_l, bl_tuple_t, bl_tuple_l, bl_isTup, bl_isInt, bl_isBool, bl_isStr, bl_isList, List.append_nil, List.nil_append, List.cons_append, Bool.false_eq_true, ite_true, ite_false, if_true, if_false, reduceIte, Bool.true_and, Bool.and_true, Bool.and_self, Bool.not_true, Bool.not_false, Bool.and_false, Bool.false_and, Bool.or_true, Bool.or_false, Bool.true_or, Bool.false_or, List.all_nil, List.all_cons, seqD, lstD, freeze, List.length_cons, List.length_nil, List.length_map, List.length_append, Nat.reduceAdd, Nat.reduceLeDiff, leS, okPut, wipeE, List.contains_cons, List.contains_nil, Nat.reduceBEq, eqD_fr, eqD_int, eqD_str, bindT_nm, bindT_tp, $xs,*])
section
variable {dr : Dr} {T : Tab} {k n m : Nat} {F : Feed} {a b q t : Rat}
end
end Pv
namespace Pv
open PySem L2 GB
local macro_rules | `(tactic| simp! only [$xs,*]) => `(tactic| simp (config := {dsimp := false, implicitDefEqProofs := false}) only [kOut_n, kOut_r, kPut_e, kPl_e, kBo_e, kVar_e, evE_var, evE_con, kBin2_e, kBin_e, evE_bin, kNeg_e, evE_neg, kCmp2_e, kCmp_e, evE_cmp, kCh3_t, kCh3_f, kCh2_e, kCh_e, evE_chain, kAnd_t, kAnd_f, kOr_t, kOr_f, evE_andV, evE_orV, kTru_e, kAnT2_t, kAnT2_f, kOrT2_f, kOrT2_t, kAnT_e, evE_andT, kOrT_e, evE_orT, kNo2_e, kNot_e, evE_not, kIte2_t, kIte2_f, kIte_e, evE_ite, kT2_e, kT_e, evE_tup, kL2_e, kL_e, evE_lst, kItem_e, kIx2_e, kIx_e, evE_idx, kSl3_e, kSl2_e, kSl_e, evE_slc, kRv_e, evE_rev, kRes_e, kCl2_e, kCl_e, evE_call, kDr3_e, kDr2_e, kDr_e, evE_draw, kBl2_e, kBl_e, evE_blt, kLc_e, evE_Lc, kGe2_e, kGe_e, evE_Ge, kEl3_e, kEl2_t, kEl2_f, kEl_e, elemR_e, kEs2_e, kEs_e, evEs_n, evEs_c, kSt3_e, kSt2_e, kSt_e, evEs_s, kO_e, evO_n, evO_y, kIseq2_e, kIseq_e, evI_seq, kIenum2_e, kIenum_e, evI_enum, kIrev2_e, kIrev_e, evI_rev, kRg3_e, kRg2_e, kRg_e, evI_rng, kZ4_e, kZ3_e, kZ2_e, kZ_e, evI_zip, kC2_t, kC2_f, kC_e, evC_n, evC_c, kSe_e, evS_set, kNx_e, kUn_e, evS_unp, kPr2_e, kPr_e, evS_par, kPx3_e, kPx2_e, kPx_e, evS_par3, kAu3_e, kAu2_e, kAu_e, evS_aug, kSx4_e, kSx3_e, kSx2_e, kSx_e, evS_setIx, kAp2_e, kAp_e, evS_app, kPo_e, evS_pop, kRe_e, evS_reverse, kEx_e, evS_ex, kIf2_t, kIf2_f, kIf_e, evS_ite, kRt_e, kRtV_e, evS_retV, evR_con, evR_bin, evR_neg, evR_cmp, evR_chain, evR_andV, evR_orV, evR_andT, evR_orT, evR_ite, evR_tup, evR_lst, evR_idx, evR_slc, evR_rev, evR_call, evR_draw, evR_blt, evR_not, evR_lc, evR_gen, evS_retN, evS_brk, evS_cnt, evS_pas, kSs_n, kSs_b, kSs_c, kSs_r, evSs_n, evSs_c, kFr_e, evS_For, kBd_e, contF_next, contF_cont, contF_brk, contF_ret, contW_next, contW_cont, contW_brk, contW_ret, evS_whl, kWh_t, kWh_f, kTv_e, rd_n, rd_s, rd_f, st_n, st_s, st_f, jo_n, jo_sn, ia_n, ia_s, sr_n, rs_n, rs_f, av_n, av_d, av_f, ds_n, ds_c, ag_n, ag_d, ag_f, ow_e, ow_l, tv_d, jo_ss, sr_s, rs_s, kIsx_e, evE_isx, kXf_e, evE_xfld, kIn_e, kCt3_e, kCt2_e, kCt_e, evE_count, kRz2_e, kRz_e, kTry_ok, kTry_exc, evS_try, kSu_ok, rd_x, ag_x, av_x, rs_x, R.ok_bind, R.exc_bind, R.stuck_bind, R.of_some, R.of_none, bindTs, flat, flatAll, List.getElem?_cons_zero, List.getElem?_cons_succ, List.set_cons_zero, List.set_cons_succ, alNew_none, alNew_some, alOp, datsV_star, datsV_star0, parV, bopD, addD, subD, mul_int, fdivD, modD, negD, copD, intsD, truD, idx_t0, idx_t1, idx_t2, idx_t3, idx_l0, idx_l1, idx_l2, idx_l3, idx_fr0, idx_fr1, flat_fr, bindT_fr, Option.getD_some, Option.getD_none, Option.map_some, Option.map_none, Option.bind_some, Option.bind_none, bl_len_t, bl_len_l, bl_abs, bl_int_i, bl_int_b, bl_bool_i, bl_bool_b, bl_list_t, bl_list_l, bl_tuple_t, bl_tuple_l, bl_isTup, bl_isInt, bl_isBool, bl_isStr, bl_isList, List.append_nil, List.nil_append, List.cons_append, Bool.false_eq_true, ite_true, ite_false, if_true, if_false, reduceIte, Bool.true_and, Bool.and_true, Bool.and_self, Bool.not_true, Bool.not_false, Bool.and_false, Bool.false_and, Bool.or_true, Bool.or_false, Bool.true_or, Bool.false_or, List.all_nil, List.all_cons, seqD, lstD, freeze, List.length_cons, List.length_nil, List.length_map, List.length_append, Nat.reduceAdd, Nat.reduceLeDiff, leS, okPut, wipeE, List.contains_cons, List.contains_nil, Nat.reduceBEq, eqD_fr, eqD_int, eqD_str, bindT_nm, bindT_tp, $xs,*])
instance : Sz 1 ((0 : Int) : Rat) := ⟨⟨by decide, by decide⟩⟩
section
variable {dr : Dr} {T : Tab} {k n m : Nat} {F : Feed} {a b q t : Rat}
end
end Pv
namespace Pv
open PySem L2 GB
local macro_rules | `(tactic| simp! only [$xs,*]) => `(tactic| simp (config := {dsimp := false, implicitDefEqProofs := false}) only [kOut_n, kOut_r, kPut_e, kPl_e, kBo_e, kVar_e, evE_var, evE_con, kBin2_e, kBin_e, evE_bin, kNeg_e, evE_neg, kCmp2_e, kCmp_e, evE_cmp, kCh3_t, kCh3_f, kCh2_e, kCh_e, evE_chain, kAnd_t, kAnd_f, kOr_t, kOr_f, evE_andV, evE_orV, kTru_e, kAnT2_t, kAnT2_f, kOrT2_f, kOrT2_t, kAnT_e, evE_andT, kOrT_e, evE_orT, kNo2_e, kNot_e, evE_not, kIte2_t, kIte2_f, kIte_e, evE_ite, kT2_e, kT_e, evE_tup, kL2_e, kL_e, evE_lst, kItem_e, kIx2_e, kIx_e, evE_idx, kSl3_e, kSl2_e, kSl_e, evE_slc, kRv_e, evE_rev, kRes_e, kCl2_e, kCl_e, evE_call, kDr3_e, kDr2_e, kDr_e, evE_draw, kBl2_e, kBl_e, evE_blt, kLc_e, evE_Lc, kGe2_e, kGe_e, evE_Ge, kEl3_e, kEl2_t, kEl2_f, kEl_e, elemR_e, kEs2_e, kEs_e, evEs_n, evEs_c, kSt3_e, kSt2_e, kSt_e, evEs_s, kO_e, evO_n, evO_y, kIseq2_e, kIseq_e, evI_seq, kIenum2_e, kIenum_e, evI_enum, kIrev2_e, kIrev_e, evI_rev, kRg3_e, kRg2_e, kRg_e, evI_rng, kZ4_e, kZ3_e, kZ2_e, kZ_e, evI_zip, kC2_t, kC2_f, kC_e, evC_n, evC_c, kSe_e, evS_set, kNx_e, kUn_e, evS_unp, kPr2_e, kPr_e, evS_par, kPx3_e, kPx2_e, kPx_e, evS_par3, kAu3_e, kAu2_e, kAu_e, evS_aug, kSx4_e, kSx3_e, kSx2_e, kSx_e, evS_setIx, kAp2_e, kAp_e, evS_app, kPo_e, evS_pop, kRe_e, evS_reverse, kEx_e, evS_ex, kIf2_t, kIf2_f, kIf_e, evS_ite, kRt_e, kRtV_e, evS_retV, evR_con, evR_bin, evR_neg, evR_cmp, evR_chain, evR_andV, evR_orV, evR_andT, evR_orT, evR_ite, evR_tup, evR_lst, evR_idx, evR_slc, evR_rev, evR_call, evR_draw, evR_blt, evR_not, evR_lc, evR_gen, evS_retN, evS_brk, evS_cnt, evS_pas, kSs_n, kSs_b, kSs_c, kSs_r, evSs_n, evSs_c, kFr_e, evS_For, kBd_e, contF_next, contF_cont, contF_brk, contF_ret, contW_next, contW_cont, contW_brk, contW_ret, evS_whl, kWh_t, kWh_f, kTv_e, rd_n, rd_s, rd_f, st_n, st_s, st_f, jo_n, jo_sn, ia_n, ia_s, sr_n, rs_n, rs_f, av_n, av_d, av_f, ds_n, ds_c, ag_n, ag_d, ag_f, ow_e, ow_l, tv_d, jo_ss, sr_s, rs_s, kIsx_e, evE_isx, kXf_e, evE_xfld, kIn_e, kCt3_e, kCt2_e, kCt_e, evE_count, kRz2_e, kRz_e, kTry_ok, kTry_exc, evS_try, kSu_ok, rd_x, ag_x, av_x, rs_x, R.ok_bind, R.exc_bind, R.stuck_bind, R.of_some, R.of_none, bindTs, flat, flatAll, List.getElem?_cons_zero, List.getElem?_cons_succ, List.set_cons_zero, List.set_cons_succ, alNew_none, alNew_some, alOp, datsV_star, datsV_star0, parV, bopD, addD, subD, mul_int, fdivD, modD, negD, copD, intsD, truD, idx_t0, idx_t1, idx_t2, idx_t3, idx_l0, idx_l1, idx_l2, idx_l3, idx_fr0, idx_fr1, flat_fr, bindT_fr, Option.getD_some, Option.getD_none, Option.map_some, Option.map_none, Option.bind_some, Option.bind_none, bl_len_t, bl_len_l, bl_abs, bl_int_i, bl_int_b, bl_bool_i, bl_bool_b, bl_list_t, bl_list_l, bl_tuple_t, bl_tuple_l, bl_isTup, bl_isInt, bl_isBool, bl_isStr, bl_isList, List.append_nil, List.nil_append, List.cons_append, Bool.false_eq_true, ite_true, ite_false, if_true, if_false, reduceIte, Bool.true_and, Bool.and_true, Bool.and_self, Bool.not_true, Bool.not_false, Bool.and_false, Bool.false_and, Bool.or_true, Bool.or_false, Bool.true_or, Bool.false_or, List.all_nil, List.all_cons, seqD, lstD, freeze, List.length_cons, List.length_nil, List.length_map, List.length_append, Nat.reduceAdd, Nat.reduceLeDiff, leS, okPut, wipeE, List.contains_cons, List.contains_nil, Nat.reduceBEq, eqD_fr, eqD_int, eqD_str, bindT_nm, bindT_tp, $xs,*])
noncomputable def kMr (f : PyData → Feed → R (Option (PyData × Al))) (xs : List PyData) : R (Option (PyData × Al)) → R (List PyData × Al)
  | .ok o F1 => (match mapR f xs F1 with
      | .ok p F2 => .ok (match o with
        | some q => (q.1 :: p.1, joinAl q.2 p.2)
        | none => p) F2
      | _ => .stuck)
  | _ => .stuck
noncomputable def kMs (d : PyData) (al : Al) (p : List PyData × Al) (F : Feed) : R (List PyData × Al) := .ok (d :: p.1, joinAl al p.2) F
def polD (cs : List Rat) : PyData := .tuple (cs.map fr)
def rowD (xs : List Rat) (ps : List (List Rat)) : PyData := .tuple [.tuple (xs.map fr), .tuple (ps.map polD)]
def pa (ps : List (List Rat)) (k : Nat) : List Rat := ps[k]?.getD []
section
variable {dr : Dr} {T : Tab} {k n m : Nat} {F : Feed} {a b q t : Rat}
theorem minus_by_ev [Has T "common_of" f_p_common_of] [Has T "plus_by" f_p_plus_by] [Has T "contrary_of" f_p_contrary_of] [Has T "minus_by" f_p_minus_by] [ha : Sz n a] [hb : Sz m b] (h : n + m < 100000000) : evF dr T (k + 3) "minus_by" [.d (fr a), .d (fr b)] F = .ok (.dat (fr (a - b)) none) F := by
  rw [evH (fn := f_p_minus_by) rfl]
  show (evSs _ _ [some (.dat (fr a) (some [])), some (.dat (fr b) (some []))] F).bind _ = _
  have e : a - b = a + -b := Rat.sub_eq_add_neg a b
  rw [e]
  simp! only [f_p_minus_by, contrary_of_ev, plus_by_ev h]
def Inc (xs : List Rat) : Prop := ∀ i j, i < j → j < xs.length → nA xs i < nA xs j
end
end Pv
namespace Pv
open PySem L2 GB
local macro_rules | `(tactic| simp! only [$xs,*]) => `(tactic| simp (config := {dsimp := false, implicitDefEqProofs := false}) only [kOut_n, kOut_r, kPut_e, kPl_e, kBo_e, kVar_e, evE_var, evE_con, kBin2_e, kBin_e, evE_bin, kNeg_e, evE_neg, kCmp2_e, kCmp_e, evE_cmp, kCh3_t, kCh3_f, kCh2_e, kCh_e, evE_chain, kAnd_t, kAnd_f, kOr_t, kOr_f, evE_andV, evE_orV, kTru_e, kAnT2_t, kAnT2_f, kOrT2_f, kOrT2_t, kAnT_e, evE_andT, kOrT_e, evE_orT, kNo2_e, kNot_e, evE_not, kIte2_t, kIte2_f, kIte_e, evE_ite, kT2_e, kT_e, evE_tup, kL2_e, kL_e, evE_lst, kItem_e, kIx2_e, kIx_e, evE_idx, kSl3_e, kSl2_e, kSl_e, evE_slc, kRv_e, evE_rev, kRes_e, kCl2_e, kCl_e, evE_call, kDr3_e, kDr2_e, kDr_e, evE_draw, kBl2_e, kBl_e, evE_blt, kLc_e, evE_Lc, kGe2_e, kGe_e, evE_Ge, kEl3_e, kEl2_t, kEl2_f, kEl_e, elemR_e, kEs2_e, kEs_e, evEs_n, evEs_c, kSt3_e, kSt2_e, kSt_e, evEs_s, kO_e, evO_n, evO_y, kIseq2_e, kIseq_e, evI_seq, kIenum2_e, kIenum_e, evI_enum, kIrev2_e, kIrev_e, evI_rev, kRg3_e, kRg2_e, kRg_e, evI_rng, kZ4_e, kZ3_e, kZ2_e, kZ_e, evI_zip, kC2_t, kC2_f, kC_e, evC_n, evC_c, kSe_e, evS_set, kNx_e, kUn_e, evS_unp, kPr2_e, kPr_e, evS_par, kPx3_e, kPx2_e, kPx_e, evS_par3, kAu3_e, kAu2_e, kAu_e, evS_aug, kSx4_e, kSx3_e, kSx2_e, kSx_e, evS_setIx, kAp2_e, kAp_e, evS_app, kPo_e, evS_pop, kRe_e, evS_reverse, kEx_e, evS_ex, kIf2_t, kIf2_f, kIf_e, evS_ite, kRt_e, kRtV_e, evS_retV, evR_con, evR_bin, evR_neg, evR_cmp, evR_chain, evR_andV, evR_orV, evR_andT, evR_orT, evR_ite, evR_tup, evR_lst, evR_idx, evR_slc, evR_rev, evR_call, evR_draw, evR_blt, evR_not, evR_lc, evR_gen, evS_retN, evS_brk, evS_cnt, evS_pas, kSs_n, kSs_b, kSs_c, kSs_r, evSs_n, evSs_c, kFr_e, evS_For, kBd_e, contF_next, contF_cont, contF_brk, contF_ret, contW_next, contW_cont, contW_brk, contW_ret, evS_whl, kWh_t, kWh_f, kTv_e, rd_n, rd_s, rd_f, st_n, st_s, st_f, jo_n, jo_sn, ia_n, ia_s, sr_n, rs_n, rs_f, av_n, av_d, av_f, ds_n, ds_c, ag_n, ag_d, ag_f, ow_e, ow_l, tv_d, jo_ss, sr_s, rs_s, kIsx_e, evE_isx, kXf_e, evE_xfld, kIn_e, kCt3_e, kCt2_e, kCt_e, evE_count, kRz2_e, kRz_e, kTry_ok, kTry_exc, evS_try, kSu_ok, rd_x, ag_x, av_x, rs_x, R.ok_bind, R.exc_bind, R.stuck_bind, R.of_some, R.of_none, bindTs, flat, flatAll, List.getElem?_cons_zero, List.getElem?_cons_succ, List.set_cons_zero, List.set_cons_succ, alNew_none, alNew_some, alOp, datsV_star, datsV_star0, parV, bopD, addD, subD, mul_int, fdivD, modD, negD, copD, intsD, truD, idx_t0, idx_t1, idx_t2, idx_t3, idx_l0, idx_l1, idx_l2, idx_l3, idx_fr0, idx_fr1, flat_fr, bindT_fr, Option.getD_some, Option.getD_none, Option.map_some, Option.map_none, Option.bind_some, Option.bind_none, bl_len_t, bl_len_l, bl_abs, bl_int_i, bl_int_b, bl_bool_i, bl_bool_b, bl_list_t, bl_list_l, bl_tuple_t, bl_tuple_l, bl_isTup, bl_isInt, bl_isBool, bl_isStr, bl_isList, List.append_nil, List.nil_append, List.cons_append, Bool.false_eq_true, ite_true, ite_false, if_true, if_false, reduceIte, Bool.true_and, Bool.and_true, Bool.and_self, Bool.not_true, Bool.not_false, Bool.and_false, Bool.false_and, Bool.or_true, Bool.or_false, Bool.true_or, Bool.false_or, List.all_nil, List.all_cons, seqD, lstD, freeze, List.length_cons, List.length_nil, List.length_map, List.length_append, Nat.reduceAdd, Nat.reduceLeDiff, leS, okPut, wipeE, List.contains_cons, List.contains_nil, Nat.reduceBEq, eqD_fr, eqD_int, eqD_str, bindT_nm, bindT_tp, $xs,*])
section
variable {dr : Dr} {T : Tab} {k n m : Nat} {F : Feed} {a b q t : Rat}
end
end Pv
namespace Pv
open PySem L2 GB
local macro_rules | `(tactic| simp! only [$xs,*]) => `(tactic| simp (config := {dsimp := false, implicitDefEqProofs := false}) only [kOut_n, kOut_r, kPut_e, kPl_e, kBo_e, kVar_e, evE_var, evE_con, kBin2_e, kBin_e, evE_bin, kNeg_e, evE_neg, kCmp2_e, kCmp_e, evE_cmp, kCh3_t, kCh3_f, kCh2_e, kCh_e, evE_chain, kAnd_t, kAnd_f, kOr_t, kOr_f, evE_andV, evE_orV, kTru_e, kAnT2_t, kAnT2_f, kOrT2_f, kOrT2_t, kAnT_e, evE_andT, kOrT_e, evE_orT, kNo2_e, kNot_e, evE_not, kIte2_t, kIte2_f, kIte_e, evE_ite, kT2_e, kT_e, evE_tup, kL2_e, kL_e, evE_lst, kItem_e, kIx2_e, kIx_e, evE_idx, kSl3_e, kSl2_e, kSl_e, evE_slc, kRv_e, evE_rev, kRes_e, kCl2_e, kCl_e, evE_call, kDr3_e, kDr2_e, kDr_e, evE_draw, kBl2_e, kBl_e, evE_blt, kLc_e, evE_Lc, kGe2_e, kGe_e, evE_Ge, kEl3_e, kEl2_t, kEl2_f, kEl_e, elemR_e, kEs2_e, kEs_e, evEs_n, evEs_c, kSt3_e, kSt2_e, kSt_e, evEs_s, kO_e, evO_n, evO_y, kIseq2_e, kIseq_e, evI_seq, kIenum2_e, kIenum_e, evI_enum, kIrev2_e, kIrev_e, evI_rev, kRg3_e, kRg2_e, kRg_e, evI_rng, kZ4_e, kZ3_e, kZ2_e, kZ_e, evI_zip, kC2_t, kC2_f, kC_e, evC_n, evC_c, kSe_e, evS_set, kNx_e, kUn_e, evS_unp, kPr2_e, kPr_e, evS_par, kPx3_e, kPx2_e, kPx_e, evS_par3, kAu3_e, kAu2_e, kAu_e, evS_aug, kSx4_e, kSx3_e, kSx2_e, kSx_e, evS_setIx, kAp2_e, kAp_e, evS_app, kPo_e, evS_pop, kRe_e, evS_reverse, kEx_e, evS_ex, kIf2_t, kIf2_f, kIf_e, evS_ite, kRt_e, kRtV_e, evS_retV, evR_con, evR_bin, evR_neg, evR_cmp, evR_chain, evR_andV, evR_orV, evR_andT, evR_orT, evR_ite, evR_tup, evR_lst, evR_idx, evR_slc, evR_rev, evR_call, evR_draw, evR_blt, evR_not, evR_lc, evR_gen, evS_retN, evS_brk, evS_cnt, evS_pas, kSs_n, kSs_b, kSs_c, kSs_r, evSs_n, evSs_c, kFr_e, evS_For, kBd_e, contF_next, contF_cont, contF_brk, contF_ret, contW_next, contW_cont, contW_brk, contW_ret, evS_whl, kWh_t, kWh_f, kTv_e, rd_n, rd_s, rd_f, st_n, st_s, st_f, jo_n, jo_sn, ia_n, ia_s, sr_n, rs_n, rs_f, av_n, av_d, av_f, ds_n, ds_c, ag_n, ag_d, ag_f, ow_e, ow_l, tv_d, jo_ss, sr_s, rs_s, kIsx_e, evE_isx, kXf_e, evE_xfld, kIn_e, kCt3_e, kCt2_e, kCt_e, evE_count, kRz2_e, kRz_e, kTry_ok, kTry_exc, evS_try, kSu_ok, rd_x, ag_x, av_x, rs_x, R.ok_bind, R.exc_bind, R.stuck_bind, R.of_some, R.of_none, bindTs, flat, flatAll, List.getElem?_cons_zero, List.getElem?_cons_succ, List.set_cons_zero, List.set_cons_succ, alNew_none, alNew_some, alOp, datsV_star, datsV_star0, parV, bopD, addD, subD, mul_int, fdivD, modD, negD, copD, intsD, truD, idx_t0, idx_t1, idx_t2, idx_t3, idx_l0, idx_l1, idx_l2, idx_l3, idx_fr0, idx_fr1, flat_fr, bindT_fr, Option.getD_some, Option.getD_none, Option.map_some, Option.map_none, Option.bind_some, Option.bind_none, bl_len_t, bl_len_l, bl_abs, bl_int_i, bl_int_b, bl_bool_i, bl_bool_b, bl_list_t, bl_list_l, bl_tuple_t, bl_tuple_l, bl_isTup, bl_isInt, bl_isBool, bl_isStr, bl_isList, List.append_nil, List.nil_append, List.cons_append, Bool.false_eq_true, ite_true, ite_false, if_true, if_false, reduceIte, Bool.true_and, Bool.and_true, Bool.and_self, Bool.not_true, Bool.not_false, Bool.and_false, Bool.false_and, Bool.or_true, Bool.or_false, Bool.true_or, Bool.false_or, List.all_nil, List.all_cons, seqD, lstD, freeze, List.length_cons, List.length_nil, List.length_map, List.length_append, Nat.reduceAdd, Nat.reduceLeDiff, leS, okPut, wipeE, List.contains_cons, List.contains_nil, Nat.reduceBEq, eqD_fr, eqD_int, eqD_str, bindT_nm, bindT_tp, $xs,*])
def bentL (s : Int) (cs : List Rat) : List Rat := if s = 1 then slopL cs else slopL (slopL cs)
def sideQ (s : Int) (cs : List Rat) (t : Rat) : Rat × Rat := (evalQ t (bentL s cs), evalQ t (slopL (bentL s cs)))
def pairD (p : Rat × Rat) : PyData := .tuple [fr p.1, fr p.2]
structure RowOk (xs : List Rat) (ps : List (List Rat)) : Prop where
  hl : xs.length = ps.length + 1
  h1 : 1 ≤ ps.length
  h9 : ps.length ≤ 20
  hx : ∀ x ∈ xs, GB.Bd 60 x
  hd : ∀ k, k < ps.length → GB.Bd 5 (nA xs (k + 1) - nA xs k)
  inc : Inc xs
  hp : ∀ p ∈ ps, p.length ≤ 4 ∧ ∀ c ∈ p, GB.Bd 800 c
def endQ (s : Int) (xs : List Rat) (ps : List (List Rat)) (k : Nat) : Rat × Rat := sideQ s (pa ps k) (nA xs (k + 1) - nA xs k)
def begQ (s : Int) (ps : List (List Rat)) (k : Nat) : Rat × Rat := sideQ s (pa ps k) 0
def cnt (rd : Bool) (ps : List (List Rat)) : Nat := if rd then ps.length else ps.length + 1
def aheadQ (rd : Bool) (s : Int) (xs : List Rat) (ps : List (List Rat)) (k : Nat) : Rat × Rat := if k = 0 then (if rd then endQ s xs ps (ps.length - 1) else (0, 0)) else endQ s xs ps (k - 1)
def behindQ (s : Int) (ps : List (List Rat)) (k : Nat) : Rat × Rat := if k < ps.length then begQ s ps k else (0, 0)
def taskD (s : Int) (rd : Bool) (L pr : Rat) (pts : List PyData) : PyData := .tuple [.int s, if rd then fr L else .none, fr pr, .tuple pts]
section
variable {dr : Dr} {T : Tab} {k n m : Nat} {F : Feed} {a b q t : Rat} {s : Int} {rd : Bool} {L pr : Rat} {pts : List PyData}
def pullQ (s : Int) (a b : Rat × Rat) : Rat × Rat := if s = 1 then (a.1 - b.1, 0) else (b.2 - a.2, a.1 - b.1)
def pullsQ (rd : Bool) (s : Int) (xs : List Rat) (ps : List (List Rat)) (k : Nat) : Rat × Rat := pullQ s (aheadQ rd s xs ps k) (behindQ s ps k)
end
end Pv
namespace Pv
open PySem L2 GB
local macro_rules | `(tactic| simp! only [$xs,*]) => `(tactic| simp (config := {dsimp := false, implicitDefEqProofs := false}) only [kOut_n, kOut_r, kPut_e, kPl_e, kBo_e, kVar_e, evE_var, evE_con, kBin2_e, kBin_e, evE_bin, kNeg_e, evE_neg, kCmp2_e, kCmp_e, evE_cmp, kCh3_t, kCh3_f, kCh2_e, kCh_e, evE_chain, kAnd_t, kAnd_f, kOr_t, kOr_f, evE_andV, evE_orV, kTru_e, kAnT2_t, kAnT2_f, kOrT2_f, kOrT2_t, kAnT_e, evE_andT, kOrT_e, evE_orT, kNo2_e, kNot_e, evE_not, kIte2_t, kIte2_f, kIte_e, evE_ite, kT2_e, kT_e, evE_tup, kL2_e, kL_e, evE_lst, kItem_e, kIx2_e, kIx_e, evE_idx, kSl3_e, kSl2_e, kSl_e, evE_slc, kRv_e, evE_rev, kRes_e, kCl2_e, kCl_e, evE_call, kDr3_e, kDr2_e, kDr_e, evE_draw, kBl2_e, kBl_e, evE_blt, kLc_e, evE_Lc, kGe2_e, kGe_e, evE_Ge, kEl3_e, kEl2_t, kEl2_f, kEl_e, elemR_e, kEs2_e, kEs_e, evEs_n, evEs_c, kSt3_e, kSt2_e, kSt_e, evEs_s, kO_e, evO_n, evO_y, kIseq2_e, kIseq_e, evI_seq, kIenum2_e, kIenum_e, evI_enum, kIrev2_e, kIrev_e, evI_rev, kRg3_e, kRg2_e, kRg_e, evI_rng, kZ4_e, kZ3_e, kZ2_e, kZ_e, evI_zip, kC2_t, kC2_f, kC_e, evC_n, evC_c, kSe_e, evS_set, kNx_e, kUn_e, evS_unp, kPr2_e, kPr_e, evS_par, kPx3_e, kPx2_e, kPx_e, evS_par3, kAu3_e, kAu2_e, kAu_e, evS_aug, kSx4_e, kSx3_e, kSx2_e, kSx_e, evS_setIx, kAp2_e, kAp_e, evS_app, kPo_e, evS_pop, kRe_e, evS_reverse, kEx_e, evS_ex, kIf2_t, kIf2_f, kIf_e, evS_ite, kRt_e, kRtV_e, evS_retV, evR_con, evR_bin, evR_neg, evR_cmp, evR_chain, evR_andV, evR_orV, evR_andT, evR_orT, evR_ite, evR_tup, evR_lst, evR_idx, evR_slc, evR_rev, evR_call, evR_draw, evR_blt, evR_not, evR_lc, evR_gen, evS_retN, evS_brk, evS_cnt, evS_pas, kSs_n, kSs_b, kSs_c, kSs_r, evSs_n, evSs_c, kFr_e, evS_For, kBd_e, contF_next, contF_cont, contF_brk, contF_ret, contW_next, contW_cont, contW_brk, contW_ret, evS_whl, kWh_t, kWh_f, kTv_e, rd_n, rd_s, rd_f, st_n, st_s, st_f, jo_n, jo_sn, ia_n, ia_s, sr_n, rs_n, rs_f, av_n, av_d, av_f, ds_n, ds_c, ag_n, ag_d, ag_f, ow_e, ow_l, tv_d, jo_ss, sr_s, rs_s, kIsx_e, evE_isx, kXf_e, evE_xfld, kIn_e, kCt3_e, kCt2_e, kCt_e, evE_count, kRz2_e, kRz_e, kTry_ok, kTry_exc, evS_try, kSu_ok, rd_x, ag_x, av_x, rs_x, R.ok_bind, R.exc_bind, R.stuck_bind, R.of_some, R.of_none, bindTs, flat, flatAll, List.getElem?_cons_zero, List.getElem?_cons_succ, List.set_cons_zero, List.set_cons_succ, alNew_none, alNew_some, alOp, datsV_star, datsV_star0, parV, bopD, addD, subD, mul_int, fdivD, modD, negD, copD, intsD, truD, idx_t0, idx_t1, idx_t2, idx_t3, idx_l0, idx_l1, idx_l2, idx_l3, idx_fr0, idx_fr1, flat_fr, bindT_fr, Option.getD_some, Option.getD_none, Option.map_some, Option.map_none, Option.bind_some, Option.bind_none, bl_len_t, bl_len_l, bl_abs, bl_int_i, bl_int_b, bl_bool_i, bl_bool_b, bl_list_t, bl_list_l, bl_tuple_t, bl_tuple_l, bl_isTup, bl_isInt, bl_isBool, bl_isStr, bl_isList, List.append_nil, List.nil_append, List.cons_append, Bool.false_eq_true, ite_true, ite_false, if_true, if_false, reduceIte, Bool.true_and, Bool.and_true, Bool.and_self, Bool.not_true, Bool.not_false, Bool.and_false, Bool.false_and, Bool.or_true, Bool.or_false, Bool.true_or, Bool.false_or, List.all_nil, List.all_cons, seqD, lstD, freeze, List.length_cons, List.length_nil, List.length_map, List.length_append, Nat.reduceAdd, Nat.reduceLeDiff, leS, okPut, wipeE, List.contains_cons, List.contains_nil, Nat.reduceBEq, eqD_fr, eqD_int, eqD_str, bindT_nm, bindT_tp, $xs,*])
inductive Wh where
  | held (q : Rat)
  | least (q : Rat)
  | most (q : Rat)
  | free
  | near (q g : Rat)
def whD : Wh → PyData
  | .held q => .tuple [.str "held", fr q]
  | .least q => .tuple [.str "least", fr q]
  | .most q => .tuple [.str "most", fr q]
  | .free => .tuple [.str "free"]
  | .near q g => .tuple [.str "near", fr q, fr g]
def WhOk : Wh → Prop
  | .held q => GB.Bd 10 q
  | .least q => GB.Bd 10 q
  | .most q => GB.Bd 10 q
  | .free => True
  | .near q g => GB.Bd 10 q ∧ GB.Bd 64 g
def ptD (x : Rat) (a b : Wh) : PyData := .tuple [fr x, whD a, whD b]
def ptsD (xs : List Rat) (w1 w2 : Nat → Wh) (n : Nat) : List PyData := (List.range n).map fun k => ptD (nA xs k) (w1 k) (w2 k)
def priceQ (pr : Rat) (p : Rat × Rat) (v : Rat) : Wh → Rat × Rat
  | .near q g => (pr * p.1 + g * (v - q), pr * p.2)
  | _ => (pr * p.1, pr * p.2)
def valQ (xs : List Rat) (ps : List (List Rat)) (k : Nat) : Rat := evalQ (nA xs k - nA xs (min k (ps.length - 1))) (pa ps (min k (ps.length - 1)))
section
variable {dr : Dr} {T : Tab} {k n m : Nat} {F : Feed} {a b q t : Rat} {s : Int} {rd : Bool} {L pr : Rat} {pts : List PyData}
end
end Pv
namespace Pv
open PySem L2 GB
local macro_rules | `(tactic| simp! only [$xs,*]) => `(tactic| simp (config := {dsimp := false, implicitDefEqProofs := false}) only [kOut_n, kOut_r, kPut_e, kPl_e, kBo_e, kVar_e, evE_var, evE_con, kBin2_e, kBin_e, evE_bin, kNeg_e, evE_neg, kCmp2_e, kCmp_e, evE_cmp, kCh3_t, kCh3_f, kCh2_e, kCh_e, evE_chain, kAnd_t, kAnd_f, kOr_t, kOr_f, evE_andV, evE_orV, kTru_e, kAnT2_t, kAnT2_f, kOrT2_f, kOrT2_t, kAnT_e, evE_andT, kOrT_e, evE_orT, kNo2_e, kNot_e, evE_not, kIte2_t, kIte2_f, kIte_e, evE_ite, kT2_e, kT_e, evE_tup, kL2_e, kL_e, evE_lst, kItem_e, kIx2_e, kIx_e, evE_idx, kSl3_e, kSl2_e, kSl_e, evE_slc, kRv_e, evE_rev, kRes_e, kCl2_e, kCl_e, evE_call, kDr3_e, kDr2_e, kDr_e, evE_draw, kBl2_e, kBl_e, evE_blt, kLc_e, evE_Lc, kGe2_e, kGe_e, evE_Ge, kEl3_e, kEl2_t, kEl2_f, kEl_e, elemR_e, kEs2_e, kEs_e, evEs_n, evEs_c, kSt3_e, kSt2_e, kSt_e, evEs_s, kO_e, evO_n, evO_y, kIseq2_e, kIseq_e, evI_seq, kIenum2_e, kIenum_e, evI_enum, kIrev2_e, kIrev_e, evI_rev, kRg3_e, kRg2_e, kRg_e, evI_rng, kZ4_e, kZ3_e, kZ2_e, kZ_e, evI_zip, kC2_t, kC2_f, kC_e, evC_n, evC_c, kSe_e, evS_set, kNx_e, kUn_e, evS_unp, kPr2_e, kPr_e, evS_par, kPx3_e, kPx2_e, kPx_e, evS_par3, kAu3_e, kAu2_e, kAu_e, evS_aug, kSx4_e, kSx3_e, kSx2_e, kSx_e, evS_setIx, kAp2_e, kAp_e, evS_app, kPo_e, evS_pop, kRe_e, evS_reverse, kEx_e, evS_ex, kIf2_t, kIf2_f, kIf_e, evS_ite, kRt_e, kRtV_e, evS_retV, evR_con, evR_bin, evR_neg, evR_cmp, evR_chain, evR_andV, evR_orV, evR_andT, evR_orT, evR_ite, evR_tup, evR_lst, evR_idx, evR_slc, evR_rev, evR_call, evR_draw, evR_blt, evR_not, evR_lc, evR_gen, evS_retN, evS_brk, evS_cnt, evS_pas, kSs_n, kSs_b, kSs_c, kSs_r, evSs_n, evSs_c, kFr_e, evS_For, kBd_e, contF_next, contF_cont, contF_brk, contF_ret, contW_next, contW_cont, contW_brk, contW_ret, evS_whl, kWh_t, kWh_f, kTv_e, rd_n, rd_s, rd_f, st_n, st_s, st_f, jo_n, jo_sn, ia_n, ia_s, sr_n, rs_n, rs_f, av_n, av_d, av_f, ds_n, ds_c, ag_n, ag_d, ag_f, ow_e, ow_l, tv_d, jo_ss, sr_s, rs_s, kIsx_e, evE_isx, kXf_e, evE_xfld, kIn_e, kCt3_e, kCt2_e, kCt_e, evE_count, kRz2_e, kRz_e, kTry_ok, kTry_exc, evS_try, kSu_ok, rd_x, ag_x, av_x, rs_x, R.ok_bind, R.exc_bind, R.stuck_bind, R.of_some, R.of_none, bindTs, flat, flatAll, List.getElem?_cons_zero, List.getElem?_cons_succ, List.set_cons_zero, List.set_cons_succ, alNew_none, alNew_some, alOp, datsV_star, datsV_star0, parV, bopD, addD, subD, mul_int, fdivD, modD, negD, copD, intsD, truD, idx_t0, idx_t1, idx_t2, idx_t3, idx_l0, idx_l1, idx_l2, idx_l3, idx_fr0, idx_fr1, flat_fr, bindT_fr, Option.getD_some, Option.getD_none, Option.map_some, Option.map_none, Option.bind_some, Option.bind_none, bl_len_t, bl_len_l, bl_abs, bl_int_i, bl_int_b, bl_bool_i, bl_bool_b, bl_list_t, bl_list_l, bl_tuple_t, bl_tuple_l, bl_isTup, bl_isInt, bl_isBool, bl_isStr, bl_isList, List.append_nil, List.nil_append, List.cons_append, Bool.false_eq_true, ite_true, ite_false, if_true, if_false, reduceIte, Bool.true_and, Bool.and_true, Bool.and_self, Bool.not_true, Bool.not_false, Bool.and_false, Bool.false_and, Bool.or_true, Bool.or_false, Bool.true_or, Bool.false_or, List.all_nil, List.all_cons, seqD, lstD, freeze, List.length_cons, List.length_nil, List.length_map, List.length_append, Nat.reduceAdd, Nat.reduceLeDiff, leS, okPut, wipeE, List.contains_cons, List.contains_nil, Nat.reduceBEq, eqD_fr, eqD_int, eqD_str, bindT_nm, bindT_tp, $xs,*])
def bnT (cs : List Rat) (t : Rat) : PyData := .tuple [fr (evalQ t cs), fr (evalQ t (slopL cs)), fr (evalQ t (slopL (slopL cs))), fr (evalQ t (slopL (slopL (slopL cs))))]
structure RowJ (xs : List Rat) (ps : List (List Rat)) : Prop where
  hl : xs.length = ps.length + 1
  h1 : 1 ≤ ps.length
  h9 : ps.length ≤ 20
  hx : ∀ x ∈ xs, GB.Bd 10000 x
  hp : ∀ p ∈ ps, p.length ≤ 4 ∧ ∀ c ∈ p, GB.Bd 10000 c
  hz : ∀ p ∈ ps, strip p = p
  hj : ∀ k, k + 1 < ps.length → evalQ (nA xs (k + 1) - nA xs k) (pa ps k) = nA (pa ps (k + 1)) 0
def smQ (a b : List Rat) (t : Rat) : Nat := if evalQ t (slopL a) = evalQ 0 (slopL b) then (if evalQ t (slopL (slopL a)) = evalQ 0 (slopL (slopL b)) then (if evalQ t (slopL (slopL (slopL a))) = evalQ 0 (slopL (slopL (slopL b))) then 3 else 2) else 1) else 0
section
variable {dr : Dr} {T : Tab} {k n m : Nat} {F : Feed} {t : Rat}
end
end Pv
namespace Pv
open PySem L2 GB
local macro_rules | `(tactic| simp! only [$xs,*]) => `(tactic| simp (config := {dsimp := false, implicitDefEqProofs := false}) only [kOut_n, kOut_r, kPut_e, kPl_e, kBo_e, kVar_e, evE_var, evE_con, kBin2_e, kBin_e, evE_bin, kNeg_e, evE_neg, kCmp2_e, kCmp_e, evE_cmp, kCh3_t, kCh3_f, kCh2_e, kCh_e, evE_chain, kAnd_t, kAnd_f, kOr_t, kOr_f, evE_andV, evE_orV, kTru_e, kAnT2_t, kAnT2_f, kOrT2_f, kOrT2_t, kAnT_e, evE_andT, kOrT_e, evE_orT, kNo2_e, kNot_e, evE_not, kIte2_t, kIte2_f, kIte_e, evE_ite, kT2_e, kT_e, evE_tup, kL2_e, kL_e, evE_lst, kItem_e, kIx2_e, kIx_e, evE_idx, kSl3_e, kSl2_e, kSl_e, evE_slc, kRv_e, evE_rev, kRes_e, kCl2_e, kCl_e, evE_call, kDr3_e, kDr2_e, kDr_e, evE_draw, kBl2_e, kBl_e, evE_blt, kLc_e, evE_Lc, kGe2_e, kGe_e, evE_Ge, kEl3_e, kEl2_t, kEl2_f, kEl_e, elemR_e, kEs2_e, kEs_e, evEs_n, evEs_c, kSt3_e, kSt2_e, kSt_e, evEs_s, kO_e, evO_n, evO_y, kIseq2_e, kIseq_e, evI_seq, kIenum2_e, kIenum_e, evI_enum, kIrev2_e, kIrev_e, evI_rev, kRg3_e, kRg2_e, kRg_e, evI_rng, kZ4_e, kZ3_e, kZ2_e, kZ_e, evI_zip, kC2_t, kC2_f, kC_e, evC_n, evC_c, kSe_e, evS_set, kNx_e, kUn_e, evS_unp, kPr2_e, kPr_e, evS_par, kPx3_e, kPx2_e, kPx_e, evS_par3, kAu3_e, kAu2_e, kAu_e, evS_aug, kSx4_e, kSx3_e, kSx2_e, kSx_e, evS_setIx, kAp2_e, kAp_e, evS_app, kPo_e, evS_pop, kRe_e, evS_reverse, kEx_e, evS_ex, kIf2_t, kIf2_f, kIf_e, evS_ite, kRt_e, kRtV_e, evS_retV, evR_con, evR_bin, evR_neg, evR_cmp, evR_chain, evR_andV, evR_orV, evR_andT, evR_orT, evR_ite, evR_tup, evR_lst, evR_idx, evR_slc, evR_rev, evR_call, evR_draw, evR_blt, evR_not, evR_lc, evR_gen, evS_retN, evS_brk, evS_cnt, evS_pas, kSs_n, kSs_b, kSs_c, kSs_r, evSs_n, evSs_c, kFr_e, evS_For, kBd_e, contF_next, contF_cont, contF_brk, contF_ret, contW_next, contW_cont, contW_brk, contW_ret, evS_whl, kWh_t, kWh_f, kTv_e, rd_n, rd_s, rd_f, st_n, st_s, st_f, jo_n, jo_sn, ia_n, ia_s, sr_n, rs_n, rs_f, av_n, av_d, av_f, ds_n, ds_c, ag_n, ag_d, ag_f, ow_e, ow_l, tv_d, jo_ss, sr_s, rs_s, kIsx_e, evE_isx, kXf_e, evE_xfld, kIn_e, kCt3_e, kCt2_e, kCt_e, evE_count, kRz2_e, kRz_e, kTry_ok, kTry_exc, evS_try, kSu_ok, rd_x, ag_x, av_x, rs_x, R.ok_bind, R.exc_bind, R.stuck_bind, R.of_some, R.of_none, bindTs, flat, flatAll, List.getElem?_cons_zero, List.getElem?_cons_succ, List.set_cons_zero, List.set_cons_succ, alNew_none, alNew_some, alOp, datsV_star, datsV_star0, parV, bopD, addD, subD, mul_int, fdivD, modD, negD, copD, intsD, truD, idx_t0, idx_t1, idx_t2, idx_t3, idx_l0, idx_l1, idx_l2, idx_l3, idx_fr0, idx_fr1, flat_fr, bindT_fr, Option.getD_some, Option.getD_none, Option.map_some, Option.map_none, Option.bind_some, Option.bind_none, bl_len_t, bl_len_l, bl_abs, bl_int_i, bl_int_b, bl_bool_i, bl_bool_b, bl_list_t, bl_list_l, bl_tuple_t, bl_tuple_l, bl_isTup, bl_isInt, bl_isBool, bl_isStr, bl_isList, List.append_nil, List.nil_append, List.cons_append, Bool.false_eq_true, ite_true, ite_false, if_true, if_false, reduceIte, Bool.true_and, Bool.and_true, Bool.and_self, Bool.not_true, Bool.not_false, Bool.and_false, Bool.false_and, Bool.or_true, Bool.or_false, Bool.true_or, Bool.false_or, List.all_nil, List.all_cons, seqD, lstD, freeze, List.length_cons, List.length_nil, List.length_map, List.length_append, Nat.reduceAdd, Nat.reduceLeDiff, leS, okPut, wipeE, List.contains_cons, List.contains_nil, Nat.reduceBEq, eqD_fr, eqD_int, eqD_str, bindT_nm, bindT_tp, $xs,*])
def begs (xs : List Rat) (ps : List (List Rat)) : List Nat := ((List.range (ps.length - 1)).filter fun i => !decide (smQ (pa ps i) (pa ps (i + 1)) (nA xs (i + 1) - nA xs i) = 3)).map (· + 1)
def bareR (xs : List Rat) (ps : List (List Rat)) : PyData := rowD ((0 :: begs xs ps).map (nA xs) ++ [nA xs ps.length]) ((0 :: begs xs ps).map (pa ps))
section
variable {dr : Dr} {T : Tab} {k n m : Nat} {F : Feed} {t : Rat}
def bareC (xs : List Rat) (ps : List (List Rat)) : List Rat := (0 :: begs xs ps).map (nA xs) ++ [nA xs ps.length]
def bareP (xs : List Rat) (ps : List (List Rat)) : List (List Rat) := (0 :: begs xs ps).map (pa ps)
end
end Pv
namespace Pv
open PySem L2 GB
local macro_rules | `(tactic| simp! only [$xs,*]) => `(tactic| simp (config := {dsimp := false, implicitDefEqProofs := false}) only [kOut_n, kOut_r, kPut_e, kPl_e, kBo_e, kVar_e, evE_var, evE_con, kBin2_e, kBin_e, evE_bin, kNeg_e, evE_neg, kCmp2_e, kCmp_e, evE_cmp, kCh3_t, kCh3_f, kCh2_e, kCh_e, evE_chain, kAnd_t, kAnd_f, kOr_t, kOr_f, evE_andV, evE_orV, kTru_e, kAnT2_t, kAnT2_f, kOrT2_f, kOrT2_t, kAnT_e, evE_andT, kOrT_e, evE_orT, kNo2_e, kNot_e, evE_not, kIte2_t, kIte2_f, kIte_e, evE_ite, kT2_e, kT_e, evE_tup, kL2_e, kL_e, evE_lst, kItem_e, kIx2_e, kIx_e, evE_idx, kSl3_e, kSl2_e, kSl_e, evE_slc, kRv_e, evE_rev, kRes_e, kCl2_e, kCl_e, evE_call, kDr3_e, kDr2_e, kDr_e, evE_draw, kBl2_e, kBl_e, evE_blt, kLc_e, evE_Lc, kGe2_e, kGe_e, evE_Ge, kEl3_e, kEl2_t, kEl2_f, kEl_e, elemR_e, kEs2_e, kEs_e, evEs_n, evEs_c, kSt3_e, kSt2_e, kSt_e, evEs_s, kO_e, evO_n, evO_y, kIseq2_e, kIseq_e, evI_seq, kIenum2_e, kIenum_e, evI_enum, kIrev2_e, kIrev_e, evI_rev, kRg3_e, kRg2_e, kRg_e, evI_rng, kZ4_e, kZ3_e, kZ2_e, kZ_e, evI_zip, kC2_t, kC2_f, kC_e, evC_n, evC_c, kSe_e, evS_set, kNx_e, kUn_e, evS_unp, kPr2_e, kPr_e, evS_par, kPx3_e, kPx2_e, kPx_e, evS_par3, kAu3_e, kAu2_e, kAu_e, evS_aug, kSx4_e, kSx3_e, kSx2_e, kSx_e, evS_setIx, kAp2_e, kAp_e, evS_app, kPo_e, evS_pop, kRe_e, evS_reverse, kEx_e, evS_ex, kIf2_t, kIf2_f, kIf_e, evS_ite, kRt_e, kRtV_e, evS_retV, evR_con, evR_bin, evR_neg, evR_cmp, evR_chain, evR_andV, evR_orV, evR_andT, evR_orT, evR_ite, evR_tup, evR_lst, evR_idx, evR_slc, evR_rev, evR_call, evR_draw, evR_blt, evR_not, evR_lc, evR_gen, evS_retN, evS_brk, evS_cnt, evS_pas, kSs_n, kSs_b, kSs_c, kSs_r, evSs_n, evSs_c, kFr_e, evS_For, kBd_e, contF_next, contF_cont, contF_brk, contF_ret, contW_next, contW_cont, contW_brk, contW_ret, evS_whl, kWh_t, kWh_f, kTv_e, rd_n, rd_s, rd_f, st_n, st_s, st_f, jo_n, jo_sn, ia_n, ia_s, sr_n, rs_n, rs_f, av_n, av_d, av_f, ds_n, ds_c, ag_n, ag_d, ag_f, ow_e, ow_l, tv_d, jo_ss, sr_s, rs_s, kIsx_e, evE_isx, kXf_e, evE_xfld, kIn_e, kCt3_e, kCt2_e, kCt_e, evE_count, kRz2_e, kRz_e, kTry_ok, kTry_exc, evS_try, kSu_ok, rd_x, ag_x, av_x, rs_x, R.ok_bind, R.exc_bind, R.stuck_bind, R.of_some, R.of_none, bindTs, flat, flatAll, List.getElem?_cons_zero, List.getElem?_cons_succ, List.set_cons_zero, List.set_cons_succ, alNew_none, alNew_some, alOp, datsV_star, datsV_star0, parV, bopD, addD, subD, mul_int, fdivD, modD, negD, copD, intsD, truD, idx_t0, idx_t1, idx_t2, idx_t3, idx_l0, idx_l1, idx_l2, idx_l3, idx_fr0, idx_fr1, flat_fr, bindT_fr, Option.getD_some, Option.getD_none, Option.map_some, Option.map_none, Option.bind_some, Option.bind_none, bl_len_t, bl_len_l, bl_abs, bl_int_i, bl_int_b, bl_bool_i, bl_bool_b, bl_list_t, bl_list_l, bl_tuple_t, bl_tuple_l, bl_isTup, bl_isInt, bl_isBool, bl_isStr, bl_isList, List.append_nil, List.nil_append, List.cons_append, Bool.false_eq_true, ite_true, ite_false, if_true, if_false, reduceIte, Bool.true_and, Bool.and_true, Bool.and_self, Bool.not_true, Bool.not_false, Bool.and_false, Bool.false_and, Bool.or_true, Bool.or_false, Bool.true_or, Bool.false_or, List.all_nil, List.all_cons, seqD, lstD, freeze, List.length_cons, List.length_nil, List.length_map, List.length_append, Nat.reduceAdd, Nat.reduceLeDiff, leS, okPut, wipeE, List.contains_cons, List.contains_nil, Nat.reduceBEq, eqD_fr, eqD_int, eqD_str, bindT_nm, bindT_tp, $xs,*])
section
variable {dr : Dr} {T : Tab} {k n m : Nat} {F : Feed} {a b q t : Rat}
def needB (xs : List Rat) (ps : List (List Rat)) (i : Nat) : Bool := match i with
  | 0 => true
  | j + 1 => !decide (smQ (pa ps j) (pa ps (j + 1)) (nA xs (j + 1) - nA xs j) = 3)
def begK (xs : List Rat) (ps : List (List Rat)) (n : Nat) : List Nat := (List.range n).filter (needB xs ps)
end
end Pv
namespace Pv
open PySem L2 GB
local macro_rules | `(tactic| simp! only [$xs,*]) => `(tactic| simp (config := {dsimp := false, implicitDefEqProofs := false}) only [kOut_n, kOut_r, kPut_e, kPl_e, kBo_e, kVar_e, evE_var, evE_con, kBin2_e, kBin_e, evE_bin, kNeg_e, evE_neg, kCmp2_e, kCmp_e, evE_cmp, kCh3_t, kCh3_f, kCh2_e, kCh_e, evE_chain, kAnd_t, kAnd_f, kOr_t, kOr_f, evE_andV, evE_orV, kTru_e, kAnT2_t, kAnT2_f, kOrT2_f, kOrT2_t, kAnT_e, evE_andT, kOrT_e, evE_orT, kNo2_e, kNot_e, evE_not, kIte2_t, kIte2_f, kIte_e, evE_ite, kT2_e, kT_e, evE_tup, kL2_e, kL_e, evE_lst, kItem_e, kIx2_e, kIx_e, evE_idx, kSl3_e, kSl2_e, kSl_e, evE_slc, kRv_e, evE_rev, kRes_e, kCl2_e, kCl_e, evE_call, kDr3_e, kDr2_e, kDr_e, evE_draw, kBl2_e, kBl_e, evE_blt, kLc_e, evE_Lc, kGe2_e, kGe_e, evE_Ge, kEl3_e, kEl2_t, kEl2_f, kEl_e, elemR_e, kEs2_e, kEs_e, evEs_n, evEs_c, kSt3_e, kSt2_e, kSt_e, evEs_s, kO_e, evO_n, evO_y, kIseq2_e, kIseq_e, evI_seq, kIenum2_e, kIenum_e, evI_enum, kIrev2_e, kIrev_e, evI_rev, kRg3_e, kRg2_e, kRg_e, evI_rng, kZ4_e, kZ3_e, kZ2_e, kZ_e, evI_zip, kC2_t, kC2_f, kC_e, evC_n, evC_c, kSe_e, evS_set, kNx_e, kUn_e, evS_unp, kPr2_e, kPr_e, evS_par, kPx3_e, kPx2_e, kPx_e, evS_par3, kAu3_e, kAu2_e, kAu_e, evS_aug, kSx4_e, kSx3_e, kSx2_e, kSx_e, evS_setIx, kAp2_e, kAp_e, evS_app, kPo_e, evS_pop, kRe_e, evS_reverse, kEx_e, evS_ex, kIf2_t, kIf2_f, kIf_e, evS_ite, kRt_e, kRtV_e, evS_retV, evR_con, evR_bin, evR_neg, evR_cmp, evR_chain, evR_andV, evR_orV, evR_andT, evR_orT, evR_ite, evR_tup, evR_lst, evR_idx, evR_slc, evR_rev, evR_call, evR_draw, evR_blt, evR_not, evR_lc, evR_gen, evS_retN, evS_brk, evS_cnt, evS_pas, kSs_n, kSs_b, kSs_c, kSs_r, evSs_n, evSs_c, kFr_e, evS_For, kBd_e, contF_next, contF_cont, contF_brk, contF_ret, contW_next, contW_cont, contW_brk, contW_ret, evS_whl, kWh_t, kWh_f, kTv_e, rd_n, rd_s, rd_f, st_n, st_s, st_f, jo_n, jo_sn, ia_n, ia_s, sr_n, rs_n, rs_f, av_n, av_d, av_f, ds_n, ds_c, ag_n, ag_d, ag_f, ow_e, ow_l, tv_d, jo_ss, sr_s, rs_s, kIsx_e, evE_isx, kXf_e, evE_xfld, kIn_e, kCt3_e, kCt2_e, kCt_e, evE_count, kRz2_e, kRz_e, kTry_ok, kTry_exc, evS_try, kSu_ok, rd_x, ag_x, av_x, rs_x, R.ok_bind, R.exc_bind, R.stuck_bind, R.of_some, R.of_none, bindTs, flat, flatAll, List.getElem?_cons_zero, List.getElem?_cons_succ, List.set_cons_zero, List.set_cons_succ, alNew_none, alNew_some, alOp, datsV_star, datsV_star0, parV, bopD, addD, subD, mul_int, fdivD, modD, negD, copD, intsD, truD, idx_t0, idx_t1, idx_t2, idx_t3, idx_l0, idx_l1, idx_l2, idx_l3, idx_fr0, idx_fr1, flat_fr, bindT_fr, Option.getD_some, Option.getD_none, Option.map_some, Option.map_none, Option.bind_some, Option.bind_none, bl_len_t, bl_len_l, bl_abs, bl_int_i, bl_int_b, bl_bool_i, bl_bool_b, bl_list_t, bl_list_l, bl_tuple_t, bl_tuple_l, bl_isTup, bl_isInt, bl_isBool, bl_isStr, bl_isList, List.append_nil, List.nil_append, List.cons_append, Bool.false_eq_true, ite_true, ite_false, if_true, if_false, reduceIte, Bool.true_and, Bool.and_true, Bool.and_self, Bool.not_true, Bool.not_false, Bool.and_false, Bool.false_and, Bool.or_true, Bool.or_false, Bool.true_or, Bool.false_or, List.all_nil, List.all_cons, seqD, lstD, freeze, List.length_cons, List.length_nil, List.length_map, List.length_append, Nat.reduceAdd, Nat.reduceLeDiff, leS, okPut, wipeE, List.contains_cons, List.contains_nil, Nat.reduceBEq, eqD_fr, eqD_int, eqD_str, bindT_nm, bindT_tp, $xs,*])
section
variable {dr : Dr} {T : Tab} {k n m : Nat} {F : Feed} {a b q t : Rat}
def undL : Nat → List Rat → List Rat
  | _, [] => []
  | k, c :: cs => c * (1 / ((k + 1 : Nat) : Int)) :: undL (k + 1) cs
end
end Pv
namespace Pv
open PySem L2 GB
local macro_rules | `(tactic| simp! only [$xs,*]) => `(tactic| simp (config := {dsimp := false, implicitDefEqProofs := false}) only [kOut_n, kOut_r, kPut_e, kPl_e, kBo_e, kVar_e, evE_var, evE_con, kBin2_e, kBin_e, evE_bin, kNeg_e, evE_neg, kCmp2_e, kCmp_e, evE_cmp, kCh3_t, kCh3_f, kCh2_e, kCh_e, evE_chain, kAnd_t, kAnd_f, kOr_t, kOr_f, evE_andV, evE_orV, kTru_e, kAnT2_t, kAnT2_f, kOrT2_f, kOrT2_t, kAnT_e, evE_andT, kOrT_e, evE_orT, kNo2_e, kNot_e, evE_not, kIte2_t, kIte2_f, kIte_e, evE_ite, kT2_e, kT_e, evE_tup, kL2_e, kL_e, evE_lst, kItem_e, kIx2_e, kIx_e, evE_idx, kSl3_e, kSl2_e, kSl_e, evE_slc, kRv_e, evE_rev, kRes_e, kCl2_e, kCl_e, evE_call, kDr3_e, kDr2_e, kDr_e, evE_draw, kBl2_e, kBl_e, evE_blt, kLc_e, evE_Lc, kGe2_e, kGe_e, evE_Ge, kEl3_e, kEl2_t, kEl2_f, kEl_e, elemR_e, kEs2_e, kEs_e, evEs_n, evEs_c, kSt3_e, kSt2_e, kSt_e, evEs_s, kO_e, evO_n, evO_y, kIseq2_e, kIseq_e, evI_seq, kIenum2_e, kIenum_e, evI_enum, kIrev2_e, kIrev_e, evI_rev, kRg3_e, kRg2_e, kRg_e, evI_rng, kZ4_e, kZ3_e, kZ2_e, kZ_e, evI_zip, kC2_t, kC2_f, kC_e, evC_n, evC_c, kSe_e, evS_set, kNx_e, kUn_e, evS_unp, kPr2_e, kPr_e, evS_par, kPx3_e, kPx2_e, kPx_e, evS_par3, kAu3_e, kAu2_e, kAu_e, evS_aug, kSx4_e, kSx3_e, kSx2_e, kSx_e, evS_setIx, kAp2_e, kAp_e, evS_app, kPo_e, evS_pop, kRe_e, evS_reverse, kEx_e, evS_ex, kIf2_t, kIf2_f, kIf_e, evS_ite, kRt_e, kRtV_e, evS_retV, evR_con, evR_bin, evR_neg, evR_cmp, evR_chain, evR_andV, evR_orV, evR_andT, evR_orT, evR_ite, evR_tup, evR_lst, evR_idx, evR_slc, evR_rev, evR_call, evR_draw, evR_blt, evR_not, evR_lc, evR_gen, evS_retN, evS_brk, evS_cnt, evS_pas, kSs_n, kSs_b, kSs_c, kSs_r, evSs_n, evSs_c, kFr_e, evS_For, kBd_e, contF_next, contF_cont, contF_brk, contF_ret, contW_next, contW_cont, contW_brk, contW_ret, evS_whl, kWh_t, kWh_f, kTv_e, rd_n, rd_s, rd_f, st_n, st_s, st_f, jo_n, jo_sn, ia_n, ia_s, sr_n, rs_n, rs_f, av_n, av_d, av_f, ds_n, ds_c, ag_n, ag_d, ag_f, ow_e, ow_l, tv_d, jo_ss, sr_s, rs_s, kIsx_e, evE_isx, kXf_e, evE_xfld, kIn_e, kCt3_e, kCt2_e, kCt_e, evE_count, kRz2_e, kRz_e, kTry_ok, kTry_exc, evS_try, kSu_ok, rd_x, ag_x, av_x, rs_x, R.ok_bind, R.exc_bind, R.stuck_bind, R.of_some, R.of_none, bindTs, flat, flatAll, List.getElem?_cons_zero, List.getElem?_cons_succ, List.set_cons_zero, List.set_cons_succ, alNew_none, alNew_some, alOp, datsV_star, datsV_star0, parV, bopD, addD, subD, mul_int, fdivD, modD, negD, copD, intsD, truD, idx_t0, idx_t1, idx_t2, idx_t3, idx_l0, idx_l1, idx_l2, idx_l3, idx_fr0, idx_fr1, flat_fr, bindT_fr, Option.getD_some, Option.getD_none, Option.map_some, Option.map_none, Option.bind_some, Option.bind_none, bl_len_t, bl_len_l, bl_abs, bl_int_i, bl_int_b, bl_bool_i, bl_bool_b, bl_list_t, bl_list_l, bl_tuple_t, bl_tuple_l, bl_isTup, bl_isInt, bl_isBool, bl_isStr, bl_isList, List.append_nil, List.nil_append, List.cons_append, Bool.false_eq_true, ite_true, ite_false, if_true, if_false, reduceIte, Bool.true_and, Bool.and_true, Bool.and_self, Bool.not_true, Bool.not_false, Bool.and_false, Bool.false_and, Bool.or_true, Bool.or_false, Bool.true_or, Bool.false_or, List.all_nil, List.all_cons, seqD, lstD, freeze, List.length_cons, List.length_nil, List.length_map, List.length_append, Nat.reduceAdd, Nat.reduceLeDiff, leS, okPut, wipeE, List.contains_cons, List.contains_nil, Nat.reduceBEq, eqD_fr, eqD_int, eqD_str, bindT_nm, bindT_tp, $xs,*])
def prd3 : List Rat → List Rat → List Rat
  | [a, b, c], [x, y, z] => [(0 + a * x), ((0 + a * y) + b * x), ((0 + a * z) + b * y) + c * x, (0 + b * z) + c * y, (0 + c * z)]
  | cs, ds => prdL cs ds
section
variable {dr : Dr} {T : Tab} {k n m : Nat} {F : Feed} {t : Rat}
def unQ (i : Nat) : Rat := ((1 : Int) : Rat) / (((i + 1 : Nat) : Int) : Rat)
def unP (p : Rat × Nat) : Rat := p.1 * unQ p.2
end
end Pv
namespace Pv
open PySem L2 GB
local macro_rules | `(tactic| simp! only [$xs,*]) => `(tactic| simp (config := {dsimp := false, implicitDefEqProofs := false}) only [kOut_n, kOut_r, kPut_e, kPl_e, kBo_e, kVar_e, evE_var, evE_con, kBin2_e, kBin_e, evE_bin, kNeg_e, evE_neg, kCmp2_e, kCmp_e, evE_cmp, kCh3_t, kCh3_f, kCh2_e, kCh_e, evE_chain, kAnd_t, kAnd_f, kOr_t, kOr_f, evE_andV, evE_orV, kTru_e, kAnT2_t, kAnT2_f, kOrT2_f, kOrT2_t, kAnT_e, evE_andT, kOrT_e, evE_orT, kNo2_e, kNot_e, evE_not, kIte2_t, kIte2_f, kIte_e, evE_ite, kT2_e, kT_e, evE_tup, kL2_e, kL_e, evE_lst, kItem_e, kIx2_e, kIx_e, evE_idx, kSl3_e, kSl2_e, kSl_e, evE_slc, kRv_e, evE_rev, kRes_e, kCl2_e, kCl_e, evE_call, kDr3_e, kDr2_e, kDr_e, evE_draw, kBl2_e, kBl_e, evE_blt, kLc_e, evE_Lc, kGe2_e, kGe_e, evE_Ge, kEl3_e, kEl2_t, kEl2_f, kEl_e, elemR_e, kEs2_e, kEs_e, evEs_n, evEs_c, kSt3_e, kSt2_e, kSt_e, evEs_s, kO_e, evO_n, evO_y, kIseq2_e, kIseq_e, evI_seq, kIenum2_e, kIenum_e, evI_enum, kIrev2_e, kIrev_e, evI_rev, kRg3_e, kRg2_e, kRg_e, evI_rng, kZ4_e, kZ3_e, kZ2_e, kZ_e, evI_zip, kC2_t, kC2_f, kC_e, evC_n, evC_c, kSe_e, evS_set, kNx_e, kUn_e, evS_unp, kPr2_e, kPr_e, evS_par, kPx3_e, kPx2_e, kPx_e, evS_par3, kAu3_e, kAu2_e, kAu_e, evS_aug, kSx4_e, kSx3_e, kSx2_e, kSx_e, evS_setIx, kAp2_e, kAp_e, evS_app, kPo_e, evS_pop, kRe_e, evS_reverse, kEx_e, evS_ex, kIf2_t, kIf2_f, kIf_e, evS_ite, kRt_e, kRtV_e, evS_retV, evR_con, evR_bin, evR_neg, evR_cmp, evR_chain, evR_andV, evR_orV, evR_andT, evR_orT, evR_ite, evR_tup, evR_lst, evR_idx, evR_slc, evR_rev, evR_call, evR_draw, evR_blt, evR_not, evR_lc, evR_gen, evS_retN, evS_brk, evS_cnt, evS_pas, kSs_n, kSs_b, kSs_c, kSs_r, evSs_n, evSs_c, kFr_e, evS_For, kBd_e, contF_next, contF_cont, contF_brk, contF_ret, contW_next, contW_cont, contW_brk, contW_ret, evS_whl, kWh_t, kWh_f, kTv_e, rd_n, rd_s, rd_f, st_n, st_s, st_f, jo_n, jo_sn, ia_n, ia_s, sr_n, rs_n, rs_f, av_n, av_d, av_f, ds_n, ds_c, ag_n, ag_d, ag_f, ow_e, ow_l, tv_d, jo_ss, sr_s, rs_s, kIsx_e, evE_isx, kXf_e, evE_xfld, kIn_e, kCt3_e, kCt2_e, kCt_e, evE_count, kRz2_e, kRz_e, kTry_ok, kTry_exc, evS_try, kSu_ok, rd_x, ag_x, av_x, rs_x, R.ok_bind, R.exc_bind, R.stuck_bind, R.of_some, R.of_none, bindTs, flat, flatAll, List.getElem?_cons_zero, List.getElem?_cons_succ, List.set_cons_zero, List.set_cons_succ, alNew_none, alNew_some, alOp, datsV_star, datsV_star0, parV, bopD, addD, subD, mul_int, fdivD, modD, negD, copD, intsD, truD, idx_t0, idx_t1, idx_t2, idx_t3, idx_l0, idx_l1, idx_l2, idx_l3, idx_fr0, idx_fr1, flat_fr, bindT_fr, Option.getD_some, Option.getD_none, Option.map_some, Option.map_none, Option.bind_some, Option.bind_none, bl_len_t, bl_len_l, bl_abs, bl_int_i, bl_int_b, bl_bool_i, bl_bool_b, bl_list_t, bl_list_l, bl_tuple_t, bl_tuple_l, bl_isTup, bl_isInt, bl_isBool, bl_isStr, bl_isList, List.append_nil, List.nil_append, List.cons_append, Bool.false_eq_true, ite_true, ite_false, if_true, if_false, reduceIte, Bool.true_and, Bool.and_true, Bool.and_self, Bool.not_true, Bool.not_false, Bool.and_false, Bool.false_and, Bool.or_true, Bool.or_false, Bool.true_or, Bool.false_or, List.all_nil, List.all_cons, seqD, lstD, freeze, List.length_cons, List.length_nil, List.length_map, List.length_append, Nat.reduceAdd, Nat.reduceLeDiff, leS, okPut, wipeE, List.contains_cons, List.contains_nil, Nat.reduceBEq, eqD_fr, eqD_int, eqD_str, bindT_nm, bindT_tp, $xs,*])
section
variable {dr : Dr} {T : Tab} {k n m : Nat} {F : Feed} {a b q t : Rat}
end
end Pv
namespace Pv
open PySem L2 GB
local macro_rules | `(tactic| simp! only [$xs,*]) => `(tactic| simp (config := {dsimp := false, implicitDefEqProofs := false}) only [kOut_n, kOut_r, kPut_e, kPl_e, kBo_e, kVar_e, evE_var, evE_con, kBin2_e, kBin_e, evE_bin, kNeg_e, evE_neg, kCmp2_e, kCmp_e, evE_cmp, kCh3_t, kCh3_f, kCh2_e, kCh_e, evE_chain, kAnd_t, kAnd_f, kOr_t, kOr_f, evE_andV, evE_orV, kTru_e, kAnT2_t, kAnT2_f, kOrT2_f, kOrT2_t, kAnT_e, evE_andT, kOrT_e, evE_orT, kNo2_e, kNot_e, evE_not, kIte2_t, kIte2_f, kIte_e, evE_ite, kT2_e, kT_e, evE_tup, kL2_e, kL_e, evE_lst, kItem_e, kIx2_e, kIx_e, evE_idx, kSl3_e, kSl2_e, kSl_e, evE_slc, kRv_e, evE_rev, kRes_e, kCl2_e, kCl_e, evE_call, kDr3_e, kDr2_e, kDr_e, evE_draw, kBl2_e, kBl_e, evE_blt, kLc_e, evE_Lc, kGe2_e, kGe_e, evE_Ge, kEl3_e, kEl2_t, kEl2_f, kEl_e, elemR_e, kEs2_e, kEs_e, evEs_n, evEs_c, kSt3_e, kSt2_e, kSt_e, evEs_s, kO_e, evO_n, evO_y, kIseq2_e, kIseq_e, evI_seq, kIenum2_e, kIenum_e, evI_enum, kIrev2_e, kIrev_e, evI_rev, kRg3_e, kRg2_e, kRg_e, evI_rng, kZ4_e, kZ3_e, kZ2_e, kZ_e, evI_zip, kC2_t, kC2_f, kC_e, evC_n, evC_c, kSe_e, evS_set, kNx_e, kUn_e, evS_unp, kPr2_e, kPr_e, evS_par, kPx3_e, kPx2_e, kPx_e, evS_par3, kAu3_e, kAu2_e, kAu_e, evS_aug, kSx4_e, kSx3_e, kSx2_e, kSx_e, evS_setIx, kAp2_e, kAp_e, evS_app, kPo_e, evS_pop, kRe_e, evS_reverse, kEx_e, evS_ex, kIf2_t, kIf2_f, kIf_e, evS_ite, kRt_e, kRtV_e, evS_retV, evR_con, evR_bin, evR_neg, evR_cmp, evR_chain, evR_andV, evR_orV, evR_andT, evR_orT, evR_ite, evR_tup, evR_lst, evR_idx, evR_slc, evR_rev, evR_call, evR_draw, evR_blt, evR_not, evR_lc, evR_gen, evS_retN, evS_brk, evS_cnt, evS_pas, kSs_n, kSs_b, kSs_c, kSs_r, evSs_n, evSs_c, kFr_e, evS_For, kBd_e, contF_next, contF_cont, contF_brk, contF_ret, contW_next, contW_cont, contW_brk, contW_ret, evS_whl, kWh_t, kWh_f, kTv_e, rd_n, rd_s, rd_f, st_n, st_s, st_f, jo_n, jo_sn, ia_n, ia_s, sr_n, rs_n, rs_f, av_n, av_d, av_f, ds_n, ds_c, ag_n, ag_d, ag_f, ow_e, ow_l, tv_d, jo_ss, sr_s, rs_s, kIsx_e, evE_isx, kXf_e, evE_xfld, kIn_e, kCt3_e, kCt2_e, kCt_e, evE_count, kRz2_e, kRz_e, kTry_ok, kTry_exc, evS_try, kSu_ok, rd_x, ag_x, av_x, rs_x, R.ok_bind, R.exc_bind, R.stuck_bind, R.of_some, R.of_none, bindTs, flat, flatAll, List.getElem?_cons_zero, List.getElem?_cons_succ, List.set_cons_zero, List.set_cons_succ, alNew_none, alNew_some, alOp, datsV_star, datsV_star0, parV, bopD, addD, subD, mul_int, fdivD, modD, negD, copD, intsD, truD, idx_t0, idx_t1, idx_t2, idx_t3, idx_l0, idx_l1, idx_l2, idx_l3, idx_fr0, idx_fr1, flat_fr, bindT_fr, Option.getD_some, Option.getD_none, Option.map_some, Option.map_none, Option.bind_some, Option.bind_none, bl_len_t, bl_len_l, bl_abs, bl_int_i, bl_int_b, bl_bool_i, bl_bool_b, bl_list_t, bl_list_l, bl_tuple_t, bl_tuple_l, bl_isTup, bl_isInt, bl_isBool, bl_isStr, bl_isList, List.append_nil, List.nil_append, List.cons_append, Bool.false_eq_true, ite_true, ite_false, if_true, if_false, reduceIte, Bool.true_and, Bool.and_true, Bool.and_self, Bool.not_true, Bool.not_false, Bool.and_false, Bool.false_and, Bool.or_true, Bool.or_false, Bool.true_or, Bool.false_or, List.all_nil, List.all_cons, seqD, lstD, freeze, List.length_cons, List.length_nil, List.length_map, List.length_append, Nat.reduceAdd, Nat.reduceLeDiff, leS, okPut, wipeE, List.contains_cons, List.contains_nil, Nat.reduceBEq, eqD_fr, eqD_int, eqD_str, bindT_nm, bindT_tp, $xs,*])
def ptP (p : Rat × Wh × Wh) : PyData := ptD p.1 p.2.1 p.2.2
def missP (V : Rat → Rat) (p : Rat × Wh × Wh) : List Rat := match p.2.1 with
  | .near q g => [g * ((V p.1 - q) * (V p.1 - q))]
  | _ => []
section
variable {dr : Dr} {T : Tab} {k n m : Nat} {F : Feed}
end
end Pv
namespace Pv
open PySem L2 GB
local macro_rules | `(tactic| simp! only [$xs,*]) => `(tactic| simp (config := {dsimp := false, implicitDefEqProofs := false}) only [kOut_n, kOut_r, kPut_e, kPl_e, kBo_e, kVar_e, evE_var, evE_con, kBin2_e, kBin_e, evE_bin, kNeg_e, evE_neg, kCmp2_e, kCmp_e, evE_cmp, kCh3_t, kCh3_f, kCh2_e, kCh_e, evE_chain, kAnd_t, kAnd_f, kOr_t, kOr_f, evE_andV, evE_orV, kTru_e, kAnT2_t, kAnT2_f, kOrT2_f, kOrT2_t, kAnT_e, evE_andT, kOrT_e, evE_orT, kNo2_e, kNot_e, evE_not, kIte2_t, kIte2_f, kIte_e, evE_ite, kT2_e, kT_e, evE_tup, kL2_e, kL_e, evE_lst, kItem_e, kIx2_e, kIx_e, evE_idx, kSl3_e, kSl2_e, kSl_e, evE_slc, kRv_e, evE_rev, kRes_e, kCl2_e, kCl_e, evE_call, kDr3_e, kDr2_e, kDr_e, evE_draw, kBl2_e, kBl_e, evE_blt, kLc_e, evE_Lc, kGe2_e, kGe_e, evE_Ge, kEl3_e, kEl2_t, kEl2_f, kEl_e, elemR_e, kEs2_e, kEs_e, evEs_n, evEs_c, kSt3_e, kSt2_e, kSt_e, evEs_s, kO_e, evO_n, evO_y, kIseq2_e, kIseq_e, evI_seq, kIenum2_e, kIenum_e, evI_enum, kIrev2_e, kIrev_e, evI_rev, kRg3_e, kRg2_e, kRg_e, evI_rng, kZ4_e, kZ3_e, kZ2_e, kZ_e, evI_zip, kC2_t, kC2_f, kC_e, evC_n, evC_c, kSe_e, evS_set, kNx_e, kUn_e, evS_unp, kPr2_e, kPr_e, evS_par, kPx3_e, kPx2_e, kPx_e, evS_par3, kAu3_e, kAu2_e, kAu_e, evS_aug, kSx4_e, kSx3_e, kSx2_e, kSx_e, evS_setIx, kAp2_e, kAp_e, evS_app, kPo_e, evS_pop, kRe_e, evS_reverse, kEx_e, evS_ex, kIf2_t, kIf2_f, kIf_e, evS_ite, kRt_e, kRtV_e, evS_retV, evR_con, evR_bin, evR_neg, evR_cmp, evR_chain, evR_andV, evR_orV, evR_andT, evR_orT, evR_ite, evR_tup, evR_lst, evR_idx, evR_slc, evR_rev, evR_call, evR_draw, evR_blt, evR_not, evR_lc, evR_gen, evS_retN, evS_brk, evS_cnt, evS_pas, kSs_n, kSs_b, kSs_c, kSs_r, evSs_n, evSs_c, kFr_e, evS_For, kBd_e, contF_next, contF_cont, contF_brk, contF_ret, contW_next, contW_cont, contW_brk, contW_ret, evS_whl, kWh_t, kWh_f, kTv_e, rd_n, rd_s, rd_f, st_n, st_s, st_f, jo_n, jo_sn, ia_n, ia_s, sr_n, rs_n, rs_f, av_n, av_d, av_f, ds_n, ds_c, ag_n, ag_d, ag_f, ow_e, ow_l, tv_d, jo_ss, sr_s, rs_s, kIsx_e, evE_isx, kXf_e, evE_xfld, kIn_e, kCt3_e, kCt2_e, kCt_e, evE_count, kRz2_e, kRz_e, kTry_ok, kTry_exc, evS_try, kSu_ok, rd_x, ag_x, av_x, rs_x, R.ok_bind, R.exc_bind, R.stuck_bind, R.of_some, R.of_none, bindTs, flat, flatAll, List.getElem?_cons_zero, List.getElem?_cons_succ, List.set_cons_zero, List.set_cons_succ, alNew_none, alNew_some, alOp, datsV_star, datsV_star0, parV, bopD, addD, subD, mul_int, fdivD, modD, negD, copD, intsD, truD, idx_t0, idx_t1, idx_t2, idx_t3, idx_l0, idx_l1, idx_l2, idx_l3, idx_fr0, idx_fr1, flat_fr, bindT_fr, Option.getD_some, Option.getD_none, Option.map_some, Option.map_none, Option.bind_some, Option.bind_none, bl_len_t, bl_len_l, bl_abs, bl_int_i, bl_int_b, bl_bool_i, bl_bool_b, bl_list_t, bl_list_l, bl_tuple_t, bl_tuple_l, bl_isTup, bl_isInt, bl_isBool, bl_isStr, bl_isList, List.append_nil, List.nil_append, List.cons_append, Bool.false_eq_true, ite_true, ite_false, if_true, if_false, reduceIte, Bool.true_and, Bool.and_true, Bool.and_self, Bool.not_true, Bool.not_false, Bool.and_false, Bool.false_and, Bool.or_true, Bool.or_false, Bool.true_or, Bool.false_or, List.all_nil, List.all_cons, seqD, lstD, freeze, List.length_cons, List.length_nil, List.length_map, List.length_append, Nat.reduceAdd, Nat.reduceLeDiff, leS, okPut, wipeE, List.contains_cons, List.contains_nil, Nat.reduceBEq, eqD_fr, eqD_int, eqD_str, bindT_nm, bindT_tp, $xs,*])
section
variable {dr : Dr} {T : Tab} {k n m : Nat} {F : Feed} {a b q t : Rat}
end
end Pv
namespace Pv
open PySem L2 GB
local macro_rules | `(tactic| simp! only [$xs,*]) => `(tactic| simp (config := {dsimp := false, implicitDefEqProofs := false}) only [kOut_n, kOut_r, kPut_e, kPl_e, kBo_e, kVar_e, evE_var, evE_con, kBin2_e, kBin_e, evE_bin, kNeg_e, evE_neg, kCmp2_e, kCmp_e, evE_cmp, kCh3_t, kCh3_f, kCh2_e, kCh_e, evE_chain, kAnd_t, kAnd_f, kOr_t, kOr_f, evE_andV, evE_orV, kTru_e, kAnT2_t, kAnT2_f, kOrT2_f, kOrT2_t, kAnT_e, evE_andT, kOrT_e, evE_orT, kNo2_e, kNot_e, evE_not, kIte2_t, kIte2_f, kIte_e, evE_ite, kT2_e, kT_e, evE_tup, kL2_e, kL_e, evE_lst, kItem_e, kIx2_e, kIx_e, evE_idx, kSl3_e, kSl2_e, kSl_e, evE_slc, kRv_e, evE_rev, kRes_e, kCl2_e, kCl_e, evE_call, kDr3_e, kDr2_e, kDr_e, evE_draw, kBl2_e, kBl_e, evE_blt, kLc_e, evE_Lc, kGe2_e, kGe_e, evE_Ge, kEl3_e, kEl2_t, kEl2_f, kEl_e, elemR_e, kEs2_e, kEs_e, evEs_n, evEs_c, kSt3_e, kSt2_e, kSt_e, evEs_s, kO_e, evO_n, evO_y, kIseq2_e, kIseq_e, evI_seq, kIenum2_e, kIenum_e, evI_enum, kIrev2_e, kIrev_e, evI_rev, kRg3_e, kRg2_e, kRg_e, evI_rng, kZ4_e, kZ3_e, kZ2_e, kZ_e, evI_zip, kC2_t, kC2_f, kC_e, evC_n, evC_c, kSe_e, evS_set, kNx_e, kUn_e, evS_unp, kPr2_e, kPr_e, evS_par, kPx3_e, kPx2_e, kPx_e, evS_par3, kAu3_e, kAu2_e, kAu_e, evS_aug, kSx4_e, kSx3_e, kSx2_e, kSx_e, evS_setIx, kAp2_e, kAp_e, evS_app, kPo_e, evS_pop, kRe_e, evS_reverse, kEx_e, evS_ex, kIf2_t, kIf2_f, kIf_e, evS_ite, kRt_e, kRtV_e, evS_retV, evR_con, evR_bin, evR_neg, evR_cmp, evR_chain, evR_andV, evR_orV, evR_andT, evR_orT, evR_ite, evR_tup, evR_lst, evR_idx, evR_slc, evR_rev, evR_call, evR_draw, evR_blt, evR_not, evR_lc, evR_gen, evS_retN, evS_brk, evS_cnt, evS_pas, kSs_n, kSs_b, kSs_c, kSs_r, evSs_n, evSs_c, kFr_e, evS_For, kBd_e, contF_next, contF_cont, contF_brk, contF_ret, contW_next, contW_cont, contW_brk, contW_ret, evS_whl, kWh_t, kWh_f, kTv_e, rd_n, rd_s, rd_f, st_n, st_s, st_f, jo_n, jo_sn, ia_n, ia_s, sr_n, rs_n, rs_f, av_n, av_d, av_f, ds_n, ds_c, ag_n, ag_d, ag_f, ow_e, ow_l, tv_d, jo_ss, sr_s, rs_s, kIsx_e, evE_isx, kXf_e, evE_xfld, kIn_e, kCt3_e, kCt2_e, kCt_e, evE_count, kRz2_e, kRz_e, kTry_ok, kTry_exc, evS_try, kSu_ok, rd_x, ag_x, av_x, rs_x, R.ok_bind, R.exc_bind, R.stuck_bind, R.of_some, R.of_none, bindTs, flat, flatAll, List.getElem?_cons_zero, List.getElem?_cons_succ, List.set_cons_zero, List.set_cons_succ, alNew_none, alNew_some, alOp, datsV_star, datsV_star0, parV, bopD, addD, subD, mul_int, fdivD, modD, negD, copD, intsD, truD, idx_t0, idx_t1, idx_t2, idx_t3, idx_l0, idx_l1, idx_l2, idx_l3, idx_fr0, idx_fr1, flat_fr, bindT_fr, Option.getD_some, Option.getD_none, Option.map_some, Option.map_none, Option.bind_some, Option.bind_none, bl_len_t, bl_len_l, bl_abs, bl_int_i, bl_int_b, bl_bool_i, bl_bool_b, bl_list_t, bl_list_l, bl_tuple_t, bl_tuple_l, bl_isTup, bl_isInt, bl_isBool, bl_isStr, bl_isList, List.append_nil, List.nil_append, List.cons_append, Bool.false_eq_true, ite_true, ite_false, if_true, if_false, reduceIte, Bool.true_and, Bool.and_true, Bool.and_self, Bool.not_true, Bool.not_false, Bool.and_false, Bool.false_and, Bool.or_true, Bool.or_false, Bool.true_or, Bool.false_or, List.all_nil, List.all_cons, seqD, lstD, freeze, List.length_cons, List.length_nil, List.length_map, List.length_append, Nat.reduceAdd, Nat.reduceLeDiff, leS, okPut, wipeE, List.contains_cons, List.contains_nil, Nat.reduceBEq, eqD_fr, eqD_int, eqD_str, bindT_nm, bindT_tp, $xs,*])
section
variable {dr : Dr} {T : Tab} {k n m : Nat} {F : Feed} {a b : Rat}
end
end Pv
namespace Pv
open PySem L2 GB
local macro_rules | `(tactic| simp! only [$xs,*]) => `(tactic| simp (config := {dsimp := false, implicitDefEqProofs := false}) only [kOut_n, kOut_r, kPut_e, kPl_e, kBo_e, kVar_e, evE_var, evE_con, kBin2_e, kBin_e, evE_bin, kNeg_e, evE_neg, kCmp2_e, kCmp_e, evE_cmp, kCh3_t, kCh3_f, kCh2_e, kCh_e, evE_chain, kAnd_t, kAnd_f, kOr_t, kOr_f, evE_andV, evE_orV, kTru_e, kAnT2_t, kAnT2_f, kOrT2_f, kOrT2_t, kAnT_e, evE_andT, kOrT_e, evE_orT, kNo2_e, kNot_e, evE_not, kIte2_t, kIte2_f, kIte_e, evE_ite, kT2_e, kT_e, evE_tup, kL2_e, kL_e, evE_lst, kItem_e, kIx2_e, kIx_e, evE_idx, kSl3_e, kSl2_e, kSl_e, evE_slc, kRv_e, evE_rev, kRes_e, kCl2_e, kCl_e, evE_call, kDr3_e, kDr2_e, kDr_e, evE_draw, kBl2_e, kBl_e, evE_blt, kLc_e, evE_Lc, kGe2_e, kGe_e, evE_Ge, kEl3_e, kEl2_t, kEl2_f, kEl_e, elemR_e, kEs2_e, kEs_e, evEs_n, evEs_c, kSt3_e, kSt2_e, kSt_e, evEs_s, kO_e, evO_n, evO_y, kIseq2_e, kIseq_e, evI_seq, kIenum2_e, kIenum_e, evI_enum, kIrev2_e, kIrev_e, evI_rev, kRg3_e, kRg2_e, kRg_e, evI_rng, kZ4_e, kZ3_e, kZ2_e, kZ_e, evI_zip, kC2_t, kC2_f, kC_e, evC_n, evC_c, kSe_e, evS_set, kNx_e, kUn_e, evS_unp, kPr2_e, kPr_e, evS_par, kPx3_e, kPx2_e, kPx_e, evS_par3, kAu3_e, kAu2_e, kAu_e, evS_aug, kSx4_e, kSx3_e, kSx2_e, kSx_e, evS_setIx, kAp2_e, kAp_e, evS_app, kPo_e, evS_pop, kRe_e, evS_reverse, kEx_e, evS_ex, kIf2_t, kIf2_f, kIf_e, evS_ite, kRt_e, kRtV_e, evS_retV, evR_con, evR_bin, evR_neg, evR_cmp, evR_chain, evR_andV, evR_orV, evR_andT, evR_orT, evR_ite, evR_tup, evR_lst, evR_idx, evR_slc, evR_rev, evR_call, evR_draw, evR_blt, evR_not, evR_lc, evR_gen, evS_retN, evS_brk, evS_cnt, evS_pas, kSs_n, kSs_b, kSs_c, kSs_r, evSs_n, evSs_c, kFr_e, evS_For, kBd_e, contF_next, contF_cont, contF_brk, contF_ret, contW_next, contW_cont, contW_brk, contW_ret, evS_whl, kWh_t, kWh_f, kTv_e, rd_n, rd_s, rd_f, st_n, st_s, st_f, jo_n, jo_sn, ia_n, ia_s, sr_n, rs_n, rs_f, av_n, av_d, av_f, ds_n, ds_c, ag_n, ag_d, ag_f, ow_e, ow_l, tv_d, jo_ss, sr_s, rs_s, kIsx_e, evE_isx, kXf_e, evE_xfld, kIn_e, kCt3_e, kCt2_e, kCt_e, evE_count, kRz2_e, kRz_e, kTry_ok, kTry_exc, evS_try, kSu_ok, rd_x, ag_x, av_x, rs_x, R.ok_bind, R.exc_bind, R.stuck_bind, R.of_some, R.of_none, bindTs, flat, flatAll, List.getElem?_cons_zero, List.getElem?_cons_succ, List.set_cons_zero, List.set_cons_succ, alNew_none, alNew_some, alOp, datsV_star, datsV_star0, parV, bopD, addD, subD, mul_int, fdivD, modD, negD, copD, intsD, truD, idx_t0, idx_t1, idx_t2, idx_t3, idx_l0, idx_l1, idx_l2, idx_l3, idx_fr0, idx_fr1, flat_fr, bindT_fr, Option.getD_some, Option.getD_none, Option.map_some, Option.map_none, Option.bind_some, Option.bind_none, bl_len_t, bl_len_l, bl_abs, bl_int_i, bl_int_b, bl_bool_i, bl_bool_b, bl_list_t, bl_list_l, bl_tuple_t, bl_tuple_l, bl_isTup, bl_isInt, bl_isBool, bl_isStr, bl_isList, List.append_nil, List.nil_append, List.cons_append, Bool.false_eq_true, ite_true, ite_false, if_true, if_false, reduceIte, Bool.true_and, Bool.and_true, Bool.and_self, Bool.not_true, Bool.not_false, Bool.and_false, Bool.false_and, Bool.or_true, Bool.or_false, Bool.true_or, Bool.false_or, List.all_nil, List.all_cons, seqD, lstD, freeze, List.length_cons, List.length_nil, List.length_map, List.length_append, Nat.reduceAdd, Nat.reduceLeDiff, leS, okPut, wipeE, List.contains_cons, List.contains_nil, Nat.reduceBEq, eqD_fr, eqD_int, eqD_str, bindT_nm, bindT_tp, $xs,*])
section
variable {dr : Dr} {T : Tab} {k n m : Nat} {F : Feed} {a b : Rat}
theorem fraction_all_ev [Has T "common_of" f_p_common_of] [Has T "fraction_of" f_p_fraction_of] {t b : Int} (hb : b ≠ 0) : evF dr T (k + 2) "fraction_of" [.d (.int t), .d (.int b)] F = .ok (.dat (fr ((t : Rat) / (b : Rat))) none) F := by
  by_cases h : 0 < b
  · exact fraction_of_ev h
  rw [evH (fn := f_p_fraction_of) rfl]
  show (evSs _ _ [some (.dat (.int t) (some [])), some (.dat (.int b) (some [])), none] F).bind _ = _
  have hb0 : -b ≠ 0 := by omega
  have hnz : ¬ ((Int.gcd (-t) (-b) : Nat) : Int) = 0 := GB.gcd_ne hb0
  obtain ⟨w1, w2⟩ := GB.low_rat (t := -t) hb0
  have eq : (((-t : Int)) : Rat) / ((-b : Int) : Rat) = (t : Rat) / (b : Rat) := by
    have hq : (b : Rat) ≠ 0 := GB.int_ne hb
    rw [Rat.intCast_neg, Rat.intCast_neg]
    generalize (t : Rat) = t at *
    generalize (b : Rat) = b at *
    grind
  rw [eq] at w1 w2
  unfold GB.lo1 GB.sg at w1
  unfold GB.lo2 GB.sg at w2
  rw [if_neg (by omega)] at w1 w2
  have e1 : decide (b = 0) = false := decide_eq_false hb
  have e2 : decide (b < 0) = true := decide_eq_true (by omega)
  have hc := common_pos (T := T) (dr := dr) (k := k) (F := F) (GB.abs_nn (-t)) (show 0 < -b by omega)
  rw [GB.gcd_abs] at hc
  simp! only [f_p_fraction_of, e1, e2, hc, hnz, ne_eq, not_false_eq_true]
  simp only [fr, w1, w2]
theorem xf_over : xflds "NoOver" = [] := rfl
theorem fraction_zero_ev [Has T "fraction_of" f_p_fraction_of] {t : Int} (hz : dr.rz = true) : evF dr T (k + 1) "fraction_of" [.d (.int t), .d (.int 0)] F = .exc ⟨"NoOver", []⟩ F := by
  rw [evH (fn := f_p_fraction_of) rfl]
  show (evSs _ _ [some (.dat (.int t) (some [])), some (.dat (.int 0) (some [])), none] F).bind _ = _
  have rz := fun s es ρ F => evS_raise (c := ⟨evF dr T k, dr⟩) (fn := s) (es := es) (ρ := ρ) (F := F) hz
  have s1 : 1 ≤ sizeLine := by decide
  simp! only [f_p_fraction_of, decide_true, rz, xf_over, s1]
theorem fr_inv (hb : b ≠ 0) : fr b⁻¹ = if 0 < b.num then .tuple [.int b.den, .int b.num] else .tuple [.int (-b.den), .int (-b.num)] := by
  unfold fr
  have hn : b.num ≠ 0 := fun e => hb (Rat.num_eq_zero.mp e)
  rw [Rat.num_inv, Rat.den_inv, if_neg hn]
  by_cases h : 0 < b.num
  · rw [if_pos h, Int.sign_eq_one_of_pos h]
    have : ((b.num.natAbs : Nat) : Int) = b.num := Int.natAbs_of_nonneg (by omega)
    rw [this, Int.one_mul]
  · rw [if_neg h, Int.sign_eq_neg_one_of_neg (by omega)]
    have : ((b.num.natAbs : Nat) : Int) = -b.num := by omega
    rw [this, Int.neg_one_mul]
theorem over_by_ev [Has T "common_of" f_p_common_of] [Has T "times_by" f_p_times_by] [Has T "over_by" f_p_over_by] [ha : Sz n a] [hb : Sz m b] (hz : b ≠ 0) (h : n + m < 100000000) : evF dr T (k + 3) "over_by" [.d (fr a), .d (fr b)] F = .ok (.dat (fr (a / b)) none) F := by
  rw [evH (fn := f_p_over_by) rfl]
  show (evSs _ _ [some (.dat (fr a) (some [])), some (.dat (fr b) (some [])), none, none] F).bind _ = _
  have hn : b.num ≠ 0 := fun e => hz (Rat.num_eq_zero.mp e)
  have e1 : decide (b.num = 0) = false := decide_eq_false hn
  have si : Sz m b⁻¹ := ⟨⟨by
    rw [Rat.num_inv, Int.natAbs_mul, Int.natAbs_sign_of_ne_zero hn, Nat.one_mul]; simpa using hb.bd.2, by
    rw [Rat.den_inv, if_neg hn]; exact hb.bd.1⟩⟩
  have q := fr_inv hz
  have tm : ∀ {F : Feed}, evF dr T (k + 2) "times_by" [.d (fr a), .d (fr b⁻¹)] F = _ := times_by_ev (k := k) (a := a) (b := b⁻¹) h
  rw [← Rat.div_def] at tm
  by_cases hp : 0 < b.num
  · have e2 : decide (0 < b.num) = true := decide_eq_true hp
    rw [if_pos hp] at q
    rw [q] at tm
    simp! only [f_p_over_by, e1, e2, tm]
  · have e2 : decide (0 < b.num) = false := decide_eq_false hp
    rw [if_neg hp] at q
    rw [q] at tm
    simp! only [f_p_over_by, e1, e2, tm]
theorem over_zero_ev [Has T "over_by" f_p_over_by] (hz : dr.rz = true) : evF dr T (k + 1) "over_by" [.d (fr a), .d (fr 0)] F = .exc ⟨"NoOver", []⟩ F := by
  rw [evH (fn := f_p_over_by) rfl]
  show (evSs _ _ [some (.dat (fr a) (some [])), some (.dat (fr 0) (some [])), none, none] F).bind _ = _
  have rz := fun s es ρ F => evS_raise (c := ⟨evF dr T k, dr⟩) (fn := s) (es := es) (ρ := ρ) (F := F) hz
  have s1 : 1 ≤ sizeLine := by decide
  have z0 : (0 : Rat).num = 0 := rfl
  simp! only [f_p_over_by, z0, decide_true, rz, xf_over, s1]
theorem pw6 : powD (.int 10) (.int 6) = some (.int 1000000) := rfl
theorem powLg {b : Nat} (hb : 0 < b) {i j : Nat} (h : i ≤ j) : (b : Int) ^ i ≤ (b : Int) ^ j := by
  rw [← Int.natCast_pow, ← Int.natCast_pow]
  exact Int.ofNat_le.mpr (Nat.pow_le_pow_right hb h)
theorem powL {i j : Nat} (h : i ≤ j) : (1000000 : Int) ^ i ≤ (1000000 : Int) ^ j := powLg (b := 1000000) (by decide) h
theorem number3_ev [Has T "_law_number" g_number_3] {lb rz : Bool} {N : Int} (fd : Fd lb N F) (hn : N + 10 ≤ 1000000) : ∃ (i : Int) (F' : Feed), evF (drD lb rz) T (k + 1) "_law_number" [.feed] F = .ok (.dat (.int i) none) F' ∧ i.natAbs < 2 ^ 87 ∧ Fd lb (N + 8) F' := by
  rw [evH (fn := g_number_3) rfl]
  show ∃ (i : Int) (F' : Feed), (evSs _ _ [some .feed, none, none, none] F).bind _ = _ ∧ _
  obtain ⟨w, F1, e1, h0, h1, f1⟩ := fd.draw 4 (by decide) (by decide) (by omega) rz
  obtain ⟨x, F2, e2, g0, g1, f2⟩ := f1.draw 100 (by decide) (by decide) (by omega) rz
  have fin : ∀ (x : Int) (o : Option Val) (G : Feed) (M : Int), 0 ≤ x → x.natAbs < 2 ^ 87 → Fd lb M G → M + 1 ≤ 1000000 → ∃ (i : Int) (F' : Feed), (evSs ⟨evF (drD lb rz) T k, drD lb rz⟩ (.cons (.ret (.bin .mul (.var 2) (.bin .sub (.con (.int 1)) (.bin .mul (.con (.int 2)) (.draw 0 (.con (.int 2))))))) .nil) [some .feed, some (.dat (.int w) none), some (.dat (.int x) none), o] G).bind kOut = .ok (.dat (.int i) none) F' ∧ i.natAbs < 2 ^ 87 ∧ Fd lb (M + 1) F' := by
    intro x o G M x0 x1 f hM
    obtain ⟨s, F3, e3, s0, s1, f3⟩ := f.draw 2 (by decide) (by decide) (by omega) rz
    have m0 := GB.log2_lt_of x1
    obtain rfl | rfl : s = 0 ∨ s = 1 := by omega
    · have m1 : okMul 2 0 = true := by decide
      have m2 : okMul x (1 - 2 * 0) = true := okMul_of (B := 87) (C := 1) (by omega) (by decide) (by decide)
      simp! only [e3, m1, m2]
      exact ⟨_, _, rfl, by omega, f3⟩
    · have m1 : okMul 2 1 = true := by decide
      have m2 : okMul x (1 - 2 * 1) = true := okMul_of (B := 87) (C := 1) (by omega) (by decide) (by decide)
      simp! only [e3, m1, m2]
      exact ⟨_, _, rfl, by omega, f3⟩
  generalize hE : (ISs.cons (.ret (.bin .mul (.var 2) (.bin .sub (.con (.int 1)) (.bin .mul (.con (.int 2)) (.draw 0 (.con (.int 2))))))) .nil) = END at fin
  by_cases z : w = 0
  · subst z
    obtain ⟨j0, F3, e3, j1, j2, f3⟩ := f2.draw 5 (by decide) (by decide) (by omega) rz
    obtain ⟨j, rfl⟩ : ∃ j : Nat, j0 = (j : Int) := ⟨j0.toNat, by omega⟩
    suffices h : Ok ((evSs ⟨evF (drD lb rz) T k, drD lb rz⟩ g_number_3.body [some .feed, none, none, none] F).bind kOut) fun v F' => ∃ i : Int, v = .dat (.int i) none ∧ i.natAbs < 2 ^ 87 ∧ Fd lb (N + 8) F' by
      obtain ⟨v, F', e, i, rfl, b⟩ := h
      exact ⟨i, F', e, b⟩
    rw [show g_number_3.body = _ from rfl]
    simp! only [g_number_3, hE, e1, e2, decide_true, e3, rng_nat (show j ≤ 100000000 by omega)]
    simp only [R.bind_assoc]
    refine loopF_inv (fun pre ρ F' => ∃ (x : Int) (o : Option Val), ρ = [some .feed, some (.dat (.int 0) none), some (.dat (.int x) none), o] ∧ 0 ≤ x ∧ x < 100 * 1000000 ^ pre.length ∧ Fd lb (N + 3 + (pre.length : Int)) F') ⟨x, none, rfl, g0, by simpa using g1, f3.mono (by simp; omega)⟩ ?_ ?_
    · rintro pre y post ρ F' e ⟨x, o, rfl, x0, x1, f⟩
      have hl : pre.length ≤ 3 := by
        have := congrArg List.length e
        simp at this
        omega
      obtain ⟨d, F4, e4, d0, d1, f4⟩ := f.draw 1000000 (by decide) (by decide) (by omega) rz
      have p4 : (1000000 : Int) ^ pre.length ≤ 1000000 ^ 3 := powL hl
      have m0 := GB.log2_lt_of (show x.natAbs < 2 ^ 80 by omega)
      have m1 : okMul x 1000000 = true := okMul_of (B := 80) (C := 80) (by omega) (by decide) (by decide)
      simp! only [pw6, m1, e4]
      refine Ok.ok ⟨_, .inl rfl, _, _, rfl, by omega, ?_, f4.mono (by simp; omega)⟩
      rw [Int.pow_succ]
      omega
    · rintro ρ F' ⟨x, o, rfl, x0, x1, f⟩
      rw [List.length_range] at x1 f
      have p4 : (1000000 : Int) ^ j ≤ 1000000 ^ 4 := powL (by omega)
      obtain ⟨i, F5, e5, b5, f5⟩ := fin x o F' _ x0 (by omega) f (by omega)
      simp! only [e5]
      exact Ok.ok ⟨i, rfl, b5, f5.mono (by omega)⟩
  · have zd : decide (w = 0) = false := decide_eq_false z
    obtain ⟨i, F5, e5, b5, f5⟩ := fin x none F2 _ g0 (by omega) f2 (by omega)
    refine ⟨i, F5, ?_, b5, f5.mono (by omega)⟩
    rw [show g_number_3.body = _ from rfl]
    simp! only [g_number_3, hE, e1, e2, zd]
    exact e5
theorem fraction2_ev [Has T "_law_lowest" g_lowest_1] [Has T "_law_number" g_number_3] [Has T "_law_fraction" g_fraction_2] {lb rz : Bool} {N : Int} (fd : Fd lb N F) (hn : N + 20 ≤ 1000000) : ∃ (q : Rat) (F' : Feed), evF (drD lb rz) T (k + 2) "_law_fraction" [.feed] F = .ok (.dat (fr q) none) F' ∧ GB.Bd 87 q ∧ Fd lb (N + 16) F' := by
  rw [evH (fn := g_fraction_2) rfl]
  show ∃ (q : Rat) (F' : Feed), (evSs _ _ [some .feed, none, none] F).bind _ = _ ∧ _
  obtain ⟨i, F1, e1, b1, f1⟩ := number3_ev (T := T) (k := k) (rz := rz) fd (by omega)
  obtain ⟨j, F2, e2, b2, f2⟩ := number3_ev (T := T) (k := k) (rz := rz) f1 (by omega)
  by_cases z : j = 0
  · subst z
    simp! only [g_fraction_2, e1, e2, decide_true, lowest_ev (show (1 : Int) ≠ 0 by decide)]
    exact ⟨_, _, rfl, bd_div (by decide) b1 (by decide), f2.mono (by omega)⟩
  · have zd : decide (j = 0) = false := decide_eq_false z
    simp! only [g_fraction_2, e1, e2, zd, lowest_ev z]
    exact ⟨_, _, rfl, bd_div z b1 b2, f2.mono (by omega)⟩
end
end Pv
namespace Pv
open PySem L2 GB
local macro_rules | `(tactic| simp! only [$xs,*]) => `(tactic| simp (config := {dsimp := false, implicitDefEqProofs := false}) only [kOut_n, kOut_r, kPut_e, kPl_e, kBo_e, kVar_e, evE_var, evE_con, kBin2_e, kBin_e, evE_bin, kNeg_e, evE_neg, kCmp2_e, kCmp_e, evE_cmp, kCh3_t, kCh3_f, kCh2_e, kCh_e, evE_chain, kAnd_t, kAnd_f, kOr_t, kOr_f, evE_andV, evE_orV, kTru_e, kAnT2_t, kAnT2_f, kOrT2_f, kOrT2_t, kAnT_e, evE_andT, kOrT_e, evE_orT, kNo2_e, kNot_e, evE_not, kIte2_t, kIte2_f, kIte_e, evE_ite, kT2_e, kT_e, evE_tup, kL2_e, kL_e, evE_lst, kItem_e, kIx2_e, kIx_e, evE_idx, kSl3_e, kSl2_e, kSl_e, evE_slc, kRv_e, evE_rev, kRes_e, kCl2_e, kCl_e, evE_call, kDr3_e, kDr2_e, kDr_e, evE_draw, kBl2_e, kBl_e, evE_blt, kLc_e, evE_Lc, kGe2_e, kGe_e, evE_Ge, kEl3_e, kEl2_t, kEl2_f, kEl_e, elemR_e, kEs2_e, kEs_e, evEs_n, evEs_c, kSt3_e, kSt2_e, kSt_e, evEs_s, kO_e, evO_n, evO_y, kIseq2_e, kIseq_e, evI_seq, kIenum2_e, kIenum_e, evI_enum, kIrev2_e, kIrev_e, evI_rev, kRg3_e, kRg2_e, kRg_e, evI_rng, kZ4_e, kZ3_e, kZ2_e, kZ_e, evI_zip, kC2_t, kC2_f, kC_e, evC_n, evC_c, kSe_e, evS_set, kNx_e, kUn_e, evS_unp, kPr2_e, kPr_e, evS_par, kPx3_e, kPx2_e, kPx_e, evS_par3, kAu3_e, kAu2_e, kAu_e, evS_aug, kSx4_e, kSx3_e, kSx2_e, kSx_e, evS_setIx, kAp2_e, kAp_e, evS_app, kPo_e, evS_pop, kRe_e, evS_reverse, kEx_e, evS_ex, kIf2_t, kIf2_f, kIf_e, evS_ite, kRt_e, kRtV_e, evS_retV, evR_con, evR_bin, evR_neg, evR_cmp, evR_chain, evR_andV, evR_orV, evR_andT, evR_orT, evR_ite, evR_tup, evR_lst, evR_idx, evR_slc, evR_rev, evR_call, evR_draw, evR_blt, evR_not, evR_lc, evR_gen, evS_retN, evS_brk, evS_cnt, evS_pas, kSs_n, kSs_b, kSs_c, kSs_r, evSs_n, evSs_c, kFr_e, evS_For, kBd_e, contF_next, contF_cont, contF_brk, contF_ret, contW_next, contW_cont, contW_brk, contW_ret, evS_whl, kWh_t, kWh_f, kTv_e, rd_n, rd_s, rd_f, st_n, st_s, st_f, jo_n, jo_sn, ia_n, ia_s, sr_n, rs_n, rs_f, av_n, av_d, av_f, ds_n, ds_c, ag_n, ag_d, ag_f, ow_e, ow_l, tv_d, jo_ss, sr_s, rs_s, kIsx_e, evE_isx, kXf_e, evE_xfld, kIn_e, kCt3_e, kCt2_e, kCt_e, evE_count, kRz2_e, kRz_e, kTry_ok, kTry_exc, evS_try, kSu_ok, rd_x, ag_x, av_x, rs_x, R.ok_bind, R.exc_bind, R.stuck_bind, R.of_some, R.of_none, bindTs, flat, flatAll, List.getElem?_cons_zero, List.getElem?_cons_succ, List.set_cons_zero, List.set_cons_succ, alNew_none, alNew_some, alOp, datsV_star, datsV_star0, parV, bopD, addD, subD, mul_int, fdivD, modD, negD, copD, intsD, truD, idx_t0, idx_t1, idx_t2, idx_t3, idx_l0, idx_l1, idx_l2, idx_l3, idx_fr0, idx_fr1, flat_fr, bindT_fr, Option.getD_some, Option.getD_none, Option.map_some, Option.map_none, Option.bind_some, Option.bind_none, bl_len_t, bl_len_l, bl_abs, bl_int_i, bl_int_b, bl_bool_i, bl_bool_b, bl_list_t, bl_list_l, bl_tuple_t, bl_tuple_l, bl_isTup, bl_isInt, bl_isBool, bl_isStr, bl_isList, List.append_nil, List.nil_append, List.cons_append, Bool.false_eq_true, ite_true, ite_false, if_true, if_false, reduceIte, Bool.true_and, Bool.and_true, Bool.and_self, Bool.not_true, Bool.not_false, Bool.and_false, Bool.false_and, Bool.or_true, Bool.or_false, Bool.true_or, Bool.false_or, List.all_nil, List.all_cons, seqD, lstD, freeze, List.length_cons, List.length_nil, List.length_map, List.length_append, Nat.reduceAdd, Nat.reduceLeDiff, leS, okPut, wipeE, List.contains_cons, List.contains_nil, Nat.reduceBEq, eqD_fr, eqD_int, eqD_str, bindT_nm, bindT_tp, $xs,*])
theorem xs_NoCut : (["NoCut"].any (xsub "NoOver")) = false := by decide
theorem xs_NoKnot : (["NoKnot"].any (xsub "NoOver")) = false := by decide
theorem xs_NoKnots : (["NoKnots"].any (xsub "NoOver")) = false := by decide
theorem xs_NoOne : (["NoOne"].any (xsub "NoOver")) = false := by decide
theorem xs_NoOver : (["NoOver"].any (xsub "NoOver")) = true := by decide
theorem xs_NoPaper : (["NoPaper"].any (xsub "NoOver")) = false := by decide
theorem xs_NoPlace : (["NoPlace"].any (xsub "NoOver")) = false := by decide
theorem xs_NoPoint : (["NoPoint"].any (xsub "NoOver")) = false := by decide
theorem xs_NoShares : (["NoShares"].any (xsub "NoOver")) = false := by decide
theorem xs_NoSheet : (["NoSheet"].any (xsub "NoOver")) = false := by decide
theorem xs_NoSmooth : (["NoSmooth"].any (xsub "NoOver")) = false := by decide
theorem xs_NoStretch : (["NoStretch"].any (xsub "NoOver")) = false := by decide
theorem xs_NoTask : (["NoTask"].any (xsub "NoOver")) = false := by decide
theorem xs_NoText : (["NoText"].any (xsub "NoOver")) = false := by decide
theorem xs_Twice : (["Twice"].any (xsub "NoOver")) = false := by decide
theorem xs_ValueError : (["ValueError"].any (xsub "NoOver")) = true := by decide
theorem xs_BendError : (["BendError"].any (xsub "NoOver")) = true := by decide
section
variable {dr : Dr} {T : Tab} {k n m : Nat} {F : Feed} {a b : Rat}
theorem alone_ev [Has T "_law_is_alone" f_is_alone] : evF dr T (k + 1) "_law_is_alone" [.exc ⟨"NoOver", []⟩, .d (.bool true)] F = .ok (.dat (.bool true) none) F := by
  rw [evH (fn := f_is_alone) rfl]
  show (evSs _ _ [some (.exc ⟨"NoOver", []⟩), some (.dat (.bool true) (some [])), none] F).bind _ = _
  have hc : countD [.bool false, .bool false, .bool false, .bool false, .bool true, .bool false, .bool false, .bool false, .bool false, .bool false, .bool false, .bool false, .bool false, .bool false, .bool false] (.bool true) = some 1 := by decide
  have s4 : 4 ≤ sizeLine := by decide
  have s8 : 8 ≤ sizeLine := by decide
  have s12 : 12 ≤ sizeLine := by decide
  have s15 : 15 ≤ sizeLine := by decide
  simp! only [f_is_alone, xs_NoCut, xs_NoKnot, xs_NoKnots, xs_NoOne, xs_NoOver, xs_NoPaper, xs_NoPlace, xs_NoPoint, xs_NoShares, xs_NoSheet, xs_NoSmooth, xs_NoStretch, xs_NoTask, xs_NoText, xs_Twice, xs_ValueError, xs_BendError, hc, seqL, decide_true, s4, s8, s12, s15]
theorem told0_ok [Has T "common_of" f_p_common_of] [Has T "fraction_of" f_p_fraction_of] [Has T "_law_told" f_told] {t d : Int} (hd : d ≠ 0) : evF dr T (k + 3) "_law_told" [.d (.int 0), .d (.int t), .d (.int d)] F = .ok (.dat (.tuple [.str "told", fr ((t : Rat) / (d : Rat))]) none) F := by
  rw [evH (fn := f_told) rfl]
  show (evSs _ _ [some (.dat (.int 0) (some [])), some (.dat (.int t) (some [])), some (.dat (.int d) (some [])), none, none] F).bind _ = _
  simp! only [f_told, decide_true, fraction_all_ev hd]
theorem told0_no [Has T "fraction_of" f_p_fraction_of] [Has T "_law_is_alone" f_is_alone] [Has T "_law_told" f_told] {t : Int} (hz : dr.rz = true) : evF dr T (k + 2) "_law_told" [.d (.int 0), .d (.int t), .d (.int 0)] F = .ok (.dat (.tuple [.str "refused", .bool true]) none) F := by
  rw [evH (fn := f_told) rfl]
  show (evSs _ _ [some (.dat (.int 0) (some [])), some (.dat (.int t) (some [])), some (.dat (.int 0) (some [])), none, none] F).bind _ = _
  have hs : xsub (Exc.cls ⟨"NoOver", []⟩) "BendError" = true := by decide
  simp! only [f_told, decide_true, fraction_zero_ev hz, evXh_t hs, suiteE, goneF, List.replicate, xs_NoCut, xs_NoKnot, xs_NoKnots, xs_NoOne, xs_NoOver, xs_NoPaper, xs_NoPlace, xs_NoPoint, xs_NoShares, xs_NoSheet, xs_NoSmooth, xs_NoStretch, xs_NoTask, xs_NoText, xs_Twice, xs_ValueError, xs_BendError, alone_ev]
theorem told1_ok [Has T "common_of" f_p_common_of] [Has T "times_by" f_p_times_by] [Has T "over_by" f_p_over_by] [Has T "_law_told" f_told] [ha : Sz n a] [hb : Sz m b] (hz : b ≠ 0) (h : n + m < 100000000) : evF dr T (k + 4) "_law_told" [.d (.int 1), .d (fr a), .d (fr b)] F = .ok (.dat (.tuple [.str "told", fr (a / b)]) none) F := by
  rw [evH (fn := f_told) rfl]
  show (evSs _ _ [some (.dat (.int 1) (some [])), some (.dat (fr a) (some [])), some (.dat (fr b) (some [])), none, none] F).bind _ = _
  have e1 : decide ((1 : Int) = 0) = false := by decide
  simp! only [f_told, e1, over_by_ev hz h]
theorem told1_no [Has T "over_by" f_p_over_by] [Has T "_law_is_alone" f_is_alone] [Has T "_law_told" f_told] (hz : dr.rz = true) : evF dr T (k + 2) "_law_told" [.d (.int 1), .d (fr a), .d (fr 0)] F = .ok (.dat (.tuple [.str "refused", .bool true]) none) F := by
  rw [evH (fn := f_told) rfl]
  show (evSs _ _ [some (.dat (.int 1) (some [])), some (.dat (fr a) (some [])), some (.dat (fr 0) (some [])), none, none] F).bind _ = _
  have e1 : decide ((1 : Int) = 0) = false := by decide
  have hs : xsub (Exc.cls ⟨"NoOver", []⟩) "BendError" = true := by decide
  simp! only [f_told, e1, over_zero_ev hz, evXh_t hs, suiteE, goneF, List.replicate, xs_NoCut, xs_NoKnot, xs_NoKnots, xs_NoOne, xs_NoOver, xs_NoPaper, xs_NoPlace, xs_NoPoint, xs_NoShares, xs_NoSheet, xs_NoSmooth, xs_NoStretch, xs_NoTask, xs_NoText, xs_Twice, xs_ValueError, xs_BendError, alone_ev]
end
theorem minus_q (a b : Rat) : ((a.num * (b.den : Int) - b.num * (a.den : Int) : Int) : Rat) / (((a.den : Int) * (b.den : Int) : Int) : Rat) = a - b := by
  have := GB.lplus_rat a (-b)
  obtain ⟨h1, h2⟩ := GB.neg_rat b
  rw [h1, h2, Int.neg_mul] at this
  rw [Int.sub_eq_add_neg, this]
  grind
theorem over_q {a b : Rat} (hz : b ≠ 0) : ((a.num * (b.den : Int) : Int) : Rat) / (((a.den : Int) * b.num : Int) : Rat) = a / b := by
  have nz : b.num ≠ 0 := fun e => hz (Rat.num_eq_zero.mp e)
  have h1 := numden a
  have h2 := numden b
  have d1 : ((a.den : Int) : Rat) ≠ 0 := GB.int_ne (by have := GB.pos_den a; omega)
  have d2 : ((b.den : Int) : Rat) ≠ 0 := GB.int_ne (by have := GB.pos_den b; omega)
  have d3 : (b.num : Rat) ≠ 0 := GB.int_ne nz
  rw [Rat.intCast_mul, Rat.intCast_mul]
  conv => rhs; rw [← h1, ← h2]
  generalize (a.num : Rat) = x at *
  generalize ((a.den : Int) : Rat) = y at *
  generalize (b.num : Rat) = z at *
  generalize ((b.den : Int) : Rat) = w at *
  grind
theorem rp_str4 : Rp 40 0 (.str "told") := ⟨by decide, by decide +kernel, by decide⟩
theorem rp_str7 : Rp 40 0 (.str "refused") := ⟨by decide, by decide +kernel, by decide⟩
theorem rp_told {q : Rat} (h : GB.Bd 12000 q) : Rp 9000 2 (.tuple [.str "told", fr q]) := (Rp.tup (.cons (rp_str4.mono (Nat.le_refl _) (by decide)) (.cons (Rp.fr h) .nil))).mono (by decide) (by decide)
theorem rp_ref : Rp 9000 2 (.tuple [.str "refused", .bool true]) := (Rp.tup (.cons rp_str7 (.cons (Rp.bool true) .nil))).mono (by decide) (by decide)
theorem rp_three {a b c : Rat} (h : GB.Bd 12000 a) (g : GB.Bd 12000 b) (i : GB.Bd 12000 c) : Rp 30000 2 (.list [fr a, fr b, fr c]) := (Rp.lst (.cons (Rp.fr h) (.cons (Rp.fr g) (.cons (Rp.fr i) .nil)))).mono (by decide) (by decide)
theorem right_ev {k : Nat} {F : Feed} {a b : Rat} {t d : Int} (ha : GB.Bd 200 a) (hb : GB.Bd 200 b) (ht : t.natAbs < 2 ^ 90) (hd : d.natAbs < 2 ^ 90) : evF (drD false true) tab (k + 6) "_law_right" [.d (fr a), .d (fr b), .d (.int t), .d (.int d)] F = .ok (.dat (.bool true) none) F := by
  rw [evH (fn := f_right) rfl]
  show (evSs _ _ [some (.dat (fr a) (some [])), some (.dat (fr b) (some [])), some (.dat (.int t) (some [])), some (.dat (.int d) (some [])), none] F).bind _ = _
  have sa : Sz 200 a := ⟨ha⟩
  have sb : Sz 200 b := ⟨hb⟩
  have l1 : okMul a.num b.den = true := okMul_bd ha.1 (den_bd hb) (by omega)
  have l2 : okMul b.num a.den = true := okMul_bd hb.1 (den_bd ha) (by omega)
  have l3 : okMul a.den b.den = true := okMul_bd (den_bd ha) (den_bd hb) (by omega)
  have l4 : okMul a.num b.num = true := okMul_bd ha.1 hb.1 (by omega)
  have l5 : okMul a.den b.num = true := okMul_bd (den_bd ha) hb.1 (by omega)
  have o1 : ∀ {F : Feed}, evF (drD false true) tab (k + 5) "_law_lowest" [.d (.int (a.num * b.den + b.num * a.den)), .d (.int (a.den * b.den))] F = _ := lowest_ev (k := k + 4) (den_mul_ne a b)
  rw [GB.lplus_rat] at o1
  have o2 : ∀ {F : Feed}, evF (drD false true) tab (k + 5) "_law_lowest" [.d (.int (a.num * b.den - b.num * a.den)), .d (.int (a.den * b.den))] F = _ := lowest_ev (k := k + 4) (den_mul_ne a b)
  rw [minus_q] at o2
  have o3 : ∀ {F : Feed}, evF (drD false true) tab (k + 5) "_law_lowest" [.d (.int (a.num * b.num)), .d (.int (a.den * b.den))] F = _ := lowest_ev (k := k + 4) (den_mul_ne a b)
  rw [GB.ltimes_rat] at o3
  have p1 : ∀ {F : Feed}, evF (drD false true) tab (k + 5) "plus_by" [.d (fr a), .d (fr b)] F = _ := plus_by_ev (k := k + 3) (show 200 + 200 < 100000000 by decide)
  have p2 : ∀ {F : Feed}, evF (drD false true) tab (k + 5) "minus_by" [.d (fr a), .d (fr b)] F = _ := minus_by_ev (k := k + 2) (show 200 + 200 < 100000000 by decide)
  have p3 : ∀ {F : Feed}, evF (drD false true) tab (k + 5) "times_by" [.d (fr a), .d (fr b)] F = _ := times_by_ev (k := k + 3) (show 200 + 200 < 100000000 by decide)
  have r3 := repr_ev (rp_three ((GB.bd_add ha hb).mono (by decide)) ((GB.bd_sub ha hb).mono (by decide)) ((GB.bd_mul ha hb).mono (by decide))) (by decide) (by decide)
  have rr := repr_ev rp_ref (by decide) (by decide)
  have s3 : 3 ≤ sizeLine := by decide
  have u1 : 1 < sizeLine := by decide
  have u2 : 2 < sizeLine := by decide
  have s2 : 2 ≤ sizeLine := by decide
  have one : ∀ {F : Feed}, ∃ v : PyData, v = (if b = 0 then .tuple [.str "refused", .bool true] else .tuple [.str "told", fr (a / b)]) ∧ evF (drD false true) tab (k + 5) "_law_told" [.d (.int 1), .d (fr a), .d (fr b)] F = .ok (.dat v none) F ∧ bltD .repr [v] = some (.str v.shown) := by
    intro F
    by_cases z : b = 0
    · subst z
      exact ⟨_, rfl, told1_no (k := k + 3) rfl, rr⟩
    · rw [if_neg z]
      have si : GB.Bd 12000 (a / b) := by
        rw [← over_q z]
        exact (bd_div (B := 400) (Int.mul_ne_zero (by have := GB.pos_den a; omega) fun e => z (Rat.num_eq_zero.mp e)) (mul_bd ha.1 (den_bd hb)) (mul_bd (den_bd ha) hb.1)).mono (by decide)
      exact ⟨_, rfl, told1_ok (k := k + 1) z (show 200 + 200 < 100000000 by decide), repr_ev (rp_told si) (by decide) (by decide)⟩
  have two : ∀ {F : Feed}, ∃ v : PyData, v = (if d = 0 then .tuple [.str "refused", .bool true] else .tuple [.str "told", fr ((t : Rat) / (d : Rat))]) ∧ evF (drD false true) tab (k + 5) "_law_told" [.d (.int 0), .d (.int t), .d (.int d)] F = .ok (.dat v none) F ∧ bltD .repr [v] = some (.str v.shown) := by
    intro F
    by_cases z : d = 0
    · subst z
      exact ⟨_, rfl, told0_no (k := k + 3) rfl, rr⟩
    · rw [if_neg z]
      exact ⟨_, rfl, told0_ok (k := k + 2) z, repr_ev (rp_told ((bd_div z ht hd).mono (by decide))) (by decide) (by decide)⟩
  obtain ⟨v1, q1, t1, w1⟩ := one (F := F)
  obtain ⟨v2, q2, t2, w2⟩ := two (F := F)
  by_cases z : b = 0
  · have zz : decide (b.num = 0) = true := by rw [numz]; exact decide_eq_true z
    rw [if_pos z] at q1
    subst q1
    by_cases y : d = 0
    · have yy : decide (d = 0) = true := decide_eq_true y
      rw [if_pos y] at q2
      subst q2
      simp! only [f_right, l1, l2, l3, l4, l5, o1, o2, o3, p1, p2, p3, r3, rr, s3, s2, u1, u2, and_true, zz, yy, t1, t2, decide_true]
    · have yy : decide (d = 0) = false := decide_eq_false y
      rw [if_neg y] at q2
      subst q2
      simp! only [f_right, l1, l2, l3, l4, l5, o1, o2, o3, p1, p2, p3, r3, rr, s3, s2, u1, u2, and_true, zz, yy, t1, t2, w2, lowest_ev y, decide_true]
  · have zz : decide (b.num = 0) = false := by rw [numz]; exact decide_eq_false z
    have o4 : ∀ {F : Feed}, evF (drD false true) tab (k + 5) "_law_lowest" [.d (.int (a.num * b.den)), .d (.int (a.den * b.num))] F = _ := lowest_ev (k := k + 4) (Int.mul_ne_zero (by have := GB.pos_den a; omega) fun e => z (Rat.num_eq_zero.mp e))
    rw [over_q z] at o4
    rw [if_neg z] at q1
    subst q1
    by_cases y : d = 0
    · have yy : decide (d = 0) = true := decide_eq_true y
      rw [if_pos y] at q2
      subst q2
      simp! only [f_right, l1, l2, l3, l4, l5, o1, o2, o3, o4, p1, p2, p3, r3, rr, s3, s2, u1, u2, and_true, zz, yy, t1, t2, w1, decide_true]
    · have yy : decide (d = 0) = false := decide_eq_false y
      rw [if_neg y] at q2
      subst q2
      simp! only [f_right, l1, l2, l3, l4, l5, o1, o2, o3, o4, p1, p2, p3, r3, rr, s3, s2, u1, u2, and_true, zz, yy, t1, t2, w1, w2, lowest_ev y, decide_true]
end Pv
namespace Pv
open PySem L2 GB
local macro_rules | `(tactic| simp! only [$xs,*]) => `(tactic| simp (config := {dsimp := false, implicitDefEqProofs := false}) only [kOut_n, kOut_r, kPut_e, kPl_e, kBo_e, kVar_e, evE_var, evE_con, kBin2_e, kBin_e, evE_bin, kNeg_e, evE_neg, kCmp2_e, kCmp_e, evE_cmp, kCh3_t, kCh3_f, kCh2_e, kCh_e, evE_chain, kAnd_t, kAnd_f, kOr_t, kOr_f, evE_andV, evE_orV, kTru_e, kAnT2_t, kAnT2_f, kOrT2_f, kOrT2_t, kAnT_e, evE_andT, kOrT_e, evE_orT, kNo2_e, kNot_e, evE_not, kIte2_t, kIte2_f, kIte_e, evE_ite, kT2_e, kT_e, evE_tup, kL2_e, kL_e, evE_lst, kItem_e, kIx2_e, kIx_e, evE_idx, kSl3_e, kSl2_e, kSl_e, evE_slc, kRv_e, evE_rev, kRes_e, kCl2_e, kCl_e, evE_call, kDr3_e, kDr2_e, kDr_e, evE_draw, kBl2_e, kBl_e, evE_blt, kLc_e, evE_Lc, kGe2_e, kGe_e, evE_Ge, kEl3_e, kEl2_t, kEl2_f, kEl_e, elemR_e, kEs2_e, kEs_e, evEs_n, evEs_c, kSt3_e, kSt2_e, kSt_e, evEs_s, kO_e, evO_n, evO_y, kIseq2_e, kIseq_e, evI_seq, kIenum2_e, kIenum_e, evI_enum, kIrev2_e, kIrev_e, evI_rev, kRg3_e, kRg2_e, kRg_e, evI_rng, kZ4_e, kZ3_e, kZ2_e, kZ_e, evI_zip, kC2_t, kC2_f, kC_e, evC_n, evC_c, kSe_e, evS_set, kNx_e, kUn_e, evS_unp, kPr2_e, kPr_e, evS_par, kPx3_e, kPx2_e, kPx_e, evS_par3, kAu3_e, kAu2_e, kAu_e, evS_aug, kSx4_e, kSx3_e, kSx2_e, kSx_e, evS_setIx, kAp2_e, kAp_e, evS_app, kPo_e, evS_pop, kRe_e, evS_reverse, kEx_e, evS_ex, kIf2_t, kIf2_f, kIf_e, evS_ite, kRt_e, kRtV_e, evS_retV, evR_con, evR_bin, evR_neg, evR_cmp, evR_chain, evR_andV, evR_orV, evR_andT, evR_orT, evR_ite, evR_tup, evR_lst, evR_idx, evR_slc, evR_rev, evR_call, evR_draw, evR_blt, evR_not, evR_lc, evR_gen, evS_retN, evS_brk, evS_cnt, evS_pas, kSs_n, kSs_b, kSs_c, kSs_r, evSs_n, evSs_c, kFr_e, evS_For, kBd_e, contF_next, contF_cont, contF_brk, contF_ret, contW_next, contW_cont, contW_brk, contW_ret, evS_whl, kWh_t, kWh_f, kTv_e, rd_n, rd_s, rd_f, st_n, st_s, st_f, jo_n, jo_sn, ia_n, ia_s, sr_n, rs_n, rs_f, av_n, av_d, av_f, ds_n, ds_c, ag_n, ag_d, ag_f, ow_e, ow_l, tv_d, jo_ss, sr_s, rs_s, kIsx_e, evE_isx, kXf_e, evE_xfld, kIn_e, kCt3_e, kCt2_e, kCt_e, evE_count, kRz2_e, kRz_e, kTry_ok, kTry_exc, evS_try, kSu_ok, rd_x, ag_x, av_x, rs_x, R.ok_bind, R.exc_bind, R.stuck_bind, R.of_some, R.of_none, bindTs, flat, flatAll, List.getElem?_cons_zero, List.getElem?_cons_succ, List.set_cons_zero, List.set_cons_succ, alNew_none, alNew_some, alOp, datsV_star, datsV_star0, parV, bopD, addD, subD, mul_int, fdivD, modD, negD, copD, intsD, truD, idx_t0, idx_t1, idx_t2, idx_t3, idx_l0, idx_l1, idx_l2, idx_l3, idx_fr0, idx_fr1, flat_fr, bindT_fr, Option.getD_some, Option.getD_none, Option.map_some, Option.map_none, Option.bind_some, Option.bind_none, bl_len_t, bl_len_l, bl_abs, bl_int_i, bl_int_b, bl_bool_i, bl_bool_b, bl_list_t, bl_list_l, bl_tuple_t, bl_tuple_l, bl_isTup, bl_isInt, bl_isBool, bl_isStr, bl_isList, List.append_nil, List.nil_append, List.cons_append, Bool.false_eq_true, ite_true, ite_false, if_true, if_false, reduceIte, Bool.true_and, Bool.and_true, Bool.and_self, Bool.not_true, Bool.not_false, Bool.and_false, Bool.false_and, Bool.or_true, Bool.or_false, Bool.true_or, Bool.false_or, List.all_nil, List.all_cons, seqD, lstD, freeze, List.length_cons, List.length_nil, List.length_map, List.length_append, Nat.reduceAdd, Nat.reduceLeDiff, leS, okPut, wipeE, List.contains_cons, List.contains_nil, Nat.reduceBEq, eqD_fr, eqD_int, eqD_str, bindT_nm, bindT_tp, $xs,*])
theorem rg2 : rngD [.int 2] = some [.int 0, .int 1] := rfl
theorem law_end {a b : Rat} {w : Int} {v5 : Option Val} {F : Feed} (ha : GB.Bd 200 a) (hb : GB.Bd 200 b) {N : Int} (fd : Fd false N F) (hn : N + 30 ≤ 1000000) : Ok (evSs ⟨evF (drD false true) tab 12, drD false true⟩ (tailSs 4 f_p_law.body) [none, some .feed, some (.dat (.int w) none), some (.dat (fr a) none), some (.dat (fr b) none), v5, none, none, none] F) fun fl F' => fl = .ret (.dat (.bool true) none) := by
  obtain ⟨i, F1, e1, b1, f1⟩ := number3_ev (T := tab) (k := 11) (rz := true) fd (by omega)
  obtain ⟨j, F2, e2, b2, f2⟩ := number3_ev (T := tab) (k := 11) (rz := true) f1 (by omega)
  obtain ⟨u, F3, e3, u0, u1, f3⟩ := f2.draw 4 (by decide) (by decide) (by omega) true
  have m0 := GB.log2_lt_of b2
  obtain ⟨t, ht, hm, hB⟩ : ∃ t : Int, t = (if decide (0 < u) = true then 1 else 0) ∧ okMul j t = true ∧ (j * t).natAbs < 2 ^ 90 := by
    refine ⟨_, rfl, ?_, ?_⟩
    · split
      · exact okMul_of (B := 87) (C := 1) (by omega) (by decide) (by decide)
      · exact okMul_of (B := 87) (C := 1) (by omega) (by decide) (by decide)
    · split <;> omega
  have b1' : i.natAbs < 2 ^ 90 := by omega
  have R1 : ∀ {F : Feed}, evF (drD false true) tab 12 "_law_right" [.d (fr a), .d (fr b), .d (.int i), .d (.int (j * t))] F = _ := right_ev (k := 6) ha hb b1' hB
  have R2 : ∀ {F : Feed}, evF (drD false true) tab 12 "_law_right" [.d (fr b), .d (fr a), .d (.int (j * t)), .d (.int i)] F = _ := right_ev (k := 6) hb ha hB b1'
  simp! only [f_p_law, tailSs, e1, e2, e3, ← ht, hm, rg2, R1, R2, loopF_cons, loopF_nil]
  exact Ok.ok rfl
end Pv
namespace Pv
open PySem L2 GB
local macro_rules | `(tactic| simp! only [$xs,*]) => `(tactic| simp (config := {dsimp := false, implicitDefEqProofs := false}) only [kOut_n, kOut_r, kPut_e, kPl_e, kBo_e, kVar_e, evE_var, evE_con, kBin2_e, kBin_e, evE_bin, kNeg_e, evE_neg, kCmp2_e, kCmp_e, evE_cmp, kCh3_t, kCh3_f, kCh2_e, kCh_e, evE_chain, kAnd_t, kAnd_f, kOr_t, kOr_f, evE_andV, evE_orV, kTru_e, kAnT2_t, kAnT2_f, kOrT2_f, kOrT2_t, kAnT_e, evE_andT, kOrT_e, evE_orT, kNo2_e, kNot_e, evE_not, kIte2_t, kIte2_f, kIte_e, evE_ite, kT2_e, kT_e, evE_tup, kL2_e, kL_e, evE_lst, kItem_e, kIx2_e, kIx_e, evE_idx, kSl3_e, kSl2_e, kSl_e, evE_slc, kRv_e, evE_rev, kRes_e, kCl2_e, kCl_e, evE_call, kDr3_e, kDr2_e, kDr_e, evE_draw, kBl2_e, kBl_e, evE_blt, kLc_e, evE_Lc, kGe2_e, kGe_e, evE_Ge, kEl3_e, kEl2_t, kEl2_f, kEl_e, elemR_e, kEs2_e, kEs_e, evEs_n, evEs_c, kSt3_e, kSt2_e, kSt_e, evEs_s, kO_e, evO_n, evO_y, kIseq2_e, kIseq_e, evI_seq, kIenum2_e, kIenum_e, evI_enum, kIrev2_e, kIrev_e, evI_rev, kRg3_e, kRg2_e, kRg_e, evI_rng, kZ4_e, kZ3_e, kZ2_e, kZ_e, evI_zip, kC2_t, kC2_f, kC_e, evC_n, evC_c, kSe_e, evS_set, kNx_e, kUn_e, evS_unp, kPr2_e, kPr_e, evS_par, kPx3_e, kPx2_e, kPx_e, evS_par3, kAu3_e, kAu2_e, kAu_e, evS_aug, kSx4_e, kSx3_e, kSx2_e, kSx_e, evS_setIx, kAp2_e, kAp_e, evS_app, kPo_e, evS_pop, kRe_e, evS_reverse, kEx_e, evS_ex, kIf2_t, kIf2_f, kIf_e, evS_ite, kRt_e, kRtV_e, evS_retV, evR_con, evR_bin, evR_neg, evR_cmp, evR_chain, evR_andV, evR_orV, evR_andT, evR_orT, evR_ite, evR_tup, evR_lst, evR_idx, evR_slc, evR_rev, evR_call, evR_draw, evR_blt, evR_not, evR_lc, evR_gen, evS_retN, evS_brk, evS_cnt, evS_pas, kSs_n, kSs_b, kSs_c, kSs_r, evSs_n, evSs_c, kFr_e, evS_For, kBd_e, contF_next, contF_cont, contF_brk, contF_ret, contW_next, contW_cont, contW_brk, contW_ret, evS_whl, kWh_t, kWh_f, kTv_e, rd_n, rd_s, rd_f, st_n, st_s, st_f, jo_n, jo_sn, ia_n, ia_s, sr_n, rs_n, rs_f, av_n, av_d, av_f, ds_n, ds_c, ag_n, ag_d, ag_f, ow_e, ow_l, tv_d, jo_ss, sr_s, rs_s, kIsx_e, evE_isx, kXf_e, evE_xfld, kIn_e, kCt3_e, kCt2_e, kCt_e, evE_count, kRz2_e, kRz_e, kTry_ok, kTry_exc, evS_try, kSu_ok, rd_x, ag_x, av_x, rs_x, R.ok_bind, R.exc_bind, R.stuck_bind, R.of_some, R.of_none, bindTs, flat, flatAll, List.getElem?_cons_zero, List.getElem?_cons_succ, List.set_cons_zero, List.set_cons_succ, alNew_none, alNew_some, alOp, datsV_star, datsV_star0, parV, bopD, addD, subD, mul_int, fdivD, modD, negD, copD, intsD, truD, idx_t0, idx_t1, idx_t2, idx_t3, idx_l0, idx_l1, idx_l2, idx_l3, idx_fr0, idx_fr1, flat_fr, bindT_fr, Option.getD_some, Option.getD_none, Option.map_some, Option.map_none, Option.bind_some, Option.bind_none, bl_len_t, bl_len_l, bl_abs, bl_int_i, bl_int_b, bl_bool_i, bl_bool_b, bl_list_t, bl_list_l, bl_tuple_t, bl_tuple_l, bl_isTup, bl_isInt, bl_isBool, bl_isStr, bl_isList, List.append_nil, List.nil_append, List.cons_append, Bool.false_eq_true, ite_true, ite_false, if_true, if_false, reduceIte, Bool.true_and, Bool.and_true, Bool.and_self, Bool.not_true, Bool.not_false, Bool.and_false, Bool.false_and, Bool.or_true, Bool.or_false, Bool.true_or, Bool.false_or, List.all_nil, List.all_cons, seqD, lstD, freeze, List.length_cons, List.length_nil, List.length_map, List.length_append, Nat.reduceAdd, Nat.reduceLeDiff, leS, okPut, wipeE, List.contains_cons, List.contains_nil, Nat.reduceBEq, eqD_fr, eqD_int, eqD_str, bindT_nm, bindT_tp, $xs,*])
theorem fr_neg (q : Rat) : (PyData.tuple [.int (0 - q.num), .int q.den]) = fr (-q) := by
  obtain ⟨h1, h2⟩ := GB.neg_rat q
  unfold fr
  rw [h1, h2, Int.zero_sub]
theorem says_law : Says (drD false true) tab 12 false f_p_law := by
  intro F hF hb
  have fd : Fd false 0 F := ⟨hb, by omega⟩
  suffices h : Ok (evSs ⟨evF (drD false true) tab 12, drD false true⟩ f_p_law.body [none, some .feed, none, none, none, none, none, none, none] F) fun fl F' => fl = .ret (.dat (.bool true) none) by
    obtain ⟨fl, F', e, rfl⟩ := h
    exact ⟨F', e⟩
  obtain ⟨w, F1, e1, w0, w1, f1⟩ := fd.draw 8 (by decide) (by decide) (by omega) true
  obtain ⟨a, F2, e2, ba, f2⟩ := fraction2_ev (T := tab) (k := 10) (rz := true) f1 (by omega)
  obtain ⟨b, F3, e3, bb, f3⟩ := fraction2_ev (T := tab) (k := 10) (rz := true) f2 (by omega)
  have key := @law_end
  rw [show f_p_law.body = takeSs 4 f_p_law.body (tailSs 4 f_p_law.body) from rfl]
  generalize tailSs 4 f_p_law.body = REST at key ⊢
  have ha : GB.Bd 200 a := ba.mono (by decide)
  have hb : GB.Bd 200 b := bb.mono (by decide)
  have s4 : 4 ≤ sizeLine := by decide
  have s2 : 2 ≤ sizeLine := by decide
  obtain ⟨c, hc, lo⟩ : ∃ c : Rat, GB.Bd 200 c ∧ ∀ {F : Feed}, evF (drD false true) tab 12 "_law_lowest" [.d (.int (a.den : Int)), .d (.int (if a.num = 0 then 1 else a.num))] F = .ok (.dat (fr c) none) F := by
    by_cases z : a.num = 0
    · rw [if_pos z]
      exact ⟨_, bd_div (by decide) (den_bd ha) (by decide), lowest_ev (k := 11) (by decide)⟩
    · rw [if_neg z]
      exact ⟨_, bd_div z (den_bd ha) ha.1, lowest_ev (k := 11) z⟩
  have hn : GB.Bd 200 (-a) := GB.bd_neg ha
  by_cases z : a.num = 0
  · have zz : decide (a.num = 0) = true := decide_eq_true z
    rw [if_pos z] at lo
    by_cases y : w < 4
    · have yy : decide (w < 4) = true := decide_eq_true y
      obtain rfl | rfl | rfl | rfl : w = 0 ∨ w = 1 ∨ w = 2 ∨ w = 3 := by omega
      · simp! only [f_p_law, takeSs, e1, e2, e3, zz, lo, s4, s2, yy, fr_neg, fr0]
        exact key ha ha f3 (by omega)
      · simp! only [f_p_law, takeSs, e1, e2, e3, zz, lo, s4, s2, yy, fr_neg, fr0]
        exact key ha hn f3 (by omega)
      · simp! only [f_p_law, takeSs, e1, e2, e3, zz, lo, s4, s2, yy, fr_neg, fr0]
        exact key ha (bdN.mono (by decide)) f3 (by omega)
      · simp! only [f_p_law, takeSs, e1, e2, e3, zz, lo, s4, s2, yy, fr_neg, fr0]
        exact key ha hc f3 (by omega)
    · have yy : decide (w < 4) = false := decide_eq_false y
      simp! only [f_p_law, takeSs, e1, e2, e3, zz, lo, s4, s2, yy, fr_neg, fr0]
      exact key ha hb f3 (by omega)
  · have zz : decide (a.num = 0) = false := decide_eq_false z
    rw [if_neg z] at lo
    by_cases y : w < 4
    · have yy : decide (w < 4) = true := decide_eq_true y
      obtain rfl | rfl | rfl | rfl : w = 0 ∨ w = 1 ∨ w = 2 ∨ w = 3 := by omega
      · simp! only [f_p_law, takeSs, e1, e2, e3, zz, lo, s4, s2, yy, fr_neg, fr0]
        exact key ha ha f3 (by omega)
      · simp! only [f_p_law, takeSs, e1, e2, e3, zz, lo, s4, s2, yy, fr_neg, fr0]
        exact key ha hn f3 (by omega)
      · simp! only [f_p_law, takeSs, e1, e2, e3, zz, lo, s4, s2, yy, fr_neg, fr0]
        exact key ha (bdN.mono (by decide)) f3 (by omega)
      · simp! only [f_p_law, takeSs, e1, e2, e3, zz, lo, s4, s2, yy, fr_neg, fr0]
        exact key ha hc f3 (by omega)
    · have yy : decide (w < 4) = false := decide_eq_false y
      simp! only [f_p_law, takeSs, e1, e2, e3, zz, lo, s4, s2, yy, fr_neg, fr0]
      exact key ha hb f3 (by omega)
end Pv
namespace Pv
open PySem L2 GB
theorem ok_law [Tabs] {P : Program} {w : World} {K : PySem.W.Frag} {mg : Str → Option Value} {base : Heap} {f : Addr} {fd : FuncData} (F : Fun K "law" "law" s_p_law f fd) {A_BendError A_NoCut A_NoKnot A_NoKnots A_NoOne A_NoOver A_NoPaper A_NoPlace A_NoPoint A_NoShares A_NoSheet A_NoSmooth A_NoStretch A_NoTask A_NoText A_Twice : Addr} (Xf : Xs P K mg A_BendError A_NoCut A_NoKnot A_NoKnots A_NoOne A_NoOver A_NoPaper A_NoPlace A_NoPoint A_NoShares A_NoSheet A_NoSmooth A_NoStretch A_NoTask A_NoText A_Twice) (hT : P.given.tree = none) (B : Bs mg) (D : Ds K mg) (Gf : FnQ P w K mg base CX0 1 "_law_feed" ["_law_script"] (PrFeed K false)) (Gd : FnQ P w K mg base CX0 1 "_law_draw" ["_law_feed_here", "_law_many"] (PrDraw (drD false true))) : FnOk P w K mg base CX0 27 f fd ["_law_script"] (SpLaw K) := by
  refine F.ok sc_p_law (fun vs H Q E h => ?_) (fun cdv A outer s H vs Q E hr h => ?_)
  · obtain ⟨a, ns, rfl, _⟩ := h
    rfl
  · obtain ⟨a, ns, rfl, hS, htb, q⟩ := h
    obtain ⟨t, pt, ht⟩ := bd_law hT rfl B Xf Gd (fns D hT rfl B Xf Gd 12) f cdv A outer s H E hr
    have Gf' : FnIs P w K mg base 1 "_law_feed" ["_law_script"] (PrFeed K false) := ⟨Gf.ex⟩
    refine ⟨_, pss_cons (ps_set (i := 1) sc_p_law.nd rfl (by first | exact Or.inl rfl | exact Or.inr rfl) (pe_callI Gf' hr (pa_cons (pv 0) pa_nil))) pt, ?_⟩
    refine ⟨_, rfl, a, ns, rfl, hS, fun p ce F' H' hF h0 hb hp hs => ?_⟩
    exact law_sem (K := K) (t := t) (n := 7) says_law rfl rfl ht hF (fun q h => ⟨fun e => (Option.some_ne_none _ ((htb q h).symm.trans (e ▸ hp))).elim, hs q _ (htb q h)⟩) h0 hb fun H'' => q H''
theorem all_mk {qq : Program} {l : PySem.W.OpenLaw} {w : World} {K : PySem.W.Frag} {h : Heap} {mg : Str → Option Value} {fa f_p_common_of f_p_fraction_of f_p_plus_by f_p_contrary_of f_p_minus_by f_p_times_by f_p_over_by f_lowest f_number f_fraction f_is_alone f_told f_right f_feed f_draw f_law : Addr} (hT : l.prog.given.tree = none) (X : K.In h) (G : h.Ns mainGlobals mg) (hfa : mg "law" = some (.ref fa))
    {od_p_common_of an_p_common_of od_p_fraction_of an_p_fraction_of od_p_plus_by an_p_plus_by od_p_contrary_of an_p_contrary_of od_p_minus_by an_p_minus_by od_p_times_by an_p_times_by od_p_over_by an_p_over_by od_lowest an_lowest od_number an_number od_fraction an_fraction od_is_alone an_is_alone od_told an_told od_right an_right od_feed an_feed od_draw an_draw od_law an_law : Option Addr} {sl_p_common_of sl_p_fraction_of sl_p_plus_by sl_p_contrary_of sl_p_minus_by sl_p_times_by sl_p_over_by sl_lowest sl_number sl_fraction sl_is_alone sl_told sl_right sl_feed sl_draw sl_law : Array (Option Value)} {oc_p_common_of kV_p_common_of dc_p_common_of pm_p_common_of cd_p_common_of ct_p_common_of oc_p_fraction_of kV_p_fraction_of dc_p_fraction_of pm_p_fraction_of cd_p_fraction_of ct_p_fraction_of oc_p_plus_by kV_p_plus_by dc_p_plus_by pm_p_plus_by cd_p_plus_by ct_p_plus_by oc_p_contrary_of kV_p_contrary_of dc_p_contrary_of pm_p_contrary_of cd_p_contrary_of ct_p_contrary_of oc_p_minus_by kV_p_minus_by dc_p_minus_by pm_p_minus_by cd_p_minus_by ct_p_minus_by oc_p_times_by kV_p_times_by dc_p_times_by pm_p_times_by cd_p_times_by ct_p_times_by oc_p_over_by kV_p_over_by dc_p_over_by pm_p_over_by cd_p_over_by ct_p_over_by oc_lowest kV_lowest dc_lowest pm_lowest cd_lowest ct_lowest oc_number kV_number dc_number pm_number cd_number ct_number oc_fraction kV_fraction dc_fraction pm_fraction cd_fraction ct_fraction oc_is_alone kV_is_alone dc_is_alone pm_is_alone cd_is_alone ct_is_alone oc_told kV_told dc_told pm_told cd_told ct_told oc_right kV_right dc_right pm_right cd_right ct_right oc_feed kV_feed dc_feed pm_feed cd_feed ct_feed oc_draw kV_draw dc_draw pm_draw cd_draw ct_draw oc_law kV_law dc_law pm_law cd_law ct_law : Value}
    (a_p_common_of : PySem.W.nsIn K mainGlobals "common_of" = some (some (.ref f_p_common_of))) (l_p_common_of : K.lookup f_p_common_of = some ⟨oc_p_common_of, od_p_common_of, .func (PySem.W.fnOf "common_of" "common_of" (defArgs s_p_common_of) (defBody s_p_common_of) (defScope s_p_common_of) .none kV_p_common_of dc_p_common_of pm_p_common_of an_p_common_of cd_p_common_of ct_p_common_of), sl_p_common_of⟩) (c_p_common_of : PySem.W.codeIn K cd_p_common_of "common_of" = true) (k_p_common_of : PySem.W.keepIn K (.ref f_p_common_of) = true)
    (a_p_fraction_of : PySem.W.nsIn K mainGlobals "fraction_of" = some (some (.ref f_p_fraction_of))) (l_p_fraction_of : K.lookup f_p_fraction_of = some ⟨oc_p_fraction_of, od_p_fraction_of, .func (PySem.W.fnOf "fraction_of" "fraction_of" (defArgs s_p_fraction_of) (defBody s_p_fraction_of) (defScope s_p_fraction_of) .none kV_p_fraction_of dc_p_fraction_of pm_p_fraction_of an_p_fraction_of cd_p_fraction_of ct_p_fraction_of), sl_p_fraction_of⟩) (c_p_fraction_of : PySem.W.codeIn K cd_p_fraction_of "fraction_of" = true) (k_p_fraction_of : PySem.W.keepIn K (.ref f_p_fraction_of) = true)
    (a_p_plus_by : PySem.W.nsIn K mainGlobals "plus_by" = some (some (.ref f_p_plus_by))) (l_p_plus_by : K.lookup f_p_plus_by = some ⟨oc_p_plus_by, od_p_plus_by, .func (PySem.W.fnOf "plus_by" "plus_by" (defArgs s_p_plus_by) (defBody s_p_plus_by) (defScope s_p_plus_by) .none kV_p_plus_by dc_p_plus_by pm_p_plus_by an_p_plus_by cd_p_plus_by ct_p_plus_by), sl_p_plus_by⟩) (c_p_plus_by : PySem.W.codeIn K cd_p_plus_by "plus_by" = true) (k_p_plus_by : PySem.W.keepIn K (.ref f_p_plus_by) = true)
    (a_p_contrary_of : PySem.W.nsIn K mainGlobals "contrary_of" = some (some (.ref f_p_contrary_of))) (l_p_contrary_of : K.lookup f_p_contrary_of = some ⟨oc_p_contrary_of, od_p_contrary_of, .func (PySem.W.fnOf "contrary_of" "contrary_of" (defArgs s_p_contrary_of) (defBody s_p_contrary_of) (defScope s_p_contrary_of) .none kV_p_contrary_of dc_p_contrary_of pm_p_contrary_of an_p_contrary_of cd_p_contrary_of ct_p_contrary_of), sl_p_contrary_of⟩) (c_p_contrary_of : PySem.W.codeIn K cd_p_contrary_of "contrary_of" = true) (k_p_contrary_of : PySem.W.keepIn K (.ref f_p_contrary_of) = true)
    (a_p_minus_by : PySem.W.nsIn K mainGlobals "minus_by" = some (some (.ref f_p_minus_by))) (l_p_minus_by : K.lookup f_p_minus_by = some ⟨oc_p_minus_by, od_p_minus_by, .func (PySem.W.fnOf "minus_by" "minus_by" (defArgs s_p_minus_by) (defBody s_p_minus_by) (defScope s_p_minus_by) .none kV_p_minus_by dc_p_minus_by pm_p_minus_by an_p_minus_by cd_p_minus_by ct_p_minus_by), sl_p_minus_by⟩) (c_p_minus_by : PySem.W.codeIn K cd_p_minus_by "minus_by" = true) (k_p_minus_by : PySem.W.keepIn K (.ref f_p_minus_by) = true)
    (a_p_times_by : PySem.W.nsIn K mainGlobals "times_by" = some (some (.ref f_p_times_by))) (l_p_times_by : K.lookup f_p_times_by = some ⟨oc_p_times_by, od_p_times_by, .func (PySem.W.fnOf "times_by" "times_by" (defArgs s_p_times_by) (defBody s_p_times_by) (defScope s_p_times_by) .none kV_p_times_by dc_p_times_by pm_p_times_by an_p_times_by cd_p_times_by ct_p_times_by), sl_p_times_by⟩) (c_p_times_by : PySem.W.codeIn K cd_p_times_by "times_by" = true) (k_p_times_by : PySem.W.keepIn K (.ref f_p_times_by) = true)
    (a_p_over_by : PySem.W.nsIn K mainGlobals "over_by" = some (some (.ref f_p_over_by))) (l_p_over_by : K.lookup f_p_over_by = some ⟨oc_p_over_by, od_p_over_by, .func (PySem.W.fnOf "over_by" "over_by" (defArgs s_p_over_by) (defBody s_p_over_by) (defScope s_p_over_by) .none kV_p_over_by dc_p_over_by pm_p_over_by an_p_over_by cd_p_over_by ct_p_over_by), sl_p_over_by⟩) (c_p_over_by : PySem.W.codeIn K cd_p_over_by "over_by" = true) (k_p_over_by : PySem.W.keepIn K (.ref f_p_over_by) = true)
    (a_lowest : PySem.W.nsIn K mainGlobals "_law_lowest" = some (some (.ref f_lowest))) (l_lowest : K.lookup f_lowest = some ⟨oc_lowest, od_lowest, .func (PySem.W.fnOf "_law_lowest" "_law_lowest" (defArgs s_lowest) (defBody s_lowest) (defScope s_lowest) .none kV_lowest dc_lowest pm_lowest an_lowest cd_lowest ct_lowest), sl_lowest⟩) (c_lowest : PySem.W.codeIn K cd_lowest "_law_lowest" = true) (k_lowest : PySem.W.keepIn K (.ref f_lowest) = true)
    (a_number : PySem.W.nsIn K mainGlobals "_law_number" = some (some (.ref f_number))) (l_number : K.lookup f_number = some ⟨oc_number, od_number, .func (PySem.W.fnOf "_law_number" "_law_number" (defArgs s_number) (defBody s_number) (defScope s_number) .none kV_number dc_number pm_number an_number cd_number ct_number), sl_number⟩) (c_number : PySem.W.codeIn K cd_number "_law_number" = true) (k_number : PySem.W.keepIn K (.ref f_number) = true)
    (a_fraction : PySem.W.nsIn K mainGlobals "_law_fraction" = some (some (.ref f_fraction))) (l_fraction : K.lookup f_fraction = some ⟨oc_fraction, od_fraction, .func (PySem.W.fnOf "_law_fraction" "_law_fraction" (defArgs s_fraction) (defBody s_fraction) (defScope s_fraction) .none kV_fraction dc_fraction pm_fraction an_fraction cd_fraction ct_fraction), sl_fraction⟩) (c_fraction : PySem.W.codeIn K cd_fraction "_law_fraction" = true) (k_fraction : PySem.W.keepIn K (.ref f_fraction) = true)
    (a_is_alone : PySem.W.nsIn K mainGlobals "_law_is_alone" = some (some (.ref f_is_alone))) (l_is_alone : K.lookup f_is_alone = some ⟨oc_is_alone, od_is_alone, .func (PySem.W.fnOf "_law_is_alone" "_law_is_alone" (defArgs s_is_alone) (defBody s_is_alone) (defScope s_is_alone) .none kV_is_alone dc_is_alone pm_is_alone an_is_alone cd_is_alone ct_is_alone), sl_is_alone⟩) (c_is_alone : PySem.W.codeIn K cd_is_alone "_law_is_alone" = true) (k_is_alone : PySem.W.keepIn K (.ref f_is_alone) = true)
    (a_told : PySem.W.nsIn K mainGlobals "_law_told" = some (some (.ref f_told))) (l_told : K.lookup f_told = some ⟨oc_told, od_told, .func (PySem.W.fnOf "_law_told" "_law_told" (defArgs s_told) (defBody s_told) (defScope s_told) .none kV_told dc_told pm_told an_told cd_told ct_told), sl_told⟩) (c_told : PySem.W.codeIn K cd_told "_law_told" = true) (k_told : PySem.W.keepIn K (.ref f_told) = true)
    (a_right : PySem.W.nsIn K mainGlobals "_law_right" = some (some (.ref f_right))) (l_right : K.lookup f_right = some ⟨oc_right, od_right, .func (PySem.W.fnOf "_law_right" "_law_right" (defArgs s_right) (defBody s_right) (defScope s_right) .none kV_right dc_right pm_right an_right cd_right ct_right), sl_right⟩) (c_right : PySem.W.codeIn K cd_right "_law_right" = true) (k_right : PySem.W.keepIn K (.ref f_right) = true)
    (a_feed : PySem.W.nsIn K mainGlobals "_law_feed" = some (some (.ref f_feed))) (l_feed : K.lookup f_feed = some ⟨oc_feed, od_feed, .func (PySem.W.fnOf "_law_feed" "_law_feed" (defArgs s_feed) (defBody s_feed) (defScope s_feed) .none kV_feed dc_feed pm_feed an_feed cd_feed ct_feed), sl_feed⟩) (c_feed : PySem.W.codeIn K cd_feed "_law_feed" = true) (k_feed : PySem.W.keepIn K (.ref f_feed) = true)
    (a_draw : PySem.W.nsIn K mainGlobals "_law_draw" = some (some (.ref f_draw))) (l_draw : K.lookup f_draw = some ⟨oc_draw, od_draw, .func (PySem.W.fnOf "_law_draw" "_law_draw" (defArgs s_draw) (defBody s_draw) (defScope s_draw) .none kV_draw dc_draw pm_draw an_draw cd_draw ct_draw), sl_draw⟩) (c_draw : PySem.W.codeIn K cd_draw "_law_draw" = true) (k_draw : PySem.W.keepIn K (.ref f_draw) = true)
    (a_law : PySem.W.nsIn K mainGlobals "law" = some (some (.ref f_law))) (l_law : K.lookup f_law = some ⟨oc_law, od_law, .func (PySem.W.fnOf "law" "law" (defArgs s_p_law) (defBody s_p_law) (defScope s_p_law) .none kV_law dc_law pm_law an_law cd_law ct_law), sl_law⟩) (c_law : PySem.W.codeIn K cd_law "law" = true) (k_law : PySem.W.keepIn K (.ref f_law) = true)
    (z_ValueError : PySem.W.nsIn K mainGlobals "ValueError" = some none)
    (z_abs : PySem.W.nsIn K mainGlobals "abs" = some none)
    (z_int : PySem.W.nsIn K mainGlobals "int" = some none)
    (z_isinstance : PySem.W.nsIn K mainGlobals "isinstance" = some none)
    (z_len : PySem.W.nsIn K mainGlobals "len" = some none)
    (z_list : PySem.W.nsIn K mainGlobals "list" = some none)
    (z_range : PySem.W.nsIn K mainGlobals "range" = some none)
    (z_repr : PySem.W.nsIn K mainGlobals "repr" = some none)
    {A_BendError A_NoCut A_NoKnot A_NoKnots A_NoOne A_NoOver A_NoPaper A_NoPlace A_NoPoint A_NoShares A_NoSheet A_NoSmooth A_NoStretch A_NoTask A_NoText A_Twice : Addr}
    (ac_BendError : PySem.W.nsIn K mainGlobals "BendError" = some (some (.ref A_BendError)))
    (ac_NoCut : PySem.W.nsIn K mainGlobals "NoCut" = some (some (.ref A_NoCut)))
    (ac_NoKnot : PySem.W.nsIn K mainGlobals "NoKnot" = some (some (.ref A_NoKnot)))
    (ac_NoKnots : PySem.W.nsIn K mainGlobals "NoKnots" = some (some (.ref A_NoKnots)))
    (ac_NoOne : PySem.W.nsIn K mainGlobals "NoOne" = some (some (.ref A_NoOne)))
    (ac_NoOver : PySem.W.nsIn K mainGlobals "NoOver" = some (some (.ref A_NoOver)))
    (ac_NoPaper : PySem.W.nsIn K mainGlobals "NoPaper" = some (some (.ref A_NoPaper)))
    (ac_NoPlace : PySem.W.nsIn K mainGlobals "NoPlace" = some (some (.ref A_NoPlace)))
    (ac_NoPoint : PySem.W.nsIn K mainGlobals "NoPoint" = some (some (.ref A_NoPoint)))
    (ac_NoShares : PySem.W.nsIn K mainGlobals "NoShares" = some (some (.ref A_NoShares)))
    (ac_NoSheet : PySem.W.nsIn K mainGlobals "NoSheet" = some (some (.ref A_NoSheet)))
    (ac_NoSmooth : PySem.W.nsIn K mainGlobals "NoSmooth" = some (some (.ref A_NoSmooth)))
    (ac_NoStretch : PySem.W.nsIn K mainGlobals "NoStretch" = some (some (.ref A_NoStretch)))
    (ac_NoTask : PySem.W.nsIn K mainGlobals "NoTask" = some (some (.ref A_NoTask)))
    (ac_NoText : PySem.W.nsIn K mainGlobals "NoText" = some (some (.ref A_NoText)))
    (ac_Twice : PySem.W.nsIn K mainGlobals "Twice" = some (some (.ref A_Twice)))
    (osp : PySem.W.specialIn K (.builtin "object.__class__") "__get__" = some (some (.builtin "getset_descriptor.__get__"))) (otk : PySem.W.takesIn K (.builtin "object.__class__") = some true)
    (xga_NoOver : PySem.W.findIn K (.ref A_NoOver) "__getattribute__" = some (some (.builtin "BaseException.__getattribute__")))
    (xgh_NoOver : PySem.W.findIn K (.ref A_NoOver) "__getattr__" = some none)
    (xbe_NoOver : PySem.W.mroIn K A_NoOver (.type "BaseException") = some true)
    (xhd_NoOver : PySem.W.hasDictIn K A_NoOver = true)
    (xca_NoOver : PySem.W.findIn K (.ref A_NoOver) "__class__" = some (some (.builtin "object.__class__")))
    (xmr_NoOver : PySem.W.mroIn K A_NoOver (.type "object") = some true)
    (kp_NoOver : PySem.W.keepIn K (.ref A_NoOver) = true)
    (xi_NoOver : PySem.W.excIn K A_NoOver veMro "ValueError.__new__" = true)
    (ki_NoOver_NoCut : PySem.W.kitOne K (.ref A_NoOver) (.ref A_NoCut) = some false)
    (ki_NoOver_NoKnot : PySem.W.kitOne K (.ref A_NoOver) (.ref A_NoKnot) = some false)
    (ki_NoOver_NoKnots : PySem.W.kitOne K (.ref A_NoOver) (.ref A_NoKnots) = some false)
    (ki_NoOver_NoOne : PySem.W.kitOne K (.ref A_NoOver) (.ref A_NoOne) = some false)
    (ki_NoOver_NoOver : PySem.W.kitOne K (.ref A_NoOver) (.ref A_NoOver) = some true)
    (ki_NoOver_NoPaper : PySem.W.kitOne K (.ref A_NoOver) (.ref A_NoPaper) = some false)
    (ki_NoOver_NoPlace : PySem.W.kitOne K (.ref A_NoOver) (.ref A_NoPlace) = some false)
    (ki_NoOver_NoPoint : PySem.W.kitOne K (.ref A_NoOver) (.ref A_NoPoint) = some false)
    (ki_NoOver_NoShares : PySem.W.kitOne K (.ref A_NoOver) (.ref A_NoShares) = some false)
    (ki_NoOver_NoSheet : PySem.W.kitOne K (.ref A_NoOver) (.ref A_NoSheet) = some false)
    (ki_NoOver_NoSmooth : PySem.W.kitOne K (.ref A_NoOver) (.ref A_NoSmooth) = some false)
    (ki_NoOver_NoStretch : PySem.W.kitOne K (.ref A_NoOver) (.ref A_NoStretch) = some false)
    (ki_NoOver_NoTask : PySem.W.kitOne K (.ref A_NoOver) (.ref A_NoTask) = some false)
    (ki_NoOver_NoText : PySem.W.kitOne K (.ref A_NoOver) (.ref A_NoText) = some false)
    (ki_NoOver_Twice : PySem.W.kitOne K (.ref A_NoOver) (.ref A_Twice) = some false)
    (ki_NoOver_ValueError : PySem.W.kitOne K (.ref A_NoOver) (.type "ValueError") = some true)
    (ex_NoOver_BendError : PySem.W.exmOne K (.ref A_NoOver) (.ref A_BendError) = some true)
    : ∃ (fd : FuncData) (tb : Addr → Prop), (∀ (s : Shared) (v : Value), BindsTo s fd ⟨[v], []⟩ [("_law_script", v)]) ∧ (∀ p, tb p → ∃ y f oc od fd' sl, (PyProof.Rows.recsOf qq).any (fun d => d.name == y) = true ∧ mg y = some (.ref f) ∧ K.lookup f = some ⟨oc, od, .func fd', sl⟩ ∧ tabIn K fd'.code = some p ∧ K.lookup p = none) ∧ ∀ base : Heap, K.In base → base.Ns mainGlobals mg → FnOk l.prog w K mg base CX0 27 fa fd ["_law_script"] (@SpLaw ⟨tb, fun _ => none⟩ K) := by
  have e := hfa.symm.trans (PySem.W.mg_of X G a_law)
  cases e
  letI : Tabs := ⟨fun p => p ∈ ([] : List Addr), fun c => List.lookup c [("NoOver", A_NoOver)]⟩
  have B : Bs mg := ⟨PySem.W.mg_none_of X G z_ValueError, PySem.W.mg_none_of X G z_abs, PySem.W.mg_none_of X G z_int, PySem.W.mg_none_of X G z_isinstance, PySem.W.mg_none_of X G z_len, PySem.W.mg_none_of X G z_list, PySem.W.mg_none_of X G z_range, PySem.W.mg_none_of X G z_repr⟩
  have D_p_common_of : Def K mg "common_of" s_p_common_of := def_mk (st := s_p_common_of) X G a_p_common_of l_p_common_of c_p_common_of k_p_common_of
  have D_p_fraction_of : Def K mg "fraction_of" s_p_fraction_of := def_mk (st := s_p_fraction_of) X G a_p_fraction_of l_p_fraction_of c_p_fraction_of k_p_fraction_of
  have D_p_plus_by : Def K mg "plus_by" s_p_plus_by := def_mk (st := s_p_plus_by) X G a_p_plus_by l_p_plus_by c_p_plus_by k_p_plus_by
  have D_p_contrary_of : Def K mg "contrary_of" s_p_contrary_of := def_mk (st := s_p_contrary_of) X G a_p_contrary_of l_p_contrary_of c_p_contrary_of k_p_contrary_of
  have D_p_minus_by : Def K mg "minus_by" s_p_minus_by := def_mk (st := s_p_minus_by) X G a_p_minus_by l_p_minus_by c_p_minus_by k_p_minus_by
  have D_p_times_by : Def K mg "times_by" s_p_times_by := def_mk (st := s_p_times_by) X G a_p_times_by l_p_times_by c_p_times_by k_p_times_by
  have D_p_over_by : Def K mg "over_by" s_p_over_by := def_mk (st := s_p_over_by) X G a_p_over_by l_p_over_by c_p_over_by k_p_over_by
  have D_lowest : Def K mg "_law_lowest" s_lowest := def_mk (st := s_lowest) X G a_lowest l_lowest c_lowest k_lowest
  have D_number : Def K mg "_law_number" s_number := def_mk (st := s_number) X G a_number l_number c_number k_number
  have D_fraction : Def K mg "_law_fraction" s_fraction := def_mk (st := s_fraction) X G a_fraction l_fraction c_fraction k_fraction
  have D_is_alone : Def K mg "_law_is_alone" s_is_alone := def_mk (st := s_is_alone) X G a_is_alone l_is_alone c_is_alone k_is_alone
  have D_told : Def K mg "_law_told" s_told := def_mk (st := s_told) X G a_told l_told c_told k_told
  have D_right : Def K mg "_law_right" s_right := def_mk (st := s_right) X G a_right l_right c_right k_right
  have D_feed : Def K mg "_law_feed" s_feed := def_mk (st := s_feed) X G a_feed l_feed c_feed k_feed
  have D_draw : Def K mg "_law_draw" s_draw := def_mk (st := s_draw) X G a_draw l_draw c_draw k_draw
  have xs : ∀ c C, Tabs.xc c = some C → (c = "NoOver" ∧ C = A_NoOver) := fun c C h => by
    have z := mem_lookupS (show List.lookup c [("NoOver", A_NoOver)] = some C from h)
    simpa using z
  have X_cl : ∀ c C, Tabs.xc c = some C → XCl K C := fun c C h => by
    rcases xs c C h with ⟨rfl, rfl⟩
    · exact ⟨xga_NoOver, xgh_NoOver, xbe_NoOver, xhd_NoOver, xca_NoOver, osp, otk, xmr_NoOver⟩
  have X_fl : ∀ c C, Tabs.xc c = some C → ∀ f : String, f ∈ xflds c → NoAttr K C f := fun c C h => by
    rcases xs c C h with ⟨rfl, rfl⟩
    · intro f hf
      have e : xflds "NoOver" = [] := rfl
      rw [e] at hf
      simp only [List.mem_cons, List.not_mem_nil, or_false] at hf
  have X_k_NoCut : ∀ c C, Tabs.xc c = some C → PySem.W.kitOne K (.ref C) (.ref A_NoCut) = some (xsub c "NoCut") := fun c C h => by
    rcases xs c C h with ⟨rfl, rfl⟩
    · exact ki_NoOver_NoCut
  have X_k_NoKnot : ∀ c C, Tabs.xc c = some C → PySem.W.kitOne K (.ref C) (.ref A_NoKnot) = some (xsub c "NoKnot") := fun c C h => by
    rcases xs c C h with ⟨rfl, rfl⟩
    · exact ki_NoOver_NoKnot
  have X_k_NoKnots : ∀ c C, Tabs.xc c = some C → PySem.W.kitOne K (.ref C) (.ref A_NoKnots) = some (xsub c "NoKnots") := fun c C h => by
    rcases xs c C h with ⟨rfl, rfl⟩
    · exact ki_NoOver_NoKnots
  have X_k_NoOne : ∀ c C, Tabs.xc c = some C → PySem.W.kitOne K (.ref C) (.ref A_NoOne) = some (xsub c "NoOne") := fun c C h => by
    rcases xs c C h with ⟨rfl, rfl⟩
    · exact ki_NoOver_NoOne
  have X_k_NoOver : ∀ c C, Tabs.xc c = some C → PySem.W.kitOne K (.ref C) (.ref A_NoOver) = some (xsub c "NoOver") := fun c C h => by
    rcases xs c C h with ⟨rfl, rfl⟩
    · exact ki_NoOver_NoOver
  have X_k_NoPaper : ∀ c C, Tabs.xc c = some C → PySem.W.kitOne K (.ref C) (.ref A_NoPaper) = some (xsub c "NoPaper") := fun c C h => by
    rcases xs c C h with ⟨rfl, rfl⟩
    · exact ki_NoOver_NoPaper
  have X_k_NoPlace : ∀ c C, Tabs.xc c = some C → PySem.W.kitOne K (.ref C) (.ref A_NoPlace) = some (xsub c "NoPlace") := fun c C h => by
    rcases xs c C h with ⟨rfl, rfl⟩
    · exact ki_NoOver_NoPlace
  have X_k_NoPoint : ∀ c C, Tabs.xc c = some C → PySem.W.kitOne K (.ref C) (.ref A_NoPoint) = some (xsub c "NoPoint") := fun c C h => by
    rcases xs c C h with ⟨rfl, rfl⟩
    · exact ki_NoOver_NoPoint
  have X_k_NoShares : ∀ c C, Tabs.xc c = some C → PySem.W.kitOne K (.ref C) (.ref A_NoShares) = some (xsub c "NoShares") := fun c C h => by
    rcases xs c C h with ⟨rfl, rfl⟩
    · exact ki_NoOver_NoShares
  have X_k_NoSheet : ∀ c C, Tabs.xc c = some C → PySem.W.kitOne K (.ref C) (.ref A_NoSheet) = some (xsub c "NoSheet") := fun c C h => by
    rcases xs c C h with ⟨rfl, rfl⟩
    · exact ki_NoOver_NoSheet
  have X_k_NoSmooth : ∀ c C, Tabs.xc c = some C → PySem.W.kitOne K (.ref C) (.ref A_NoSmooth) = some (xsub c "NoSmooth") := fun c C h => by
    rcases xs c C h with ⟨rfl, rfl⟩
    · exact ki_NoOver_NoSmooth
  have X_k_NoStretch : ∀ c C, Tabs.xc c = some C → PySem.W.kitOne K (.ref C) (.ref A_NoStretch) = some (xsub c "NoStretch") := fun c C h => by
    rcases xs c C h with ⟨rfl, rfl⟩
    · exact ki_NoOver_NoStretch
  have X_k_NoTask : ∀ c C, Tabs.xc c = some C → PySem.W.kitOne K (.ref C) (.ref A_NoTask) = some (xsub c "NoTask") := fun c C h => by
    rcases xs c C h with ⟨rfl, rfl⟩
    · exact ki_NoOver_NoTask
  have X_k_NoText : ∀ c C, Tabs.xc c = some C → PySem.W.kitOne K (.ref C) (.ref A_NoText) = some (xsub c "NoText") := fun c C h => by
    rcases xs c C h with ⟨rfl, rfl⟩
    · exact ki_NoOver_NoText
  have X_k_Twice : ∀ c C, Tabs.xc c = some C → PySem.W.kitOne K (.ref C) (.ref A_Twice) = some (xsub c "Twice") := fun c C h => by
    rcases xs c C h with ⟨rfl, rfl⟩
    · exact ki_NoOver_Twice
  have X_k_ValueError : ∀ c C, Tabs.xc c = some C → PySem.W.kitOne K (.ref C) (.type "ValueError") = some (xsub c "ValueError") := fun c C h => by
    rcases xs c C h with ⟨rfl, rfl⟩
    · exact ki_NoOver_ValueError
  have X_e_BendError : ∀ c C, Tabs.xc c = some C → PySem.W.exmOne K (.ref C) (.ref A_BendError) = some (xsub c "BendError") := fun c C h => by
    rcases xs c C h with ⟨rfl, rfl⟩
    · exact ex_NoOver_BendError
  have R_NoOver : XC0 K A_NoOver := ⟨xi_NoOver, kp_NoOver⟩
  have Xf : Xs l.prog K mg A_BendError A_NoCut A_NoKnot A_NoKnots A_NoOne A_NoOver A_NoPaper A_NoPlace A_NoPoint A_NoShares A_NoSheet A_NoSmooth A_NoStretch A_NoTask A_NoText A_Twice := ⟨PySem.W.mg_of X G ac_BendError, PySem.W.mg_of X G ac_NoCut, PySem.W.mg_of X G ac_NoKnot, PySem.W.mg_of X G ac_NoKnots, PySem.W.mg_of X G ac_NoOne, PySem.W.mg_of X G ac_NoOver, PySem.W.mg_of X G ac_NoPaper, PySem.W.mg_of X G ac_NoPlace, PySem.W.mg_of X G ac_NoPoint, PySem.W.mg_of X G ac_NoShares, PySem.W.mg_of X G ac_NoSheet, PySem.W.mg_of X G ac_NoSmooth, PySem.W.mg_of X G ac_NoStretch, PySem.W.mg_of X G ac_NoTask, PySem.W.mg_of X G ac_NoText, PySem.W.mg_of X G ac_Twice, rfl, R_NoOver, X_cl, X_fl, X_k_NoCut, X_k_NoKnot, X_k_NoKnots, X_k_NoOne, X_k_NoOver, X_k_NoPaper, X_k_NoPlace, X_k_NoPoint, X_k_NoShares, X_k_NoSheet, X_k_NoSmooth, X_k_NoStretch, X_k_NoTask, X_k_NoText, X_k_Twice, X_k_ValueError, X_e_BendError⟩
  have F_law := fun_mk (st := s_p_law) l_law c_law k_law
  refine ⟨PySem.W.fnOf "law" "law" (defArgs s_p_law) (defBody s_p_law) (defScope s_p_law) .none kV_law dc_law pm_law an_law cd_law ct_law, Tabs.tb, fun s v => .of_eq rfl, fun p hp => ?_, fun base _ _ => ?_⟩
  · have hp : p ∈ ([] : List Addr) := hp
    exact absurd hp (by simp)
  · exact ok_law F_law Xf hT B ⟨D_p_common_of, D_p_fraction_of, D_p_plus_by, D_p_contrary_of, D_p_minus_by, D_p_times_by, D_p_over_by, D_lowest, D_number, D_fraction, D_is_alone, D_told, D_right⟩ (okq_feed D_feed B) (okq_draw D_draw B)
theorem walk {l : PySem.W.OpenLaw} {q : Program} {loose : List Str} {XP : (Str → Option Value) → Heap → Prop} {YP : World → Heap → Prop} {d : DefRec} {K : Params → PySem.W.Frag} (hi : PyProof.Rows.importsNone q = true) (hn : l.most = some 63) (hdf : d.params.defaults = [])
    (hY : ∀ (w : World) (h : Heap), YP w h → (K w.params).In h)
    (F : ∀ (w : World) (mg : Str → Option Value) (fa : Addr) (h : Heap), (K w.params).In h → h.Ns mainGlobals mg → mg d.name = some (.ref fa) →
      ∃ (fd : FuncData) (tb : Addr → Prop), (∀ (s : Shared) (u : Value), BindsTo s fd ⟨[u], []⟩ [("_law_script", u)]) ∧ (∀ p, tb p → ∃ y f oc od fd' sl, (PyProof.Rows.recsOf q).any (fun d => d.name == y) = true ∧ mg y = some (.ref f) ∧ (K w.params).lookup f = some ⟨oc, od, .func fd', sl⟩ ∧ tabIn (K w.params) fd'.code = some p ∧ (K w.params).lookup p = none) ∧ ∀ base : Heap, (K w.params).In base → base.Ns mainGlobals mg → FnOk l.prog w (K w.params) mg base CX0 27 fa fd ["_law_script"] (@SpLaw ⟨tb, fun _ => none⟩ (K w.params))) :
    PySem.W.WalkO q loose XP YP l.row.toRowW d [] (fun f vs => PySem.call f vs) :=
  L2.walk_ofT (n := 63) (k := 27) (x := "_law_script") (CX := fun _ => CX0) (sp := fun w tb => @SpLaw ⟨tb, fun _ => none⟩ (K w.params)) hi hn (by decide) hdf ⟨rfl, by decide, by decide, rfl⟩ hY F (fun _ _ _ a ns hl hT hS => ⟨a, ns, rfl, hS, hT, fun _ z => ⟨rfl, z⟩⟩) fun _ _ _ _ _ z => z
end Pv
open PySem PySem.W PyProof.Rows
set_option maxRecDepth 100000 in
set_option maxHeartbeats 0 in
theorem PySem.Challenge.cw_gentlebends_k02_fractions_reckoned_holds : PySem.Challenge.rw_gentlebends_k02_fractions_reckoned.Holds := by
  w_on; o_law; k_head; (case hw => w_witness2)
  k_fill
  refine Pv.walk (l := PySem.Challenge.rw_gentlebends_k02_fractions_reckoned) ?hi rfl rfl (fun w h Y => PySem.W.kIn_of Y) ?F
  case hi => first | rfl | decide +kernel
  case F =>
    intro w mg fa h KX G hmg
    refine' Pv.all_mk rfl KX G hmg ?a_p_common_of ?l_p_common_of ?c_p_common_of ?k_p_common_of ?a_p_fraction_of ?l_p_fraction_of ?c_p_fraction_of ?k_p_fraction_of ?a_p_plus_by ?l_p_plus_by ?c_p_plus_by ?k_p_plus_by ?a_p_contrary_of ?l_p_contrary_of ?c_p_contrary_of ?k_p_contrary_of ?a_p_minus_by ?l_p_minus_by ?c_p_minus_by ?k_p_minus_by ?a_p_times_by ?l_p_times_by ?c_p_times_by ?k_p_times_by ?a_p_over_by ?l_p_over_by ?c_p_over_by ?k_p_over_by ?a_lowest ?l_lowest ?c_lowest ?k_lowest ?a_number ?l_number ?c_number ?k_number ?a_fraction ?l_fraction ?c_fraction ?k_fraction ?a_is_alone ?l_is_alone ?c_is_alone ?k_is_alone ?a_told ?l_told ?c_told ?k_told ?a_right ?l_right ?c_right ?k_right ?a_feed ?l_feed ?c_feed ?k_feed ?a_draw ?l_draw ?c_draw ?k_draw ?a_law ?l_law ?c_law ?k_law ?z_ValueError ?z_abs ?z_int ?z_isinstance ?z_len ?z_list ?z_range ?z_repr ?ac_BendError ?ac_NoCut ?ac_NoKnot ?ac_NoKnots ?ac_NoOne ?ac_NoOver ?ac_NoPaper ?ac_NoPlace ?ac_NoPoint ?ac_NoShares ?ac_NoSheet ?ac_NoSmooth ?ac_NoStretch ?ac_NoTask ?ac_NoText ?ac_Twice ?osp ?otk ?xga_NoOver ?xgh_NoOver ?xbe_NoOver ?xhd_NoOver ?xca_NoOver ?xmr_NoOver ?kp_NoOver ?xi_NoOver ?ki_NoOver_NoCut ?ki_NoOver_NoKnot ?ki_NoOver_NoKnots ?ki_NoOver_NoOne ?ki_NoOver_NoOver ?ki_NoOver_NoPaper ?ki_NoOver_NoPlace ?ki_NoOver_NoPoint ?ki_NoOver_NoShares ?ki_NoOver_NoSheet ?ki_NoOver_NoSmooth ?ki_NoOver_NoStretch ?ki_NoOver_NoTask ?ki_NoOver_NoText ?ki_NoOver_Twice ?ki_NoOver_ValueError ?ex_NoOver_BendError
    (case a_p_common_of => k_is)
    (case l_p_common_of => k_is)
    (case c_p_common_of => k_is)
    (case k_p_common_of => k_is)
    (case a_p_fraction_of => k_is)
    (case l_p_fraction_of => k_is)
    (case c_p_fraction_of => k_is)
    (case k_p_fraction_of => k_is)
    (case a_p_plus_by => k_is)
    (case l_p_plus_by => k_is)
    (case c_p_plus_by => k_is)
    (case k_p_plus_by => k_is)
    (case a_p_contrary_of => k_is)
    (case l_p_contrary_of => k_is)
    (case c_p_contrary_of => k_is)
    (case k_p_contrary_of => k_is)
    (case a_p_minus_by => k_is)
    (case l_p_minus_by => k_is)
    (case c_p_minus_by => k_is)
    (case k_p_minus_by => k_is)
    (case a_p_times_by => k_is)
    (case l_p_times_by => k_is)
    (case c_p_times_by => k_is)
    (case k_p_times_by => k_is)
    (case a_p_over_by => k_is)
    (case l_p_over_by => k_is)
    (case c_p_over_by => k_is)
    (case k_p_over_by => k_is)
    (case a_lowest => k_is)
    (case l_lowest => k_is)
    (case c_lowest => k_is)
    (case k_lowest => k_is)
    (case a_number => k_is)
    (case l_number => k_is)
    (case c_number => k_is)
    (case k_number => k_is)
    (case a_fraction => k_is)
    (case l_fraction => k_is)
    (case c_fraction => k_is)
    (case k_fraction => k_is)
    (case a_is_alone => k_is)
    (case l_is_alone => k_is)
    (case c_is_alone => k_is)
    (case k_is_alone => k_is)
    (case a_told => k_is)
    (case l_told => k_is)
    (case c_told => k_is)
    (case k_told => k_is)
    (case a_right => k_is)
    (case l_right => k_is)
    (case c_right => k_is)
    (case k_right => k_is)
    (case a_feed => k_is)
    (case l_feed => k_is)
    (case c_feed => k_is)
    (case k_feed => k_is)
    (case a_draw => k_is)
    (case l_draw => k_is)
    (case c_draw => k_is)
    (case k_draw => k_is)
    (case a_law => k_is)
    (case l_law => k_is)
    (case c_law => k_is)
    (case k_law => k_is)
    (case z_ValueError => k_is)
    (case z_abs => k_is)
    (case z_int => k_is)
    (case z_isinstance => k_is)
    (case z_len => k_is)
    (case z_list => k_is)
    (case z_range => k_is)
    (case z_repr => k_is)
    (case ac_BendError => k_is)
    (case ac_NoCut => k_is)
    (case ac_NoKnot => k_is)
    (case ac_NoKnots => k_is)
    (case ac_NoOne => k_is)
    (case ac_NoOver => k_is)
    (case ac_NoPaper => k_is)
    (case ac_NoPlace => k_is)
    (case ac_NoPoint => k_is)
    (case ac_NoShares => k_is)
    (case ac_NoSheet => k_is)
    (case ac_NoSmooth => k_is)
    (case ac_NoStretch => k_is)
    (case ac_NoTask => k_is)
    (case ac_NoText => k_is)
    (case ac_Twice => k_is)
    (case osp => k_is)
    (case otk => k_is)
    (case xga_NoOver => k_is)
    (case xgh_NoOver => k_is)
    (case xbe_NoOver => k_is)
    (case xhd_NoOver => k_is)
    (case xca_NoOver => k_is)
    (case xmr_NoOver => k_is)
    (case kp_NoOver => k_is)
    (case xi_NoOver => k_exc)
    (case ki_NoOver_NoCut => kit_is)
    (case ki_NoOver_NoKnot => kit_is)
    (case ki_NoOver_NoKnots => kit_is)
    (case ki_NoOver_NoOne => kit_is)
    (case ki_NoOver_NoOver => kit_is)
    (case ki_NoOver_NoPaper => kit_is)
    (case ki_NoOver_NoPlace => kit_is)
    (case ki_NoOver_NoPoint => kit_is)
    (case ki_NoOver_NoShares => kit_is)
    (case ki_NoOver_NoSheet => kit_is)
    (case ki_NoOver_NoSmooth => kit_is)
    (case ki_NoOver_NoStretch => kit_is)
    (case ki_NoOver_NoTask => kit_is)
    (case ki_NoOver_NoText => kit_is)
    (case ki_NoOver_Twice => kit_is)
    (case ki_NoOver_ValueError => kit_is)
    (case ex_NoOver_BendError => kts_exm)
