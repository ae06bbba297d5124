/-
  Both wheels side by side: one call on each.
-/
import Derived.Test.YtplaconhpiojbaaWhX
import Derived.Deep.RegionHeld3
namespace Go.Proofs.Ytplaconhpiojbaa
open Go Go.Maps Go.WideMaps
open Go.RowKit
set_option linter.unusedVariables false
set_option linter.unusedSimpArgs false

/-- BOTH WHEELS, and the box of the call's text. -/
structure Mid (w0 W : World) (p mb : Nat) (room armed : Int) (L : List T3) (q : Nat) (T : List E3) (lv : Value) (b0 : Nat) (xs : Array Value) : Prop where
  hs : HasS W p mb room armed L
  hr : HasR W w0.heap.size q room T lv
  hx : W.heap[b0]? = some (.cells xs 34 (0, 0))
  bel : Below w0.heap.size w0 W
  np : w0.heap.size ≤ p
  nm : w0.heap.size ≤ mb
  nq : w0.heap.size ≤ q

variable {w0 W W' : World} {p mb : Nat} {room armed : Int} {L : List T3} {q : Nat} {T : List E3} {lv : Value} {b0 : Nat} {xs : Array Value}

theorem Mid.tw (h : Mid w0 W p mb room armed L q T lv b0 xs) {mb' : Nat} {armed' : Int} {L' : List T3} (hs : HasS W' p mb' room armed' L') (k : Tw W W' p mb) (hm : mb' = mb ∨ W.heap.size ≤ mb') : Mid w0 W' p mb' room armed' L' q T lv b0 xs where
  hs := hs
  hr := h.hr.tw h.hs k
  hx := by
    refine (k.block b0 (Array.getElem?_eq_some_iff.1 h.hx).1 ?_ ?_).trans h.hx
    · rintro rfl
      have e := h.hs.1.symm.trans h.hx
      simp at e
    · rintro rfl
      obtain ⟨_, l, _, es, clock, h2, _⟩ := h.hs
      have e := h2.symm.trans h.hx
      simp at e
  bel := h.bel.trans (k.below h.np h.nm h.bel.size)
  np := h.np
  nm := by have := h.nm; have := h.bel.size; rcases hm with e | e <;> omega
  nq := h.nq

theorem Mid.tq (h : Mid w0 W p mb room armed L q T lv b0 xs) {T' : List E3} {lv' : Value} (hr : HasR W' w0.heap.size q room T' lv') (k : Tq W W' w0.heap.size q) : Mid w0 W' p mb room armed L q T' lv' b0 xs where
  hs := h.hs.tq h.hr k
  hr := hr
  hx := by
    refine (k.block b0 (Array.getElem?_eq_some_iff.1 h.hx).1 ?_ (Or.inr fun cs f e => ?_)).trans h.hx
    · rintro rfl
      have e := h.hr.1.symm.trans h.hx
      simp at e
    · have e := h.hx.symm.trans e
      simp at e
  bel := h.bel.trans (k.below (Nat.le_refl _) h.nq h.bel.size)
  np := h.np
  nm := h.nm
  nq := h.nq

theorem Mid.below (h : Mid w0 W p mb room armed L q T lv b0 xs) (k : Below W.heap.size W W') : Mid w0 W' p mb room armed L q T lv b0 xs :=
  h.tw (h.hs.below k) (Tw.ofBelow k) (Or.inl rfl)
theorem Mid.drewN (h : Mid w0 W p mb room armed L q T lv b0 xs) (n : Nat) : Mid w0 (W.drewN n) p mb room armed L q T lv b0 xs := ⟨h.hs, h.hr, h.hx, below_drewN h.bel n, h.np, h.nm, h.nq⟩
theorem Mid.drew (h : Mid w0 W p mb room armed L q T lv b0 xs) : Mid w0 W.drew p mb room armed L q T lv b0 xs := ⟨h.hs, h.hr, h.hx, h.bel.drew, h.np, h.nm, h.nq⟩
theorem Mid.cell (h : Mid w0 W p mb room armed L q T lv b0 xs) (j : Nat) {v : Value} (hj : xs[j]? = some v) : W.cell? ⟨b0, j, none⟩ = some v := cell_of_block h.hx hj

/-! ### what Arm answers and leaves -/
def armOk (room : Int) (T : List E3) (s : ByteArray) : Bool := hasE T s || decide ((T.length : Int) < room)
def armN (room : Int) (T : List E3) (s : ByteArray) (t : Int) : Int := if t < 0 then 1 else if armOk room T s then 0 else 5
def armT (room armed : Int) (T : List E3) (s : ByteArray) (t : Int) : List E3 := if t < 0 then T else if armOk room T s then putE T s (t, armed + 1) else T
def armA (room armed : Int) (T : List E3) (s : ByteArray) (t : Int) : Int := if t < 0 then armed else if armOk room T s then armed + 1 else armed

theorem put_len' (T : List E3) (s : ByteArray) (v : Int × Int) : (putE T s v).length ≤ T.length + 1 := by
  unfold putE delE
  have := List.length_filter_le (fun x : E3 => !decide (x.1 = s)) T
  simp
  exact this
theorem arm_len (room armed : Int) (T : List E3) (s : ByteArray) (t : Int) : (armT room armed T s t).length ≤ T.length + 1 := by
  unfold armT
  split
  · omega
  · split
    · exact put_len' _ _ _
    · omega
theorem arm_a (room armed : Int) (T : List E3) (s : ByteArray) (t : Int) : armed ≤ armA room armed T s t ∧ armA room armed T s t ≤ armed + 1 := by
  unfold armA
  split
  · omega
  · split <;> omega
theorem arm_good {room armed : Int} {T : List E3} (hg : GoodE T armed) (s : ByteArray) (t : Int) : GoodE (armT room armed T s t) (armA room armed T s t) := by
  unfold armT armA
  split
  · exact hg
  · split
    · exact hg.put s t
    · exact hg

theorem armS_u {w : World} {p mb : Nat} {room armed : Int} {T : List E3} (h : HasS w p mb room armed (mOf T)) (s : ByteArray) (hs : s.size ≤ maxLen) (t : Int) (ha : 0 ≤ armed) (hb : armed < 1000000000) (hl : T.length < 1000000000) :
    Calls Try.prog 15 #[.pointer (some ⟨p, 0, none⟩), .string s, .int .i64 t] w fun e w' =>
      e = .returned (.int .i64 (armN room T s t)) ∧ HasS w' p mb room (armA room armed T s t) (mOf (armT room armed T s t)) ∧ Tw w w' p mb := by
  unfold armN armA armT
  by_cases ht : t < 0
  · simp only [if_pos ht]
    refine (armS_neg p (.string s) t ht w).mono ?_
    rintro e w' ⟨rfl, rfl⟩
    exact ⟨rfl, h, Tw.refl _ _ _⟩
  · simp only [if_neg ht]
    have hm := has_m T s
    by_cases hk : armOk room T s = true
    · simp only [if_pos hk]
      have hr : hasT (mOf T) (.string s.data.toList) = true ∨ ((mOf T).length : Int) < room := by
        unfold armOk at hk
        rw [Bool.or_eq_true, decide_eq_true_iff] at hk
        rcases hk with e | e
        · exact Or.inl (hm.trans e)
        · exact Or.inr (by rw [len_m]; exact e)
      refine (armS_put h s hs t (by omega) ha (by omega) (by rw [len_m]; omega) hr).mono ?_
      rintro e w' ⟨rfl, h1, h2⟩
      rw [show putT (mOf T) (.string s.data.toList) (t, armed + 1) = mOf (putE T s (t, armed + 1)) from put_m T s _] at h1
      exact ⟨rfl, h1, h2⟩
    · simp only [if_neg hk]
      unfold armOk at hk
      rw [Bool.or_eq_true, decide_eq_true_iff, not_or, Bool.not_eq_true] at hk
      refine (armS_full h s hs t (by omega) (hm.trans hk.1) (by rw [len_m]; omega)).mono ?_
      rintro e w' ⟨rfl, b⟩
      exact ⟨rfl, h.below b, Tw.ofBelow b⟩

theorem rarm_u {w : World} {B q : Nat} {room armed : Int} {T : List E3} {lv : Value} (h : HasR w B q room T lv) (s : ByteArray) (hl : T.length < 1000000000) {a : Int} (hg : GoodE T a) (t : Int) (hB : B ≤ w.heap.size) :
    Calls Try.prog 26 #[.pointer (some ⟨q, 0, none⟩), .string s, .int .i64 t] w fun e w' =>
      e = .returned (.int .i64 (armN room T s t)) ∧ ∃ lv', HasR w' B q room (armT room armed T s t) lv' ∧ Tq w w' B q := by
  unfold armN armT
  by_cases ht : t < 0
  · simp only [if_pos ht]
    refine (rarm_neg q (.string s) t ht w).mono ?_
    rintro e w' ⟨rfl, rfl⟩
    exact ⟨rfl, lv, h, Tq.refl _ _ _⟩
  · simp only [if_neg ht]
    by_cases hk : armOk room T s = true
    · simp only [if_pos hk]
      unfold armOk at hk
      rw [Bool.or_eq_true, decide_eq_true_iff] at hk
      exact rarm_put h s hl hg t (armed + 1) (by omega) hk hB
    · simp only [if_neg hk]
      unfold armOk at hk
      rw [Bool.or_eq_true, decide_eq_true_iff, not_or, Bool.not_eq_true] at hk
      refine (rarm_full h s hl t (by omega) hk.1 (by omega)).mono ?_
      rintro e w' ⟨rfl, n, rfl⟩
      exact ⟨rfl, lv, h, (Tq.refl _ _ _).drewN n⟩

theorem cancelS_u {w : World} {p mb : Nat} {room armed : Int} {T : List E3} (h : HasS w p mb room armed (mOf T)) (s : ByteArray) (hs : s.size ≤ maxLen) :
    Calls Try.prog 16 #[.pointer (some ⟨p, 0, none⟩), .string s] w fun e w' => e = .returned (.bool (hasE T s)) ∧ HasS w' p mb room armed (mOf (delE T s)) ∧ Tw w w' p mb := by
  have := cancelS_c h s hs
  rw [show hasT (mOf T) (.string s.data.toList) = hasE T s from has_m T s, show delT (mOf T) (.string s.data.toList) = mOf (delE T s) from del_m T s] at this
  exact this

theorem atS_u {w : World} {p mb : Nat} {room armed : Int} {T : List E3} (h : HasS w p mb room armed (mOf T)) (s : ByteArray) (hs : s.size ≤ maxLen) :
    Calls Try.prog 13 #[.pointer (some ⟨p, 0, none⟩), .string s] w fun e w' => e = .returned (.tuple #[.int .i64 (atE T s), .bool (hasE T s)]) ∧ Below w.heap.size w w' := by
  have := atS_c h s hs
  rw [show hasT (mOf T) (.string s.data.toList) = hasE T s from has_m T s, show (getT (mOf T) (.string s.data.toList)).1 = atE T s from at_m T s] at this
  exact this

theorem perm_m : ∀ {l3 m3 : List T3}, l3.Perm m3 → ∀ l : List E3, l3 = mOf l → ∃ m, l.Perm m ∧ m3 = mOf m := by
  intro l3 m3 h
  induction h with
  | nil => intro l e; exact ⟨l, List.Perm.refl _, e⟩
  | cons x _ ih =>
    intro l e
    cases l with
    | nil => cases e
    | cons a r =>
      unfold mOf at e
      rw [List.map_cons] at e
      injection e with e1 e2
      obtain ⟨m, h1, h2⟩ := ih r e2
      exact ⟨a :: m, h1.cons a, by unfold mOf at *; rw [List.map_cons, h2, e1]⟩
  | swap x y r =>
    intro l e
    match l, e with
    | a :: b :: s, e =>
      unfold mOf at e
      rw [List.map_cons, List.map_cons] at e
      injection e with e1 e2
      injection e2 with e2 e3
      exact ⟨b :: a :: s, List.Perm.swap b a s, by unfold mOf; rw [List.map_cons, List.map_cons, e1, e2, e3]⟩
  | trans _ _ ih1 ih2 =>
    intro l e
    obtain ⟨m, h1, h2⟩ := ih1 l e
    obtain ⟨n, h3, h4⟩ := ih2 m h2
    exact ⟨n, h1.trans h3, h4⟩

theorem lit_val (s : ByteArray) : (litS s).value = .string s := by simp [litS, Lit.value]

theorem keys_m (D : List E3) : (mOf D).map (fun x => x.1.value) = D.map (fun x => Value.string x.1) := by
  unfold mOf
  rw [List.map_map]
  refine List.map_congr_left fun x _ => ?_
  exact lit_val x.1

theorem dueS_u {w : World} {p mb : Nat} {room armed : Int} {T : List E3} (h : HasS w p mb room armed (mOf T)) (now : Int) (hl : T.length < 1000000000) :
    Calls Try.prog 17 #[.pointer (some ⟨p, 0, none⟩), .int .i64 now] w fun e w' => ∃ v D mb', e = .returned v ∧ (dueE now T).Perm D ∧ SortedE D ∧ w'.ownsRow w.heap.size 9 1 v D.length (D.map (fun x => Value.string x.1)) ∧
      HasS w' p mb' room armed (mOf (latE now T)) ∧ Tw w w' p mb ∧ (mb' = mb ∨ w.heap.size ≤ mb') := by
  refine (dueS_c h now (by rw [len_m]; exact hl)).mono ?_
  rintro e w' ⟨v, D', mb', rfl, hp, hs, ho, hh, ht, hm⟩
  rw [due_m] at hp
  rw [lat_m] at hh
  obtain ⟨D, h1, rfl⟩ := perm_m hp _ rfl
  rw [keys_m, len_m] at ho
  refine ⟨v, D, mb', rfl, h1, ?_, ho, hh, ht, hm⟩
  unfold SortedT mOf at hs
  rw [List.pairwise_map] at hs
  exact hs

end Go.Proofs.Ytplaconhpiojbaa
