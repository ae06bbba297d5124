/-
  'tree.Rest': the roles at both ends of all links. A contract over the translated program.
-/
import Derived.Test.YtolmkflhddlcnaaTaJ
namespace Go.Proofs.Ytolmkflhddlcnaa
open Go.RowKit
set_option linter.unusedVariables false
set_option linter.unusedSimpArgs false

/-- WHAT Rest ANSWERS. -/
def RestPost (ids : List Int) (L : List Lk) (w : World) (e : Ending) (w' : World) : Prop :=
  ((MayT ids L ∧ ∃ u, e = .returned (.tuple #[u, .int .i64 0]) ∧ RowsAt 2 cellsPr w' u (restL ids L) ∧ ∃ g c, u = .slice (some ⟨g, 0, none⟩) L.length c ∧ w.heap.size ≤ g) ∨ (¬ MayT ids L ∧ e = .returned (.tuple #[.slice none 0 0, .int .i64 3]))) ∧ Below w.heap.size w w'
theorem rest_no {ids : List Int} {L : List Lk} {w w' : World} (h : ¬ MayT ids L) (k : Below w.heap.size w w') : RestPost ids L w (.returned (.tuple #[.slice none 0 0, .int .i64 3])) w' := ⟨Or.inr ⟨h, rfl⟩, k⟩
theorem rest_yes {ids : List Int} {L : List Lk} {w w' : World} {g c : Nat} (h : MayT ids L) (hu : RowsAt 2 cellsPr w' (.slice (some ⟨g, 0, none⟩) L.length c) (restL ids L)) (hg : w.heap.size ≤ g) (k : Below w.heap.size w w') : RestPost ids L w (.returned (.tuple #[.slice (some ⟨g, 0, none⟩) L.length c, .int .i64 0])) w' := ⟨Or.inl ⟨h, _, rfl, hu, g, c, rfl, hg⟩, k⟩

/-- The roles of the ends that are done. -/
def PrIn (w : World) (g : Nat) (ids : List Int) (L : List Lk) (done : Pe → Prop) : Prop :=
  ∃ cs, w.heap[g]? = some (.cells cs 38 (0, 0)) ∧ cs.size = L.length * 2 ∧ (∀ j, j < L.length * 2 → ∃ x, cs[j]? = some (.int .i64 x)) ∧ ∀ e en, EnOf L e en → done e → cs[e.2.2.1.toNat * 2 + e.2.2.2.toNat]? = some (.int .i64 (roleE ids L en))
theorem PrIn.free {w : World} {g : Nat} {ids : List Int} {L : List Lk} {done : Pe → Prop} (h : PrIn w g ids L done) (j : Nat) : w.frozen? ⟨g, j, none⟩ = false := by
  obtain ⟨cs, h1, -⟩ := h
  exact free_of_block h1
theorem PrIn.lt {w : World} {g : Nat} {ids : List Int} {L : List Lk} {done : Pe → Prop} (h : PrIn w g ids L done) : g < w.heap.size := by
  obtain ⟨cs, h1, -⟩ := h
  exact lt_of_block h1
theorem PrIn.old {w : World} {g : Nat} {ids : List Int} {L : List Lk} {done : Pe → Prop} (h : PrIn w g ids L done) {j : Nat} (hj : j < L.length * 2) : ∃ x, w.cell? ⟨g, j, none⟩ = some (.int .i64 x) := by
  obtain ⟨cs, h1, -, h3, -⟩ := h
  obtain ⟨x, hx⟩ := h3 j hj
  exact ⟨x, cell_of_block h1 hx⟩
theorem PrIn.below {w w' : World} {g : Nat} {ids : List Int} {L : List Lk} {done : Pe → Prop} (h : PrIn w g ids L done) (k : Below w.heap.size w w') : PrIn w' g ids L done := by
  obtain ⟨cs, h1, h2⟩ := h
  exact ⟨cs, below_block k (lt_of_block h1) h1, h2⟩
theorem PrIn.imp {w : World} {g : Nat} {ids : List Int} {L : List Lk} {done done' : Pe → Prop} (h : PrIn w g ids L done) (k : ∀ e, e ∈ pendsL L → done' e → done e) : PrIn w g ids L done' := by
  obtain ⟨cs, h1, h2, h3, h4⟩ := h
  exact ⟨cs, h1, h2, h3, fun e en he hd => h4 e en he (k e he.pe hd)⟩
theorem en_idx {L : List Lk} {e : Pe} {en : En} (h : EnOf L e en) : e.2.2.1.toNat < L.length ∧ (e.2.2.2 = 0 ∨ e.2.2.2 = 1) ∧ 0 ≤ e.2.2.1 := by
  obtain ⟨i, l, hl, h1 | h1⟩ := h
  · have := (List.getElem?_eq_some_iff.1 hl).1
    rw [h1.1]
    exact ⟨by show (i : Int).toNat < _; simpa using this, Or.inl rfl, Int.natCast_nonneg i⟩
  · have := (List.getElem?_eq_some_iff.1 hl).1
    rw [h1.1]
    exact ⟨by show (i : Int).toNat < _; simpa using this, Or.inr rfl, Int.natCast_nonneg i⟩
theorem en_same {L : List Lk} {e f : Pe} {en fn : En} (h : EnOf L e en) (k : EnOf L f fn) (h1 : e.2.2.1 = f.2.2.1) (h2 : e.2.2.2 = f.2.2.2) : en = fn := by
  obtain ⟨i, l, hl, h3⟩ := h
  obtain ⟨j, m, hm, k3⟩ := k
  have hij : (i : Int) = (j : Int) := by
    rcases h3 with h3 | h3 <;> rcases k3 with k3 | k3 <;> (rw [h3.1, k3.1] at h1; exact h1)
  obtain rfl : i = j := by omega
  rw [hl] at hm
  obtain rfl := Option.some.inj hm
  rcases h3 with h3 | h3 <;> rcases k3 with k3 | k3
  · rw [h3.2, k3.2]
  · rw [h3.1, k3.1] at h2; exact absurd (show (0 : Int) = 1 from h2) (by decide)
  · rw [h3.1, k3.1] at h2; exact absurd (show (1 : Int) = 0 from h2) (by decide)
  · rw [h3.2, k3.2]
theorem PrIn.put {w : World} {g : Nat} {ids : List Int} {L : List Lk} {done : Pe → Prop} (h : PrIn w g ids L done) {e0 : Pe} {en0 : En} (he : EnOf L e0 en0) {o : Nat} (ho : e0.2.2.1.toNat * 2 + e0.2.2.2.toNat = o) : PrIn (w.setCell ⟨g, o, none⟩ (.int .i64 (roleE ids L en0))) g ids L (fun e => done e ∨ e = e0) := by
  obtain ⟨cs, h1, h2, h3, h4⟩ := h
  obtain ⟨i0, i1, i2⟩ := en_idx he
  have hlt : o < cs.size := by rw [h2]; omega
  refine ⟨_, heap_store h1, by simp [h2], fun j hj => ?_, fun e en k hd => ?_⟩
  · by_cases hjo : o = j
    · subst hjo
      exact ⟨_, by rw [Array.getElem?_setIfInBounds_self_of_lt hlt]⟩
    · rw [Array.getElem?_setIfInBounds_ne hjo]
      exact h3 j hj
  · obtain ⟨k0, k1, k2⟩ := en_idx k
    by_cases hs : e.2.2.1.toNat * 2 + e.2.2.2.toNat = o
    · rw [hs, Array.getElem?_setIfInBounds_self_of_lt hlt, en_same k he (by omega) (by omega)]
    · rw [Array.getElem?_setIfInBounds_ne (by omega)]
      rcases hd with hd | hd
      · exact h4 e en k hd
      · subst hd
        exact absurd ho hs
theorem PrIn.rows {w : World} {g : Nat} {ids : List Int} {L : List Lk} {done : Pe → Prop} (h : PrIn w g ids L done) (hd : ∀ e ∈ pendsL L, done e) : RowsAt 2 cellsPr w (.slice (some ⟨g, 0, none⟩) L.length L.length) (restL ids L) := by
  obtain ⟨cs, h1, h2, h3, h4⟩ := h
  refine ⟨_, L.length, g, 0, by simp [restL], fun _ => rfl, fun j x hj i u hu => ?_⟩
  unfold restL at hj
  rw [List.getElem?_map] at hj
  obtain ⟨l, hl, rfl⟩ := Option.map_eq_some_iff.1 hj
  rw [Nat.zero_add]
  have ea : EnOf L (peA (j : Int) l) (endA l) := ⟨j, l, hl, Or.inl ⟨rfl, rfl⟩⟩
  have eb : EnOf L (peB (j : Int) l) (endB l) := ⟨j, l, hl, Or.inr ⟨rfl, rfl⟩⟩
  have ha := h4 _ _ ea (hd _ ea.pe)
  have hb := h4 _ _ eb (hd _ eb.pe)
  rcases i with _ | _ | i
  · simp [cellsPr] at hu
    subst hu
    exact cell_of_block h1 (by simpa [peA] using ha)
  · simp [cellsPr] at hu
    subst hu
    exact cell_of_block h1 (by simpa [peB] using hb)
  · simp [cellsPr] at hu
def zeroRow (n : Nat) : Array Value := madeCells (Value.agg #[.int .i64 0, .int .i64 0]).cells (n * 2)
theorem zero_in (w : World) (ids : List Int) (L : List Lk) : PrIn (w.alloc (.cells (zeroRow L.length) 38)) w.heap.size ids L (fun _ => False) := by
  refine ⟨_, heap_new _ _, by simp [zeroRow, size_madeCells], fun j hj => ⟨0, ?_⟩, fun e en _ h => h.elim⟩
  unfold zeroRow madeCells
  rw [Array.getElem?_map, Array.getElem?_range]
  simp only [hj, if_true, Option.map_some, Value.cells]
  have h1 : j % 2 = 0 ∨ j % 2 = 1 := by omega
  rcases h1 with h1 | h1 <;> simp [h1]
theorem own_list (ids : List Int) (L : List Lk) : ids.map ownV = listB ids.length (bstT (idAt ids) (endsL L) 0) := by
  apply List.ext_getElem?
  intro j
  by_cases hj : j < ids.length
  · rw [listB_at _ hj, List.getElem?_map, idAt_at hj]
    rfl
  · rw [List.getElem?_eq_none (by simpa using hj), List.getElem?_eq_none (by rw [listB_len]; omega)]
theorem rest_list (ids : List Int) (L : List Lk) : listB ids.length (bstT (idAt ids) (endsL L) ids.length) = listB ids.length (restB ids L) := rfl
theorem at_take {R : List Pe} {b j : Nat} {x : Pe} (h : (atP R b)[j]? = some x) (e : Pe) : e ∈ (atP R b).take (j + 1) → e ∈ (atP R b).take j ∨ e = x := by
  intro he
  rw [List.take_succ_eq_append_getElem (List.getElem?_eq_some_iff.1 h).1, (List.getElem?_eq_some_iff.1 h).2, List.mem_append, List.mem_singleton] at he
  exact he

set_option maxHeartbeats 8000000 in
set_option maxRecDepth 100000 in
theorem rest_c (vi vl : Value) (ids : List Int) (L : List Lk) (w : World) (hi : RowsAt 1 cellsU64 w vi ids) (hc : CapOk vi) (hL : RowsAt 5 cellsLk w vl L) (qi : ids.length ≤ 9223372036854775807) (ql : L.length ≤ 9223372036854775807) : Calls Try.prog 13 #[vi, vl] w (RestPost ids L w) := by
  have CH := Lib.hid (chk_c vi vl ids L w hi hc hL qi ql)
  have LAY := Lib.hid fun (U : World) (kz : Below w.heap.size w U) => lay_c vi vl ids L U (hi.below kz) (hL.below kz)
  have HI := Lib.hid hi
  obtain ⟨pl, capl, rfl⟩ := hL.slice
  obtain ⟨pi, capi, bi, offi, rfl, hpi, hci⟩ := hi
  have HPI := Lib.hid hpi
  have HCI := Lib.hid hci
  obtain ⟨i0, hi0, hz0, hz1, hz2⟩ := info_parts info_Pr
  clear hpi hci hL hc
  go_enter Try.func13, Try.ntmps13
  go_wp2_with fail
  ((with_reducible refine CH.out.mono ?_); rintro e w1 ⟨(⟨hM, rfl⟩ | ⟨hM, rfl⟩), k1⟩)
  · have n1 := hM.n1
    have n12 := hM.n12
    have l40 := hM.l40
    have HM := Lib.hid hM
    have K1 := Lib.hid k1
    have hne : ids ≠ [] := by rintro rfl; simp at n1
    obtain rfl := HPI.out hne
    have LY := Lib.hid (LAY.out w1 k1 n1 n12 l40 (fun e he => by
      obtain ⟨en, hen⟩ := en_of he
      have h1 := end_ok hM hen.mem
      rw [← hen.key.1]
      exact ⟨h1.a0, h1.a1⟩))
    clear hne LAY CH hM k1
    go_wp2_with fail
    ((with_reducible refine LY.out.mono ?_); rintro e w2 ⟨m, ab, vb, R, rfl, hp, hu, hm, k2, gm⟩)
    rw [own_list ids L] at hm
    have HR := Lib.hid (rowR_of HM.out hp hu)
    have HMS := Lib.hid hm
    have K2 := Lib.hid (K1.out.trans (k2.mono K1.out.size))
    have hmB : w.heap.size ≤ m := Nat.le_trans K1.out.size gm
    clear hp hu hm k2 gm LY
    obtain ⟨n, hn⟩ : ∃ n, n = ids.length := ⟨_, rfl⟩
    have HNN := Lib.hid hn
    rw [← hn] at n1 n12 ⊢
    clear hn
    go_wp2_with fail
    go_loopw [25] (fun i wr => ∃ (k : Nat) (vb : Value), k ≤ n ∧ i = .int .i64 k ∧ Hid (HasM wr m (.slice (some ⟨bi, offi, none⟩) ids.length capi) (.slice pl L.length capl) vb ab ids.length ids L R (listB ids.length (bstT (idAt ids) (endsL L) k))) ∧ Hid (Below w.heap.size w wr)) (fun i _ => n - (intOf i).toNat)
    case atStart => exact ⟨0, vb, Nat.zero_le _, rfl, HMS, K2⟩
    case round =>
      clear HMS K2
      obtain ⟨k, vb, hk, rfl, HMS, KB⟩ := hrel
      by_cases hlt : k < n
      · have RC := Lib.hid (round_c HMS.out HR.out)
        have d1 : decide (k < n) = true := decide_eq_true hlt
        have d2 : decide ((k : Int) < (n : Int)) = true := decide_eq_true (by omega)
        have d3 : decide (n ≤ k) = false := decide_eq_false (by omega)
        go_wp2_with fail
        ((with_reducible refine RC.out.mono ?_); rintro e w3 ⟨rfl, vb', h3, k3⟩)
        have HM3 := Lib.hid h3
        have K3 := Lib.hid (KB.out.trans (k3 w.heap.size KB.out.size hmB))
        clear h3 k3 RC HMS KB
        go_wp2_with fail
        go_roundw
        case rel => exact ⟨k + 1, vb', by omega, by go_num, HM3, K3⟩
        case measure => simp [intOf]; omega
      · obtain rfl : k = n := by omega
        clear hlt
        have HM4 := Lib.hid (show HasM wr m (.slice (some ⟨bi, offi, none⟩) ids.length capi) (.slice pl L.length capl) vb ab ids.length ids L R (listB ids.length (restB ids L)) by have h := HMS.out; rw [HNN.out] at h; exact h)
        have hmk : ∀ U : World, (Instr.makeSlice 30 (.int .i64 (L.length : Int)) (.int .i64 (L.length : Int))).run Try.prog U = .ok (.slice (some ⟨U.heap.size, 0, none⟩) L.length L.length) (U.alloc (.cells (zeroRow L.length) 38)) := fun U => by
          have h := run_make (P := Try.prog) U 30 38 i0 (.agg #[.int .i64 0, .int .i64 0]) Try.underlying30 hi0 hz0 .i64 .i64 (L.length : Int) (L.length : Int) (by omega) (Int.le_refl _) (by rw [hz2]; omega) (by omega)
          rw [hz1, Int.toNat_natCast] at h
          exact h
        clear HMS
        go_upto_region 10 with fail
        clear hmk
        have PR0 := Lib.hid ((zero_in wr ids L).imp (done' := fun e => e ∈ R ∧ e.1 < ((0 : Nat) : Int)) (fun e he hd => by
          obtain ⟨en, hen⟩ := en_of he
          have h1 := (end_ok HM.out hen.mem).a0
          rw [hen.key.1] at h1
          omega))
        have KW0 := Lib.hid (show Below wr.heap.size wr (wr.alloc (.cells (zeroRow L.length) 38)) from (Below.refl _ wr).alloc (Nat.le_refl _) _)
        generalize wr.alloc (.cells (zeroRow L.length) 38) = W5 at PR0 KW0 ⊢
        obtain ⟨g, hg⟩ : ∃ g, g = wr.heap.size := ⟨_, rfl⟩
        have HGG := Lib.hid hg
        rw [← hg] at PR0 ⊢
        clear hg
        go_wp2_with fail
        obtain ⟨wq, rfl⟩ : ∃ wq, wq = wr := ⟨_, rfl⟩
        go_loopw [9, 10, 11, 13, 35] (fun _ _ _ _ i w6 => ∃ q : Nat, q ≤ k ∧ i = .int .i64 q ∧ Hid (PrIn w6 g ids L (fun e => e ∈ R ∧ e.1 < (q : Int))) ∧ Hid (Below wq.heap.size wq w6)) (fun _ _ _ _ i _ => k - (intOf i).toNat)
        case atStart => exact ⟨0, Nat.zero_le _, rfl, PR0, KW0⟩
        case round =>
          clear PR0 KW0
          obtain ⟨q, hq, rfl, PR, KW⟩ := hrel
          by_cases hlt : q < k
          · have HQ := Lib.hid (show q < ids.length by rw [← HNN.out]; exact hlt)
            obtain ⟨va, ha, hva⟩ := HM4.out.at_ q HQ.out
            obtain ⟨pa, capa, ba, offa, rfl, hpa, hca⟩ := hva
            have HPA := Lib.hid hpa
            have HCA := Lib.hid hca
            have KWW := Lib.hid (KB.out.trans (KW.out.mono KB.out.size))
            have xi : wr.cell? ⟨bi, offi + q, none⟩ = some (.int .u64 (idAt ids q)) := gcell_below KWW.out (by have := HCI.out q _ (idAt_at HQ.out) 0 _ rfl; simpa using this)
            have d1 : decide (q < k) = true := decide_eq_true hlt
            have d2 : decide ((q : Int) < (k : Int)) = true := decide_eq_true (by omega)
            have d3 : decide (k ≤ q) = false := decide_eq_false (by omega)
            have d4 : decide (0 ≤ (q : Int)) = true := decide_eq_true (by omega)
            have HC := Lib.hid (heard_c (HM4.out.below KW.out) HR.out q HQ.out)
            have HA := Lib.hid ha
            clear hpa hca ha
            go_wp2_with fail
            ((with_reducible refine HC.out.mono ?_); rintro e w7 ⟨u, rfl, r7, k7⟩)
            have RO := Lib.hid (proles_o (idAt ids q) u (heardP (idAt ids) L R (restB ids L) q) w7 (by rw [HR.out.len]; have := HR.out.last_le (b := q) (Nat.le_refl _); omega) r7)
            have K7 := Lib.hid k7
            clear HC r7 k7 xi
            go_wp2_with fail
            ((with_reducible refine RO.out.mono ?_); rintro e w8 ⟨us, rfl, o8, k8⟩)
            have OW := Lib.hid o8
            have PR8 := Lib.hid ((PR.out.below K7.out).below k8)
            have KW8 := Lib.hid ((KW.out.trans (K7.out.mono KW.out.size)).trans (k8.mono (KW.out.trans (K7.out.mono KW.out.size)).size))
            have m2 : w8.cell? ⟨m, 2, none⟩ = some (.slice (some ⟨ab, 0, none⟩) ids.length ids.length) := cell_of_block (HM4.out.below KW8.out).mesh rfl
            have ha := gcell_below KW8.out HA.out
            have lt1 : m < w8.heap.size := gcell_lt m2
            have g1 : decide (q < ids.length) = true := decide_eq_true HQ.out
            have g2 : decide ((q : Int) < (ids.length : Int)) = true := decide_eq_true (by have := HQ.out; omega)
            have g3 : decide (ids.length ≤ q) = false := decide_eq_false (by have := HQ.out; omega)
            clear RO o8 k8 K7 PR KW KWW
            obtain ⟨rl, hrl⟩ : ∃ rl, rl = (heardP (idAt ids) L R (restB ids L) q).length := ⟨_, rfl⟩
            have HRL := Lib.hid hrl
            rw [← hrl] at OW
            clear hrl
            obtain ⟨nd, hnd⟩ : ∃ nd, nd = (atP R q).length := ⟨_, rfl⟩
            have HND := Lib.hid hnd
            rw [← hnd] at ha
            have hnd80 : nd ≤ 80 := by
              have h1 : (atP R q).length ≤ R.length := List.length_filter_le _ _
              have h2 := HR.out.perm.length_eq
              rw [pends_len] at h2
              omega
            clear hnd
            obtain ⟨ps, cs, hs⟩ := owns_slice OW.out
            subst hs
            go_wp2_with fail
            clear d1 d2 d3 d4 g1 g2 g3 m2 ha lt1
            go_loopw [13, 53] (fun _ i w9 => ∃ j : Nat, j ≤ nd ∧ i = .int .i64 j ∧ Hid (PrIn w9 g ids L (fun e => (e ∈ R ∧ e.1 < (q : Int)) ∨ e ∈ (atP R q).take j)) ∧ Hid (w9.ownsRow w7.heap.size 3 1 (.slice ps rl cs) rl ((rolesL (idAt ids q) (heardP (idAt ids) L R (restB ids L) q)).map (Value.int .i64))) ∧ Hid (Below wq.heap.size wq w9)) (fun _ i _ => nd - (intOf i).toNat)
            case atStart => exact ⟨0, Nat.zero_le _, rfl, Lib.hid (PR8.out.imp (fun e _ h => by rcases h with h | h; exact h; simp at h)), OW, KW8⟩
            case round =>
              clear PR8 OW KW8
              obtain ⟨j, hj, rfl, PR, OW, KW⟩ := hrel
              by_cases hjn : j < nd
              · obtain ⟨x, hx⟩ : ∃ x, (atP R q)[j]? = some x := ⟨_, List.getElem?_eq_getElem (by rw [← HND.out]; exact hjn)⟩
                have hmem := List.mem_of_getElem? hx
                have hneD : atP R q ≠ [] := by intro e; rw [e] at hx; simp at hx
                obtain rfl := HPA.out hneD
                obtain ⟨en, hen, hok, e1, e2⟩ := HR.out.at_ok hmem
                obtain ⟨q0, q1⟩ := HR.out.port hmem
                obtain ⟨i0x, i1x, i2x⟩ := en_idx hen
                have HRE := Lib.hid (HR.out.role_end hmem hen)
                obtain ⟨ki, hki⟩ := List.mem_iff_getElem?.1 hmem
                have hpl2 := HR.out.last_lt hki (List.getElem?_eq_some_iff.1 hki).1 (Nat.le_refl _)
                rw [← HR.out.len (id := idAt ids) (bst := restB ids L), ← HRL.out] at hpl2
                have HTK := Lib.hid (at_take hx)
                have HX := Lib.hid hx
                have HEN := Lib.hid hen
                obtain ⟨xb, xp, xl, xs⟩ := x
                simp only at q0 q1 i0x i1x i2x hpl2
                obtain ⟨p, rfl⟩ : ∃ p : Nat, xp = (p : Int) := ⟨xp.toNat, by omega⟩
                obtain ⟨i, rfl⟩ : ∃ i : Nat, xl = (i : Int) := ⟨xl.toNat, by omega⟩
                obtain ⟨σ, rfl⟩ : ∃ σ : Nat, xs = (σ : Int) := ⟨xs.toNat, by omega⟩
                rw [Int.toNat_natCast] at i0x hpl2
                have hσ : σ < 2 := by omega
                have x0 : wr.cell? ⟨ba, offa + j * 4, none⟩ = some (.int .i64 xb) := gcell_below KW.out (HCA.out j _ HX.out 0 _ rfl)
                have x1 : wr.cell? ⟨ba, offa + j * 4 + 1, none⟩ = some (.int .i64 (p : Int)) := gcell_below KW.out (HCA.out j _ HX.out 1 _ rfl)
                have x2 : wr.cell? ⟨ba, offa + j * 4 + 2, none⟩ = some (.int .i64 (i : Int)) := gcell_below KW.out (HCA.out j _ HX.out 2 _ rfl)
                have x3 : wr.cell? ⟨ba, offa + j * 4 + 3, none⟩ = some (.int .i64 (σ : Int)) := gcell_below KW.out (HCA.out j _ HX.out 3 _ rfl)
                have d1 : decide (j < nd) = true := decide_eq_true hjn
                have d2 : decide ((j : Int) < (nd : Int)) = true := decide_eq_true (by omega)
                have d3 : decide (nd ≤ j) = false := decide_eq_false (by omega)
                have d4 : decide (0 ≤ (j : Int)) = true := decide_eq_true (by omega)
                clear hx hmem hneD hen hok e1 e2 q0 q1 i1x i2x hki
                go_upto_region 17 with fail
                have HE1 := Lib.hid (heap_new wr (.cells #[.int .i64 xb, .int .i64 (p : Int), .int .i64 (i : Int), .int .i64 (σ : Int)] 54))
                have kb := (Below.refl wr.heap.size wr).alloc (Nat.le_refl _) (.cells #[.int .i64 xb, .int .i64 (p : Int), .int .i64 (i : Int), .int .i64 (σ : Int)] 54)
                have OW1 := Lib.hid (iowns_below OW.out kb)
                have PR1 := Lib.hid (PR.out.below kb)
                have KW1 := Lib.hid (KW.out.trans (kb.mono KW.out.size))
                clear x0 x1 x2 x3 d1 d2 d3 d4 OW PR KW kb
                generalize wr.alloc (.cells #[.int .i64 xb, .int .i64 (p : Int), .int .i64 (i : Int), .int .i64 (σ : Int)] 54) = W1 at HE1 OW1 PR1 KW1 ⊢
                generalize wr.heap.size = eb at HE1 ⊢
                obtain ⟨gr, capr, curr, hsl, hgr, hcr⟩ := owns_blk OW1.out (by omega)
                obtain ⟨rfl, rfl⟩ : ps = some ⟨gr, 0, none⟩ ∧ cs = capr := by simpa using hsl
                have rc := cell_of_block hgr (hcr p _ (by rw [List.getElem?_map]; have := HRE.out; rw [Int.toNat_natCast] at this; rw [this]; rfl))
                have e1 : W1.cell? ⟨eb, 1, none⟩ = some (.int .i64 (p : Int)) := cell_of_block HE1.out rfl
                have e2 : W1.cell? ⟨eb, 2, none⟩ = some (.int .i64 (i : Int)) := cell_of_block HE1.out rfl
                have e3 : W1.cell? ⟨eb, 3, none⟩ = some (.int .i64 (σ : Int)) := cell_of_block HE1.out rfl
                obtain ⟨xo, ho⟩ := PR1.out.old (j := i * 2 + σ) (by omega)
                have hf := PR1.out.free (i * 2 + σ)
                have ltg := PR1.out.lt
                have lte : eb < W1.heap.size := lt_of_block HE1.out
                have ltr : gr < W1.heap.size := lt_of_block hgr
                have b1 : decide (p < rl) = true := decide_eq_true hpl2
                have b2 : decide ((p : Int) < (rl : Int)) = true := decide_eq_true (by omega)
                have b3 : decide (rl ≤ p) = false := decide_eq_false (by omega)
                have b4 : decide (0 ≤ (p : Int)) = true := decide_eq_true (by omega)
                have c1 : decide (i < L.length) = true := decide_eq_true i0x
                have c2 : decide ((i : Int) < (L.length : Int)) = true := decide_eq_true (by omega)
                have c3 : decide (L.length ≤ i) = false := decide_eq_false (by omega)
                have c4 : decide (0 ≤ (i : Int)) = true := decide_eq_true (by omega)
                have s1 : (σ : Int) < 2 := by omega
                have s2 : decide ((σ : Int) < 2) = true := decide_eq_true s1
                have s3 : decide (0 ≤ (σ : Int)) = true := decide_eq_true (by omega)
                have PRP := Lib.hid (PR1.out.put HEN.out (o := i * 2 + σ) (by show (i : Int).toNat * 2 + (σ : Int).toNat = _; rw [Int.toNat_natCast, Int.toNat_natCast]))
                have OWP := Lib.hid (by obtain ⟨csx, h1, -⟩ := PR1.out; exact owns_only OW1.out (Only.setCell W1 g (i * 2 + σ) (.int .i64 (roleE ids L en))) h1 (by decide) : (W1.setCell ⟨g, i * 2 + σ, none⟩ (.int .i64 (roleE ids L en))).ownsRow w7.heap.size 3 1 (.slice (some ⟨gr, 0, none⟩) rl cs) rl ((rolesL (idAt ids q) (heardP (idAt ids) L R (restB ids L) q)).map (Value.int .i64)))
                have KWP := Lib.hid (KW1.out.setCell (p := ⟨g, i * 2 + σ, none⟩) (by rw [HGG.out]; exact Nat.le_refl _) (.int .i64 (roleE ids L en)))
                have HTT := Lib.hid (fun e (h : (e ∈ R ∧ e.1 < (q : Int)) ∨ e ∈ (atP R q).take (j + 1)) => (by rcases h with h | h; exact Or.inl (Or.inl h); rcases HTK.out e h with h | h; exact Or.inl (Or.inr h); exact Or.inr h : ((e ∈ R ∧ e.1 < (q : Int)) ∨ e ∈ (atP R q).take j) ∨ e = (xb, (p : Int), (i : Int), (σ : Int))))
                clear hsl hgr hcr PR1 OW1 KW1 HE1
                generalize roleE ids L en = rr at rc PRP OWP KWP
                go_wp2_with fail
                go_still_tail 12, (by kernel_rfl)
                change wpList _ _ _ _ _ W1.drew
                go_wp2_with fail
                go_roundw
                case rel => exact ⟨j + 1, by omega, by go_num, Lib.hid (by have h := PRP.out.imp (fun e _ h => HTT.out e h); exact h), Lib.hid (by exact OWP.out), Lib.hid (by exact KWP.out.drew)⟩
                case measure => simp [intOf]; omega
              · obtain rfl : j = nd := by omega
                rw [List.take_of_length_le (by rw [HND.out]; exact Nat.le_refl _)] at PR
                have PR2 := Lib.hid (PR.out.imp (done' := fun e => e ∈ R ∧ e.1 < ((q + 1 : Nat) : Int)) (fun e _ h => by
                  by_cases h1 : e.1 < (q : Int)
                  · exact Or.inl ⟨h.1, h1⟩
                  · exact Or.inr (at_mem.2 ⟨h.1, by have := h.2; omega⟩)))
                clear hjn PR
                go_wp2_with fail
                go_roundw
                case rel => exact ⟨q + 1, by omega, by go_num, PR2, KW⟩
                case measure => simp [intOf]; omega
          · obtain rfl : q = k := by omega
            have RS := Lib.hid (PR.out.rows (fun e he => by
              obtain ⟨en, hen⟩ := en_of he
              have h1 := (end_ok HM.out hen.mem).a1
              rw [hen.key.1] at h1
              exact ⟨HR.out.perm.mem_iff.2 he, by rw [HNN.out]; exact h1⟩))
            have KE := Lib.hid (KB.out.trans (KW.out.mono KB.out.size))
            clear hlt PR KW
            go_wp2_with fail
            go_ret2
            exact rest_yes HM.out RS.out (by rw [HGG.out]; exact KB.out.size) KE.out
  · have K1 := Lib.hid k1
    have HN := Lib.hid hM
    clear k1 hM LAY CH
    go_wp2_with fail
    go_ret2
    exact rest_no HN.out K1.out
end Go.Proofs.Ytolmkflhddlcnaa
