/-
  'siphonlaw02.CsumOrder' returns true, whatever the input, and each argument reads behind the call as it read before. Conditions: none beyond those that the row itself states.
-/
import Derived.Test.YtaogjejokdciaaaRows
import Derived.Test.YtaogjejokdciaaaPsum
import Derived.Test.YtaogjejokdciaaaLive2
import Derived.WalkKit
import Derived.ProofKit
import Derived.OpenShut
import Derived.ShutString
import Derived.ChangeOld
import Derived.Below
import Derived.Carry
import Derived.SizedLaws
import Derived.Lib.SmallJoins
namespace Go.Proofs.Ytaogjejokdciaaa.csumOrderLaw
open Go.ChangeShapes Go.WideShapes Go.ChangeAt Go.RowKit Go.Joins
open Go.ChangeMaps (open_string shut_string)
set_option linter.unusedVariables false

set_option maxHeartbeats 1000000 in
set_option maxRecDepth 100000 in
theorem walk_odd (s : ByteArray) (i k : Int) (w : World) (zs : s.size ≤ 140737488351232) (h : s.size % 2 = 1) :
    Calls Try.prog 13 #[.string s, .int .i64 i, .int .i64 k] w fun e w' => e = .returned (.bool true) ∧ Below w.heap.size w w' := by
  have z1 : (⟨#[0]⟩ : ByteArray).size = 1 := rfl
  have H1 := Lib.hid fun U => sum_c s U (by omega)
  have H2 := Lib.hid fun U => sum_c (s ++ ⟨#[0]⟩) U (by rw [ByteArray.size_append]; omega)
  have e : sumN (s ++ ⟨#[0]⟩).data.toList = sumN s.data.toList := by
    rw [apl]
    exact sumN_congr (psum_odd _ (by rw [fsize]; exact h))
  rw [e] at H2
  obtain ⟨q1, q2⟩ := eq_t (show (s.size : Int) % 2 = 1 by omega)
  obtain ⟨x, hx⟩ : ∃ x, x = sumN s.data.toList := ⟨_, rfl⟩
  rw [← hx] at H1 H2
  clear h e z1 hx
  go_enter Try.func13, Try.ntmps13
  go_wp2_with fail
  refine (H1.out _).mono ?_
  rintro e w1 ⟨rfl, h1⟩
  go_wp2_with fail
  refine (H2.out _).mono ?_
  rintro e w2 ⟨rfl, h2⟩
  go_wp2_with fail
  refine (live2_c _).mono ?_
  rintro e w3 ⟨rfl, h3⟩
  go_wp2_with fail
  go_ret
  exact ⟨rfl, below_then (below_then h1 h2) h3⟩

set_option maxHeartbeats 1000000 in
set_option maxRecDepth 100000 in
theorem walk_out (s : ByteArray) (i k : Int) (w : World) (zs : s.size ≤ 140737488351232) (h : s.size % 2 = 0) (ho : i < 0 ∨ k < 0 ∨ (s.size : Int) / 2 ≤ i ∨ (s.size : Int) / 2 ≤ k) :
    Calls Try.prog 13 #[.string s, .int .i64 i, .int .i64 k] w fun e w' => e = .returned (.bool true) ∧ Below w.heap.size w w' := by
  obtain ⟨q1, q2⟩ := ne_t (show (s.size : Int) % 2 ≠ 1 by omega)
  have hh : i < 0 ∨ ¬ i < 0 ∧ (k < 0 ∨ ¬ k < 0 ∧ ((s.size : Int) / 2 ≤ i ∨ ¬ (s.size : Int) / 2 ≤ i ∧ (s.size : Int) / 2 ≤ k)) := by omega
  clear ho h
  rcases hh with h | ⟨h, g | ⟨g, j | ⟨j, l⟩⟩⟩
  all_goals
    go_enter Try.func13, Try.ntmps13
    go_wp2_with fail
    refine (live2_c _).mono ?_
    rintro e w3 ⟨rfl, h3⟩
    go_wp2_with fail
    go_ret
    exact ⟨rfl, h3⟩

set_option maxHeartbeats 2000000 in
set_option maxRecDepth 100000 in
theorem walk_in (s : ByteArray) (i k : Nat) (w : World) (zs : s.size ≤ 140737488351232) (h : s.size % 2 = 0) (hi : 2 * i + 1 < s.size) (hk : 2 * k + 1 < s.size) :
    Calls Try.prog 13 #[.string s, .int .i64 (i : Int), .int .i64 (k : Int)] w fun e w' => e = .returned (.bool true) ∧ Below w.heap.size w w' := by
  obtain ⟨q1, q2⟩ := ne_t (show (s.size : Int) % 2 ≠ 1 by omega)
  have g1 : ¬ (s.size : Int) / 2 ≤ i := by omega
  have g2 : ¬ (s.size : Int) / 2 ≤ k := by omega
  obtain ⟨cap, sp, hcv⟩ := bytes_new (P := Try.prog) w 9 54 5 s Try.underlying9 Try.underlying54 Try.underlying5
  have hl : s.data.toList.length = s.size := by simp
  obtain ⟨N, hN⟩ : ∃ N, N = (s.data.toList ++ sp).length := ⟨_, rfl⟩
  have hNs : s.size ≤ N := by rw [hN, List.length_append]; omega
  rw [← hN] at hcv
  have HL := Lib.hid hl
  clear h hl hN
  go_enter Try.func13, Try.ntmps13
  go_wp2_with fail
  go_loopw [8] (fun v wr => ∃ (j : Nat) (L : List UInt8), j ≤ 2 ∧ v = .int .i64 (j : Int) ∧ Hid (L.length = s.size) ∧ Hid (psum L = psum s.data.toList) ∧ wr.heap[w.heap.size]? = some (.cells (byteRow (L ++ sp)) 5 (N, N + 1)) ∧ Below w.heap.size w wr)
    (fun v _ => 2 - (intOf v).toNat)
  case atStart => exact ⟨0, s.data.toList, by omega, rfl, HL, rfl, (by exact heap_new w.drew _), ((Below.refl _ w).drew).alloc (by simp) _⟩
  case round =>
    obtain ⟨j, L, hj, rfl, hLl, hLp, hR, hbl⟩ := hrel
    by_cases hlt : j < 2
    · have a1 : 2 * i + j < L.length := by rw [hLl.out]; omega
      have a2 : 2 * k + j < L.length := by rw [hLl.out]; omega
      have b1 : 2 * i + j < s.size := by omega
      have b2 : 2 * k + j < s.size := by omega
      have c1 := cell_of_block hR (byteRow_at (L ++ sp) (2 * i + j) (by rw [List.length_append]; omega))
      have c2 := cell_of_block hR (byteRow_at (L ++ sp) (2 * k + j) (by rw [List.length_append]; omega))
      rw [List.getElem_append_left a1] at c1
      rw [List.getElem_append_left a2] at c2
      obtain ⟨x, hx⟩ : ∃ x, x = L[2 * i + j] := ⟨_, rfl⟩
      obtain ⟨y, hy⟩ : ∃ y, y = L[2 * k + j] := ⟨_, rfl⟩
      rw [← hx] at c1
      rw [← hy] at c2
      have f1 := free_below hR (j := 2 * i + j) (by omega)
      have f2 := free_below hR (j := 2 * k + j) (by omega)
      -- behind the first store
      have hR1 : (wr.setCell ⟨w.heap.size, 2 * i + j, none⟩ (.int .u8 (y.toNat : Int))).heap[w.heap.size]? = some (.cells (byteRow (L.set (2 * i + j) y ++ sp)) 5 (N, N + 1)) := by
        have := heap_store (j := 2 * i + j) (v := .int .u8 (y.toNat : Int)) hR
        rw [byteRow_set, List.set_append_left _ _ a1] at this
        exact this
      have c3 := cell_of_block hR1 (byteRow_at (L.set (2 * i + j) y ++ sp) (2 * k + j) (by rw [List.length_append, List.length_set]; omega))
      have f3 := free_below hR1 (j := 2 * k + j) (by omega)
      have hR2 : ((wr.setCell ⟨w.heap.size, 2 * i + j, none⟩ (.int .u8 (y.toNat : Int))).setCell ⟨w.heap.size, 2 * k + j, none⟩ (.int .u8 (x.toNat : Int))).heap[w.heap.size]? = some (.cells (byteRow ((L.set (2 * i + j) y).set (2 * k + j) x ++ sp)) 5 (N, N + 1)) := by
        have := heap_store (j := 2 * k + j) (v := .int .u8 (x.toNat : Int)) hR1
        rw [byteRow_set, List.set_append_left _ _ (by rw [List.length_set]; exact a2)] at this
        exact this
      have hp2 : psum ((L.set (2 * i + j) y).set (2 * k + j) x) = psum s.data.toList := by
        rw [← hLp.out, hx, hy]
        exact psum_swap L _ _ a1 a2 (by omega)
      have P2 := Lib.hid hp2
      have R2 := Lib.hid hR2
      clear hx hy hR1 hR2 hp2
      go_wp2_with fail
      go_roundw
      case rel => exact ⟨j + 1, _, hlt, by go_num, by show _ = _; rw [List.length_set, List.length_set]; exact hLl.out, P2, R2.out, (hbl.setCell (p := ⟨w.heap.size, 2 * i + j, none⟩) (Nat.le_refl _) _).setCell (p := ⟨w.heap.size, 2 * k + j, none⟩) (Nat.le_refl _) _⟩
      case measure => simp [intOf]; omega
    · obtain rfl : j = 2 := by omega
      have hcw := run_string_of_prefix (P := Try.prog) (cap := cap) 54 9 5 hR Try.underlying54 Try.underlying5 Try.underlying9 s.size hLl.out.symm
      obtain ⟨S, hS⟩ : ∃ S : ByteArray, S = ⟨L.toArray⟩ := ⟨_, rfl⟩
      rw [← hS] at hcw
      have hz : S.size = s.size := by rw [hS, ByteArray.size_mk', List.size_toArray]; exact hLl.out
      have H1 := Lib.hid fun U => sum_c s U (by omega)
      have H2 := Lib.hid fun U => sum_c S U (by omega)
      have e : sumN S.data.toList = sumN s.data.toList := by rw [hS]; exact sumN_congr hLp.out
      rw [e] at H2
      obtain ⟨x, hx⟩ : ∃ x, x = sumN s.data.toList := ⟨_, rfl⟩
      rw [← hx] at H1 H2
      clear e hx hz hS
      go_wp2_with fail
      refine (H2.out _).mono ?_
      rintro e w1 ⟨rfl, h1⟩
      go_wp2_with fail
      refine (H1.out _).mono ?_
      rintro e w2 ⟨rfl, h2⟩
      go_wp2_with fail
      refine (live2_c _).mono ?_
      rintro e w3 ⟨rfl, h3⟩
      go_wp2_with fail
      go_ret
      exact ⟨rfl, below_then (below_then (below_then hbl h1) h2) h3⟩

theorem walk (a0 : ByteArray) (a1 : Int) (a2 : Int) (w : World) (za0 : a0.size ≤ 140737488351232) (la1 : -9223372036854775808 ≤ a1) (ua1 : a1 ≤ 9223372036854775807) (la2 : -9223372036854775808 ≤ a2) (ua2 : a2 ≤ 9223372036854775807) :
    Calls Try.prog 13 #[.string a0, .int .i64 a1, .int .i64 a2] w fun e w' => e = .returned (.bool true) ∧ Below w.heap.size w w' := by
  by_cases h : a0.size % 2 = 1
  · exact walk_odd _ _ _ _ za0 h
  · by_cases ho : a1 < 0 ∨ a2 < 0 ∨ (a0.size : Int) / 2 ≤ a1 ∨ (a0.size : Int) / 2 ≤ a2
    · exact walk_out _ _ _ _ za0 (by omega) ho
    · obtain ⟨I, rfl⟩ := Int.eq_ofNat_of_zero_le (show 0 ≤ a1 by omega)
      obtain ⟨K, rfl⟩ := Int.eq_ofNat_of_zero_le (show 0 ≤ a2 by omega)
      exact walk_in _ _ _ _ za0 (by omega) (by omega) (by omega)

theorem own : ownKnob Try.prog.godebug = none := by kernel_rfl
theorem laidOut : laidOutB Try.prog = true := by kernel_rfl

set_option maxRecDepth 100000 in
theorem lifted (os : Os) (started : os.Started) (H : Type) (enc : TypeId × Value → H) :
    ReturnsInHanded {} Try.checked os 13 .any (Rows.csumOrderSpec.pre6 enc Try.prog Try.f13 Rows.csumOrderRow.domain false) (Rows.csumOrderSpec.post enc Try.prog Try.f13 false true false false) := by
  refine returnsInHanded_of_change_sized (C := Try.checked) own started (by kernel_rfl) Try.func13
    (ChangeSpec.witness6 (enc := enc) (C := Try.checked) false ⟨#[], #[.string ByteArray.empty, .int .i64 0, .int .i64 0], []⟩ 8 (by kernel_rfl) (by kernel_rfl) (by kernel_rfl) (by kernel_rfl)) ?_
  intro W base args ds gs before hval0 hW hcnd hsz0 hholds
  have hval : ∀ (j : Nat) t v, Try.f13.params[j]? = some t → args[j]? = some v → Value.okWide Try.prog W .any base t v := hval0
  have hsz : (DataW.weightsEach Try.prog (Try.f13.params.toList ++ Rows.csumOrderSpec.plain.varTypes Try.prog) (ds ++ gs)).all (· ≤ reachBytes) = true := hsz0
  have hW' := hW
  obtain ⟨p, q, hA0, hV, rfl, hfz, hnd⟩ := hW
  have hA : DataW.TrodAll enc Try.prog W 0 (fun _ => true) true Try.f13.params.toList args.toList ds p := hA0
  rw [Try.params13] at hA hval hsz
  obtain ⟨v0, vs0, d0, ds0, p0, q0, hargs, rfl, rfl, h0, r0⟩ := trodAll_cons hA
  obtain ⟨v1, vs1, d1, ds1, p1, q1, rfl, rfl, rfl, h1, r1⟩ := trodAll_cons r0
  obtain ⟨v2, vs2, d2, ds2, p2, q2, rfl, rfl, rfl, h2, r2⟩ := trodAll_cons r1
  obtain ⟨rfl, rfl, rfl⟩ := trodAll_nil r2
  obtain rfl : args = #[v0, v1, v2] := by cases args; simp_all
  obtain ⟨rfl, rfl⟩ := trodVars_none hV
  have k0 := h0
  have lt0 : ∀ x ∈ p0, x.block < W.heap.size := by obtain ⟨m, hm⟩ := k0; exact DataW.trod_lt m _ _ _ hm
  have k1 := h1
  have lt1 : ∀ x ∈ p1, x.block < W.heap.size := by obtain ⟨m, hm⟩ := k1; exact DataW.trod_lt m _ _ _ hm
  have k2 := h2
  have lt2 : ∀ x ∈ p2, x.block < W.heap.size := by obtain ⟨m, hm⟩ := k2; exact DataW.trod_lt m _ _ _ hm
  obtain ⟨a0, rfl, rfl, rfl, w0⟩ := open_string Try.underlying9 (hval 0 9 v0 rfl rfl) h0
  obtain ⟨a1, rfl, rfl, rfl, w1⟩ := open_int Try.underlying3 (hval 1 3 v1 rfl rfl) h1
  obtain ⟨a2, rfl, rfl, rfl, w2⟩ := open_int Try.underlying3 (hval 2 3 v2 rfl rfl) h2
  have za0 : a0.size ≤ 140737488351232 := by
    have h := sized_string hsz (j := 0) (t := 9) rfl rfl
    simpa [reachBytes] using h
  have ba1 := bounds_i64 w1
  have ba2 := bounds_i64 w2
  clear hA0 hval0
  refine (walk a0 a1 a2 W za0 ba1.1 ba1.2 ba2.1 ba2.2).mono fun e W' ⟨he, bel⟩ => ?_
  subst he
  exact ⟨_, rfl, _, _, _, [], _, [], hW', trodAll_mk1 (shut_bool Try.underlying4 _), (trodAll_cons_mk (Below.trod laidOut (by kernel_rfl) (of_decide_eq_true (by kernel_rfl)) k0 bel lt0) (trodAll_cons_mk (Below.trod laidOut (by kernel_rfl) (of_decide_eq_true (by kernel_rfl)) k1 bel lt1) (trodAll_cons_mk (Below.trod laidOut (by kernel_rfl) (of_decide_eq_true (by kernel_rfl)) k2 bel lt2) trodAll_mk0))), rfl, bel.frame _, fun h => by cases h⟩

theorem over : Rows.csumOrderRow.holds Try.pinned (OpenSpec.ofChange Rows.csumOrderSpec) :=
  OpenClaim.holds_of_wide 13 Try.f13 rfl rfl rfl rfl rfl rfl rfl ⟨rfl, rfl, rfl, rfl, rfl⟩ rfl rfl rfl rfl rfl (by kernel_rfl) Try.func13 (by kernel_rfl)
    (of_decide_eq_true (by kernel_rfl)) (by unfold Func.isWrapper; first | (rw [if_pos (by decide +kernel)]; kernel_rfl) | (rw [if_neg (by decide +kernel)]; exact ⟨rfl, rfl⟩))
    (fun os started H enc _ => lifted os started H enc)

/-- The statement. -/
theorem proved : Rows.CsumOrderSaid := over
#print axioms proved
end Go.Proofs.Ytaogjejokdciaaa.csumOrderLaw
