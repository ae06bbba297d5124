/-
  'siphonlaw21.ProxyAdmits' returns true, whatever the input, and each argument reads behind the call as it read before. Conditions: none beyond those that the row itself states.
-/
import Derived.Test.YthpafojeadbjlaaRows
import Derived.Test.YthpafojeadbjlaaPxT
import Derived.Test.YthpafojeadbjlaaPxC
import Derived.Test.YthpafojeadbjlaaFlF
import Derived.Test.YthpafojeadbjlaaRowStR
import Derived.WalkKit
import Derived.ProofKit
import Derived.OpenShut
import Derived.ShutString
import Derived.ChangeOld
import Derived.Below
import Derived.Carry
import Derived.SizedLaws
import Derived.Lib.SmallJoins
import Derived.ChangeArms
import Derived.WideShapes
namespace Go.Proofs.Ythpafojeadbjlaa.proxyAdmitsLaw
open Go.ChangeShapes Go.WideShapes Go.ChangeAt Go.RowKit Go.Joins
open Go.ChangeMaps (open_string shut_string)
set_option linter.unusedVariables false

def anyR (L : List StR) (now : Int) (a : ByteArray) : Bool := L.any fun r => admS (stO r) a now
theorem anyR_merge (L : List StR) (now : Int) (a : ByteArray) : admB (mergeF (filsR L now)) a = anyR L now a := by
  rw [merge_adm]
  unfold filsR anyR
  rw [List.any_map]
  congr 1
  funext r
  exact fil_adm (stO r) now a
theorem anyR_take {L : List StR} {k : Nat} {x : StR} (h : L[k]? = some x) (now : Int) (a : ByteArray) : anyR (L.take (k + 1)) now a = (anyR (L.take k) now a || admS (stO x) a now) := by
  unfold anyR
  rw [List.take_add_one, h, List.any_append]
  simp

set_option maxHeartbeats 8000000 in
set_option maxRecDepth 100000 in
theorem walk (a0 : Value) (la0 : List StR) (a1 : Int) (a2 : ByteArray) (w : World) (ha0 : RowsAt 3 cellsStR w a0 la0) (qa0 : la0.length ≤ maxLen ∧ ∀ p n c, a0 = .slice p n c → n ≤ c) (sa0 : ∀ r ∈ la0, GoodStR w r) (la1 : -9223372036854775808 ≤ a1) (ua1 : a1 ≤ 9223372036854775807) (za2 : a2.size ≤ 140737488351232) :
    Calls Try.prog 4 #[a0, .int .i64 a1, .string a2] w fun e w' => e = .returned (.bool true) ∧ Below w.heap.size w w' := by
  have HW0 : StsW w a0 la0 := ⟨ha0, qa0.2, fun r hr => (sa0 r hr).2.2.1⟩
  have HL := Lib.hid fun U => live21_c U
  have K0 := Lib.hid (Below.refl w.heap.size w)
  obtain ⟨p0, c0, rfl⟩ := ha0.slice
  obtain ⟨n, hn⟩ : ∃ n, n = la0.length := ⟨_, rfl⟩
  rw [← hn] at HW0 ⊢
  have HF := Lib.hid (few21_c p0 n c0 la0 w HW0)
  rcases hfw : fewL la0 with _ | _
  · rw [hfw] at HF
    clear ha0 qa0 sa0 HW0 hn hfw la1 ua1 za2
    go_enter Try.func4, Try.ntmps4
    go_wp2_with fail
    ((with_reducible refine HF.out.mono ?_); rintro e w1 ⟨rfl, h1⟩)
    have K1 := Lib.hid h1
    clear h1 HF
    go_wp2_with fail
    ((with_reducible refine (HL.out _).mono ?_); rintro e w2 ⟨rfl, h2⟩)
    have K2 := Lib.hid (px_call K1.out h2)
    clear h2
    go_wp2_with fail
    go_ret
    exact ⟨rfl, K2.out⟩
  · rw [hfw] at HF
    obtain ⟨l10, l60⟩ := (fewL_iff la0).1 hfw
    have HS := Lib.hid (HW0.sts l60)
    have HN := Lib.hid hn
    have N10 : n ≤ 10 := by omega
    have L60 := Lib.hid l60
    clear ha0 qa0 sa0 HW0 hn hfw l10 l60
    have M1 := Lib.hid (fun U (k : Below w.heap.size w U) => (pmerge_c 10 la0 p0 n c0 a1 U (by have := HN.out; omega) (by have := HN.out; omega) (HS.out.below k)).mono fun e w' h => h.toAt)
    have ML := Lib.hid (show (mergeF (filsR la0 a1)).src.length ≤ 600 by have := mergeR_len la0 a1; have := HN.out; omega)
    have MA := Lib.hid (anyR_merge la0 a1 a2)
    generalize mergeF (filsR la0 a1) = M at M1 ML MA
    obtain ⟨me, ml⟩ := M
    unfold FAt at M1
    simp only at M1 ML
    have AM := Lib.hid (fun (U : World) v h => admits_c me v ml a2 U (by have := ML.out; omega) h)
    clear za2 la1 ua1
    go_enter Try.func4, Try.ntmps4
    go_wp2_with fail
    ((with_reducible refine HF.out.mono ?_); rintro e w1 ⟨rfl, h1⟩)
    have K1 := Lib.hid h1
    clear h1 HF K0
    go_wp2_with fail
    go_loopw [7, 8, 9] (fun av i _ wr => ∃ (k : Nat) (ab : Bool), k ≤ n ∧ i = .int .i64 k ∧ av = .bool ab ∧ Hid (ab = anyR (la0.take k) a1 a2) ∧ Hid (Below w.heap.size w wr)) (fun _ i _ _ => n - (intOf i).toNat)
    case atStart => exact ⟨0, false, Nat.zero_le _, rfl, rfl, Lib.hid rfl, K1⟩
    case round =>
      obtain ⟨k, ab, hk, rfl, rfl, hA, hB⟩ := hrel
      by_cases hlt : k < n
      · obtain ⟨x, hx⟩ : ∃ x, la0[k]? = some x := ⟨_, List.getElem?_eq_getElem (by rw [← HN.out]; exact hlt)⟩
        obtain ⟨b, off, rfl⟩ := HS.out.place (by omega)
        have HR := Lib.hid (fun U (k : Below w.heap.size w U) => (HS.out.below k).row hx)
        obtain ⟨sp, sc, hsv⟩ := ((HS.out.row hx).2.2.2.1).slice
        rw [hsv] at HR
        have d1 : decide (k < n) = true := decide_eq_true hlt
        have d2 : decide ((k : Int) < (n : Int)) = true := decide_eq_true (by omega)
        have d4 : decide (0 ≤ (k : Int)) = true := decide_eq_true (by omega)
        have HT := Lib.hid (anyR_take hx a1 a2)
        have GC0 := fun (U : World) (k : Below w.heap.size w U) => gadm_c x.ex x.tm _ x.src a2 a1 U (HR.out U k).2.2.2.2 (HR.out U k).2.2.2.1
        have FC0 := fun (U : World) (k : Below w.heap.size w U) => (pfil_c x.ex x.tm _ x.src a1 U (HR.out U k).2.2.2.2 (HR.out U k).2.2.2.1).mono fun e w' h => h.toAt
        have FL0 := fil_len ⟨x.ex, x.tm, x.src⟩ a1
        have FA0 := fil_adm ⟨x.ex, x.tm, x.src⟩ a1 a2
        generalize filP ⟨x.ex, x.tm, x.src⟩ a1 = F at FC0 FL0 FA0
        have HT2 : anyR (la0.take (k + 1)) a1 a2 = (anyR (la0.take k) a1 a2 || admS ⟨x.ex, x.tm, x.src⟩ a2 a1) := HT.out
        generalize admS ⟨x.ex, x.tm, x.src⟩ a2 a1 = ad at GC0 FA0 HT2
        rw [← hA.out] at HT2
        obtain ⟨fe, fl⟩ := F
        unfold FAt at FC0
        simp only at FC0 FL0
        have AC0 := (fun (U : World) v h => admits_c fe v fl a2 U (by omega) h)
        rw [FA0] at AC0
        have AC := Lib.hid AC0
        have FC := Lib.hid FC0
        have GC := Lib.hid GC0
        have KF0 := (fun (U : World) (k : Below w.heap.size w U) => ⟨(HR.out U k).1, (HR.out U k).2.1, (HR.out U k).2.2.1⟩ : ∀ (U : World), Below w.heap.size w U → U.cell? ⟨b, off + k * 3, none⟩ = some (.bool x.ex) ∧ U.cell? ⟨b, off + k * 3 + 1, none⟩ = some (.int .i64 x.tm) ∧ U.cell? ⟨b, off + k * 3 + 2, none⟩ = some (.slice sp x.src.length sc))
        clear HT
        have HT := Lib.hid HT2
        clear HT2 HR FC0 GC0 FL0 FA0 AC0 hsv hx
        generalize x.ex = xe at FC GC KF0
        generalize x.tm = xt at FC GC KF0
        generalize x.src.length = xn at FC GC KF0
        have KF := Lib.hid KF0
        clear KF0
        have x0 := (KF.out _ hB.out).1
        have x1 := (KF.out _ hB.out).2.1
        have x2 := (KF.out _ hB.out).2.2
        go_wp2_with fail
        ((with_reducible refine (GC.out _ hB.out).mono ?_); rintro e w3 ⟨rfl, k3⟩)
        have K3 := Lib.hid (px_call hB.out k3)
        clear x0 x1 x2 k3 hB
        have x0 := (KF.out _ K3.out).1
        have x1 := (KF.out _ K3.out).2.1
        have x2 := (KF.out _ K3.out).2.2
        go_wp2_with fail
        ((with_reducible refine (FC.out _ K3.out).mono ?_); rintro e w4 ⟨v4, rfl, a4, k4⟩)
        have K4 := Lib.hid (px_call K3.out k4)
        have A4 := Lib.hid a4
        obtain ⟨q4, c4, rfl⟩ := a4.slice
        clear x0 x1 x2 a4 k4 K3
        go_wp2_with fail
        ((with_reducible refine (AC.out _ _ A4.out).mono ?_); rintro e w5 ⟨rfl, k5⟩)
        have K5 := Lib.hid (px_call K4.out k5)
        clear k5 A4 K4 AM M1
        cases ab <;> cases ad
        all_goals
          go_wp2_with fail
          go_roundw
          case rel => exact ⟨k + 1, _, by omega, by go_num, rfl, Lib.hid HT.out.symm, K5⟩
          case measure => simp [intOf]; omega
      · obtain rfl : k = n := by omega
        have d1 : decide (k < k) = false := by simp
        have d2 : decide ((k : Int) < (k : Int)) = false := by simp
        have hAA : ab = anyR la0 a1 a2 := by have h9 := hA.out; rw [List.take_of_length_le (by rw [← HN.out]; exact Nat.le_refl _)] at h9; exact h9
        rw [← hAA] at MA
        clear hlt hA hAA
        have AM2 := AM.out
        rw [MA.out] at AM2
        clear AM
        have AM := Lib.hid AM2
        clear AM2
        go_wp2_with fail
        ((with_reducible refine (M1.out _ hB.out).mono ?_); rintro e w3 ⟨v3, rfl, a3, k3⟩)
        have K3 := Lib.hid (px_call hB.out k3)
        have A3 := Lib.hid a3
        obtain ⟨q3, c3, rfl⟩ := a3.slice
        clear a3 k3 hB
        go_wp2_with fail
        ((with_reducible refine (AM.out _ _ A3.out).mono ?_); rintro e w4 ⟨rfl, k4⟩)
        have K4 := Lib.hid (px_call K3.out k4)
        clear k4 K3
        cases ab
        all_goals
          go_wp2_with fail
          ((with_reducible refine (HL.out _).mono ?_); rintro e w6 ⟨rfl, k6⟩)
          have K6 := Lib.hid (px_call K4.out k6)
          clear k6
          go_wp2_with fail
          go_ret
          exact ⟨rfl, K6.out⟩

theorem own : ownKnob Try.prog.godebug = none := by kernel_rfl
theorem laidOut : laidOutB Try.prog = true := by kernel_rfl

set_option maxHeartbeats 1000000 in
set_option maxRecDepth 100000 in
theorem lifted (os : Os) (started : os.Started) (H : Type) (enc : TypeId × Value → H) :
    ReturnsInHanded {} Try.checked os 4 .any (Rows.proxyAdmitsSpec.pre6 enc Try.prog Try.f4 Rows.proxyAdmitsRow.domain false) (Rows.proxyAdmitsSpec.post enc Try.prog Try.f4 false true false false) := by
  refine returnsInHanded_of_change_sized (C := Try.checked) own started (by kernel_rfl) Try.func4
    (ChangeSpec.witness6 (enc := enc) (C := Try.checked) false ⟨#[], #[.slice none 0 0, .int .i64 0, .string ByteArray.empty], []⟩ 8 (by kernel_rfl) (by kernel_rfl) (by kernel_rfl) (by kernel_rfl)) ?_
  intro W base args ds gs before hval0 hW hcnd hsz0 hholds
  have hval : ∀ (j : Nat) t v, Try.f4.params[j]? = some t → args[j]? = some v → Value.okWide Try.prog W .any base t v := hval0
  have hsz : (DataW.weightsEach Try.prog (Try.f4.params.toList ++ Rows.proxyAdmitsSpec.plain.varTypes Try.prog) (ds ++ gs)).all (· ≤ reachBytes) = true := hsz0
  have hW' := hW
  obtain ⟨p, q, hA0, hV, rfl, hfz, hnd⟩ := hW
  have hA : DataW.TrodAll enc Try.prog W 0 (fun _ => true) true Try.f4.params.toList args.toList ds p := hA0
  rw [Try.params4] at hA hval hsz
  obtain ⟨v0, vs0, d0, ds0, p0, q0, hargs, rfl, rfl, h0, r0⟩ := trodAll_cons hA
  obtain ⟨v1, vs1, d1, ds1, p1, q1, rfl, rfl, rfl, h1, r1⟩ := trodAll_cons r0
  obtain ⟨v2, vs2, d2, ds2, p2, q2, rfl, rfl, rfl, h2, r2⟩ := trodAll_cons r1
  obtain ⟨rfl, rfl, rfl⟩ := trodAll_nil r2
  obtain rfl : args = #[v0, v1, v2] := by cases args; simp_all
  obtain ⟨rfl, rfl⟩ := trodVars_none hV
  have k0 := h0
  have lt0 : ∀ x ∈ p0, x.block < W.heap.size := by obtain ⟨m, hm⟩ := k0; exact DataW.trod_lt m _ _ _ hm
  have k1 := h1
  have lt1 : ∀ x ∈ p1, x.block < W.heap.size := by obtain ⟨m, hm⟩ := k1; exact DataW.trod_lt m _ _ _ hm
  have k2 := h2
  have lt2 : ∀ x ∈ p2, x.block < W.heap.size := by obtain ⟨m, hm⟩ := k2; exact DataW.trod_lt m _ _ _ hm
  obtain ⟨sa0, sl0, sc0, rfl⟩ := okWide_slice Try.underlying22 (hval 0 22 v0 rfl rfl)
  obtain ⟨fu0, hf0⟩ := h0
  obtain ⟨vv0, L0, e0, hh0, qq0, ss0⟩ := openStR hf0 (Wt.top hsz (j := 0) (t := 22) rfl rfl)
  simp [Value.cells] at e0
  subst e0
  obtain ⟨a1, rfl, rfl, rfl, w1⟩ := open_int Try.underlying3 (hval 1 3 v1 rfl rfl) h1
  obtain ⟨a2, rfl, rfl, rfl, w2⟩ := open_string Try.underlying35 (hval 2 35 v2 rfl rfl) h2
  have ba1 := bounds_i64 w1
  have za2 : a2.size ≤ 140737488351232 := by
    have h := sized_string hsz (j := 2) (t := 35) rfl rfl
    simpa [reachBytes] using h
  clear hA0 hval0
  refine (walk (.slice sa0 sl0 sc0) L0 a1 a2 W hh0 qq0 ss0 ba1.1 ba1.2 za2).mono fun e W' ⟨he, bel⟩ => ?_
  subst he
  exact ⟨_, rfl, _, _, _, [], _, [], hW', trodAll_mk1 (shut_bool Try.underlying4 _), (trodAll_cons_mk (Below.trod laidOut (by kernel_rfl) (of_decide_eq_true (by kernel_rfl)) k0 bel lt0) (trodAll_cons_mk (Below.trod laidOut (by kernel_rfl) (of_decide_eq_true (by kernel_rfl)) k1 bel lt1) (trodAll_cons_mk (Below.trod laidOut (by kernel_rfl) (of_decide_eq_true (by kernel_rfl)) k2 bel lt2) trodAll_mk0))), rfl, bel.frame _, fun h => by cases h⟩

theorem over : Rows.proxyAdmitsRow.holds Try.pinned (OpenSpec.ofChange Rows.proxyAdmitsSpec) :=
  OpenClaim.holds_of_wide 4 Try.f4 rfl rfl rfl rfl rfl rfl rfl ⟨rfl, rfl, rfl, rfl, rfl⟩ rfl rfl rfl rfl rfl (by kernel_rfl) Try.func4 (by kernel_rfl)
    (of_decide_eq_true (by kernel_rfl)) (by unfold Func.isWrapper; first | (rw [if_pos (by decide +kernel)]; kernel_rfl) | (rw [if_neg (by decide +kernel)]; exact ⟨rfl, rfl⟩))
    (fun os started H enc _ => lifted os started H enc)

/-- The statement. -/
theorem proved : Rows.ProxyAdmitsSaid := over
#print axioms proved
end Go.Proofs.Ythpafojeadbjlaa.proxyAdmitsLaw
