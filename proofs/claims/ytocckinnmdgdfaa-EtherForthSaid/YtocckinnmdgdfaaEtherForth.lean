/-
  'siphonlaw03.EtherForth' returns true, whatever the input, and each argument reads behind the call as it read before. Conditions: none beyond those that the row itself states.
-/
import Derived.Test.YtocckinnmdgdfaaRows
import Derived.Test.YtocckinnmdgdfaaLive3
import Derived.Test.YtocckinnmdgdfaaEthMath
import Derived.WalkKit
import Derived.ProofKit
import Derived.OpenShut
import Derived.ShutString
import Derived.ChangeOld
import Derived.Below
import Derived.Carry
import Derived.SizedLaws
import Derived.Lib.SmallJoins
import Derived.ChangeArms
import Derived.WideShapes
namespace Go.Proofs.Ytocckinnmdgdfaa.etherForthLaw
open Go.ChangeShapes Go.WideShapes Go.ChangeAt Go.RowKit Go.Joins
open Go.ChangeMaps (open_string shut_string)
set_option linter.unusedVariables false

theorem dec_ways (s : ByteArray) : decF s = (.zero, 2) ∨ decF s = (.zero, 3) ∨ (decF s = (readF s, 0) ∧ ¬ (s.size : Int) < (if num2 s 12 = 33024 then 18 else 14)) := by
  unfold decF
  by_cases c1 : (s.size : Int) < (if num2 s 12 = 33024 then 18 else 14)
  · rw [if_pos c1]; exact .inl rfl
  · rw [if_neg c1]
    by_cases c2 : num2 s 12 = 33024 ∧ num2 s 14 / 4096 % 2 = 1
    · rw [if_pos c2]; exact .inr (.inl rfl)
    · rw [if_neg c2]
      by_cases c3 : okF (readF s).d (readF s).s (readF s).t (readF s).v (readF s).p (readF s).y (readF s).x = true
      · rw [if_pos c3]; exact .inr (.inr ⟨rfl, c1⟩)
      · rw [if_neg c3]; exact .inr (.inl rfl)
theorem dec_zero (s : ByteArray) (h : (decF s).2 ≠ 0) : (decF s).1 = Frm.zero := by
  rcases dec_ways s with e | e | ⟨e, _⟩
  · rw [e]
  · rw [e]
  · rw [e] at h; exact absurd rfl h

set_option maxHeartbeats 1000000 in
set_option maxRecDepth 100000 in
theorem walk_no (n : Int) (w : World) (s : ByteArray) (hn : n ≠ 0)
    (H1 : Hid (∀ U, Calls Try.prog 17 #[.string s] U fun e w' => e = .returned (.tuple #[.agg #[.string ⟨#[]⟩, .string ⟨#[]⟩, .bool false, .int .i64 0, .int .i64 0, .int .i64 0, .string ⟨#[]⟩], .int .i64 n]) ∧ Below U.heap.size U w')) :
    Calls Try.prog 7 #[.string s] w fun e w' => e = .returned (.bool true) ∧ Below w.heap.size w w' := by
  obtain ⟨t1, t2⟩ := ne_t hn
  clear hn
  go_enter Try.func7, Try.ntmps7
  go_wp2_with fail
  refine (H1.out _).mono ?_
  rintro e w1 ⟨rfl, h1⟩
  go_wp2_with fail
  refine (live3_c _).mono ?_
  rintro e w3 ⟨rfl, h3⟩
  go_wp2_with fail
  go_ret
  exact ⟨rfl, below_then h1 (below_box h3)⟩

set_option maxHeartbeats 1000000 in
set_option maxRecDepth 100000 in
theorem walk_yes (f : Frm) (w : World) (s : ByteArray)
    (H1 : Hid (∀ U, Calls Try.prog 17 #[.string s] U fun e w' => e = .returned (.tuple #[f.val, .int .i64 0]) ∧ Below U.heap.size U w'))
    (H2 : Hid (∀ U, Calls Try.prog 20 #[f.val] U fun e w' => e = .returned (.tuple #[.string s, .int .i64 0]) ∧ Below U.heap.size U w')) :
    Calls Try.prog 7 #[.string s] w fun e w' => e = .returned (.bool true) ∧ Below w.heap.size w w' := by
  obtain ⟨a, b, t, v, p, y, x⟩ := f
  have H1' : Hid (∀ U, Calls Try.prog 17 #[.string s] U fun e w' => e = .returned (.tuple #[.agg #[.string a, .string b, .bool t, .int .i64 v, .int .i64 p, .int .i64 y, .string x], .int .i64 0]) ∧ Below U.heap.size U w') := H1
  have H2' : Hid (∀ U, Calls Try.prog 20 #[.agg #[.string a, .string b, .bool t, .int .i64 v, .int .i64 p, .int .i64 y, .string x]] U fun e w' => e = .returned (.tuple #[.string s, .int .i64 0]) ∧ Below U.heap.size U w') := H2
  clear H1 H2
  go_enter Try.func7, Try.ntmps7
  go_wp2_with fail
  refine (H1'.out _).mono ?_
  rintro e w1 ⟨rfl, h1⟩
  go_wp2_with fail
  refine (H2'.out _).mono ?_
  rintro e w2 ⟨rfl, h2⟩
  go_wp2_with fail
  refine (live3_c _).mono ?_
  rintro e w3 ⟨rfl, h3⟩
  go_wp2_with fail
  go_ret
  exact ⟨rfl, below_then (below_then h1 (below_box h2)) h3⟩

theorem dec_data (s : ByteArray) (h : s.size ≤ 140737488351232) : (decF s).1.x.size ≤ 140737488351232 := by
  have z : (Frm.zero).x.size = 0 := rfl
  rcases dec_ways s with e | e | ⟨e, c1⟩
  · rw [e]; show (Frm.zero).x.size ≤ _; omega
  · rw [e]; show (Frm.zero).x.size ≤ _; omega
  · rw [e]
    show (readF s).x.size ≤ _
    unfold readF
    by_cases hm : num2 s 12 = 33024
    · rw [if_pos hm] at c1 ⊢
      have := sub_size s 18 ((s.size : Int) - 18) (by omega) (by omega) (by omega)
      show (sub s 18 ((s.size : Int) - 18)).size ≤ _
      omega
    · rw [if_neg hm] at c1 ⊢
      have := sub_size s 14 ((s.size : Int) - 14) (by omega) (by omega) (by omega)
      show (sub s 14 ((s.size : Int) - 14)).size ≤ _
      omega

theorem walk (a0 : ByteArray) (w : World) (za0 : a0.size ≤ 140737488351232) :
    Calls Try.prog 7 #[.string a0] w fun e w' => e = .returned (.bool true) ∧ Below w.heap.size w w' := by
  have H1 := Lib.hid fun U => edec_c a0 U za0
  by_cases h : (decF a0).2 = 0
  · rw [h] at H1
    obtain ⟨hok, he⟩ := forth_all a0 h
    have H2 := Lib.hid fun U => eenc_c (decF a0).1.d (decF a0).1.s (decF a0).1.t (decF a0).1.v (decF a0).1.p (decF a0).1.y (decF a0).1.x U (dec_data a0 za0)
    have hv : encF (decF a0).1.d (decF a0).1.s (decF a0).1.t (decF a0).1.v (decF a0).1.p (decF a0).1.y (decF a0).1.x = (a0, 0) := by
      have : encF (decF a0).1.d (decF a0).1.s (decF a0).1.t (decF a0).1.v (decF a0).1.p (decF a0).1.y (decF a0).1.x = (⟨(encL (decF a0).1.d (decF a0).1.s (decF a0).1.t (decF a0).1.v (decF a0).1.p (decF a0).1.y (decF a0).1.x).toArray⟩, 0) := if_pos hok
      rw [this, he, ba_of]
    rw [hv] at H2
    exact walk_yes (decF a0).1 w a0 H1 H2
  · rw [dec_zero a0 h] at H1
    exact walk_no (decF a0).2 w a0 h H1

theorem own : ownKnob Try.prog.godebug = none := by kernel_rfl
theorem laidOut : laidOutB Try.prog = true := by kernel_rfl

set_option maxRecDepth 100000 in
theorem lifted (os : Os) (started : os.Started) (H : Type) (enc : TypeId × Value → H) :
    ReturnsInHanded {} Try.checked os 7 .any (Rows.etherForthSpec.pre6 enc Try.prog Try.f7 Rows.etherForthRow.domain false) (Rows.etherForthSpec.post enc Try.prog Try.f7 false true false false) := by
  refine returnsInHanded_of_change_sized (C := Try.checked) own started (by kernel_rfl) Try.func7
    (ChangeSpec.witness6 (enc := enc) (C := Try.checked) false ⟨#[], #[.string ByteArray.empty], []⟩ 8 (by kernel_rfl) (by kernel_rfl) (by kernel_rfl) (by kernel_rfl)) ?_
  intro W base args ds gs before hval0 hW hcnd hsz0 hholds
  have hval : ∀ (j : Nat) t v, Try.f7.params[j]? = some t → args[j]? = some v → Value.okWide Try.prog W .any base t v := hval0
  have hsz : (DataW.weightsEach Try.prog (Try.f7.params.toList ++ Rows.etherForthSpec.plain.varTypes Try.prog) (ds ++ gs)).all (· ≤ reachBytes) = true := hsz0
  have hW' := hW
  obtain ⟨p, q, hA0, hV, rfl, hfz, hnd⟩ := hW
  have hA : DataW.TrodAll enc Try.prog W 0 (fun _ => true) true Try.f7.params.toList args.toList ds p := hA0
  rw [Try.params7] at hA hval hsz
  obtain ⟨v0, vs0, d0, ds0, p0, q0, hargs, rfl, rfl, h0, r0⟩ := trodAll_cons hA
  obtain ⟨rfl, rfl, rfl⟩ := trodAll_nil r0
  obtain rfl : args = #[v0] := by cases args; simp_all
  obtain ⟨rfl, rfl⟩ := trodVars_none hV
  have k0 := h0
  have lt0 : ∀ x ∈ p0, x.block < W.heap.size := by obtain ⟨m, hm⟩ := k0; exact DataW.trod_lt m _ _ _ hm
  obtain ⟨a0, rfl, rfl, rfl, w0⟩ := open_string Try.underlying9 (hval 0 9 v0 rfl rfl) h0
  have za0 : a0.size ≤ 140737488351232 := by
    have h := sized_string hsz (j := 0) (t := 9) rfl rfl
    simpa [reachBytes] using h
  clear hA0 hval0
  refine (walk a0 W za0).mono fun e W' ⟨he, bel⟩ => ?_
  subst he
  exact ⟨_, rfl, _, _, _, [], _, [], hW', trodAll_mk1 (shut_bool Try.underlying4 _), (trodAll_cons_mk (Below.trod laidOut (by kernel_rfl) (of_decide_eq_true (by kernel_rfl)) k0 bel lt0) trodAll_mk0), rfl, bel.frame _, fun h => by cases h⟩

theorem over : Rows.etherForthRow.holds Try.pinned (OpenSpec.ofChange Rows.etherForthSpec) :=
  OpenClaim.holds_of_wide 7 Try.f7 rfl rfl rfl rfl rfl rfl rfl ⟨rfl, rfl, rfl, rfl, rfl⟩ rfl rfl rfl rfl rfl (by kernel_rfl) Try.func7 (by kernel_rfl)
    (of_decide_eq_true (by kernel_rfl)) (by unfold Func.isWrapper; first | (rw [if_pos (by decide +kernel)]; kernel_rfl) | (rw [if_neg (by decide +kernel)]; exact ⟨rfl, rfl⟩))
    (fun os started H enc _ => lifted os started H enc)

/-- The statement. -/
theorem proved : Rows.EtherForthSaid := over
#print axioms proved
end Go.Proofs.Ytocckinnmdgdfaa.etherForthLaw
