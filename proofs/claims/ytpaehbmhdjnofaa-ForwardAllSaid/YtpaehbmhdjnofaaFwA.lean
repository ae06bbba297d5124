/-
  'forward.set', its conditions, 'only'. Contracts over the translated program.
-/
import Derived.Test.YtpaehbmhdjnofaaFwS
import Derived.Test.YtpaehbmhdjnofaaMemI
import Derived.Test.YtpaehbmhdjnofaaTrodJ
import Derived.Test.YtpaehbmhdjnofaaRows
import Derived.Test.YtpaehbmhdjnofaaKit
import Derived.Test.YtpaehbmhdjnofaaTst
import Derived.Defers
import Derived.RegionTactic
import Derived.StringKeys
import Derived.Deep.Cut
import Derived.Deep.QuietTactic
import Derived.BigQuiet
import Derived.StillTailTactics
import Derived.LoopTactic
import Derived.OwnWalk
import Derived.OwnWalkIn
import Derived.Laws.AppendOwn
namespace Go.Proofs.Ytpaehbmhdjnofaa
open Go Go.Maps Go.WideMaps
open Go.RowKit
set_option linter.unusedVariables false
set_option linter.unusedSimpArgs false

theorem und_FI : Try.prog.underlying 3 = some (.int .i64) := by kernel_rfl
theorem und_FB : Try.prog.underlying 36 = some (.map 3 4) := by kernel_rfl
theorem law_FI : Keyed Try.prog 3 := int_keyed und_FI
theorem zero_FB (w : World) : (zeroValue 4).run Try.prog w = .ok (MB.tmV false) w := by kernel_rfl
theorem keyF (s : Int) (h1 : -9223372036854775808 ≤ s) (h2 : s ≤ 9223372036854775807) : keyOf Try.prog 3 (.int .i64 s) = some (ki s) :=
  keyOf_int_mk und_FI (by simp [Lit.wf, IntKind.min, IntKind.max, IntKind.bits, IntKind.signed]; omega)
theorem invF (key : Value) (kl : Lit) (h : keyOf Try.prog 3 key = some kl) : ∃ s, key = (Value.int .i64) s := by
  obtain ⟨s, h1, _, _⟩ := Maps.keyOf_int_inv und_FI h
  exact ⟨s, h1⟩
theorem litF {x : Int} {kl : Lit} (h : keyOf Try.prog 3 (.int .i64 x) = some kl) : kl = ki x := by
  obtain ⟨s, h1, h2, _⟩ := Maps.keyOf_int_inv und_FI h
  cases h1
  exact h2
theorem info_FI : (Try.prog.info? 3).map (fun i => (i.zero, i.size, i.bytes)) = some (some (.int .i64 0), 1, 8) := by kernel_rfl
theorem int_fresh (w : World) (xs : List Value) (t : TypeId) : ∀ j u, xs[j]? = some u → (w.alloc (.cells xs.toArray t)).cell? ((⟨w.heap.size, 0, none⟩ : Addr).add j) = some u := by
  intro j u hj
  have e : (⟨w.heap.size, 0, none⟩ : Addr).add j = ⟨w.heap.size, j, none⟩ := by unfold Addr.add; split <;> simp_all
  rw [e]
  exact cell_of_block (heap_new w _) (by simpa using hj)
theorem one_i64 (x : Int) : ∀ u ∈ [Value.int .i64 x], u.oneCell' = true := by intro u hu; simp at hu; subst hu; rfl
theorem fown_far {w : World} {base e size n r : Nat} {v : Value} {xs : List Value} (h : w.ownsRow base e size v n xs) (hr : r < base) : v.ownBlock = none ∨ v.ownBlock ≠ some r := by
  rcases hv : v.ownBlock with _ | g
  · exact .inl rfl
  · refine .inr fun e => ?_
    have := (h.lt g hv).1
    cases e
    omega
theorem fnone_or (a : Option Nat) : a = none ∨ a ≠ none := by cases a <;> simp

section
variable {P : Program} {ops : Array Oper} {rest : List Oper} {o : Oper} {a : Act} {Q : Exit → Act → World → Prop}
open Go.ChangeMaps in
theorem wpList_next_tt {α : Type} (w : World) (hg : o.guard = none) (it : Operand) (hop : o.op = Op.next it false) (k : TypeId) (K : Keyed P k) (mkK : α → Value)
    (invK : ∀ key kl, keyOf P k key = some kl → ∃ x, key = mkK x) (b r : Nat) (L S : List MB.T3) (cnt : Nat) (hT : ∀ y ∈ S, y.2 = true)
    (hit : a.eval it = .pointer (some ⟨r, 0, none⟩)) (h : MB.Rg w P k b r L S cnt)
    (hDone : S = [] → wpList P ops Q rest (a.put o.dst (.tuple #[.bool false])) w)
    (hMore : ∀ (x : α) (kl : Lit) (S' : List MB.T3) (w' : World) (cnt' : Nat), keyOf P k (mkK x) = some kl → S.Perm ((kl, true) :: S') → MB.Rg w' P k b r L S' cnt' → cnt' < cnt →
      w.grownBy w' (some r) → w'.heap.size = w.heap.size → (Instr.entry (.pointer (some ⟨r, 0, none⟩))).run P w' = .ok (.tuple #[mkK x, .bool true]) w' → wpList P ops Q rest (a.put o.dst (.tuple #[.bool true, mkK x, .bool true])) w') :
    wpList P ops Q (o :: rest) a w := by
  refine MB.wpList_next_mp w hg it hop k K mkK invK b r L S cnt hit h hDone fun x p1 kl S' w' cnt' h1 h2 h3 h4 h5 h6 h7 => ?_
  obtain rfl : p1 = true := hT (kl, p1) (h2.mem_iff.2 (by simp))
  exact hMore x kl S' w' cnt' h1 h2 h3 h4 h5 h6 h7
end

set_option maxHeartbeats 4000000 in
set_option maxRecDepth 100000 in
theorem set_c (v : Value) (l : List Int) (w : World) (hl : l.length ≤ 1000000) (ha : IntsAt w v l) (hI : I64 l) :
    Calls Try.prog 19 #[v] w fun e w' => e = .returned (.map (some w.heap.size)) ∧ MB.Mp w' Try.prog 3 w.heap.size (setL l) ∧ Below w.heap.size w w' := by
  have HI := Lib.hid hI
  obtain ⟨p, cap, b, off, rfl, hp, hc⟩ := ha
  have HP := Lib.hid hp
  have HC := Lib.hid hc
  obtain ⟨n, hn⟩ : ∃ n, n = l.length := ⟨_, rfl⟩
  have HNN := Lib.hid hn
  rw [← hn] at hl ⊢
  have hmm := @run_makeMap Try.prog
  have HB0 := Lib.hid ((Below.refl w.heap.size w).alloc (Nat.le_refl _) (.map #[] 0))
  have HM0 := Lib.hid (MB.Mp.made w Try.prog 3)
  clear hp hc hn hI
  go_enter Try.func19, Try.ntmps19
  go_wp2_with fail
  go_loopw [5, 9] (fun _ i wr => ∃ k : Nat, k ≤ n ∧ i = .int .i64 k ∧ Hid (MB.Mp wr Try.prog 3 w.heap.size (setL (l.take k))) ∧ Hid (Below w.heap.size w wr)) (fun _ i _ => n - (intOf i).toNat)
  case atStart => exact ⟨0, Nat.zero_le _, rfl, HM0, HB0⟩
  case round =>
    clear HM0 HB0
    obtain ⟨k, hk, rfl, HM, KB⟩ := hrel
    by_cases hlt : k < n
    · obtain ⟨x, hx⟩ : ∃ x, l[k]? = some x := ⟨_, List.getElem?_eq_getElem (by rw [← HNN.out]; exact hlt)⟩
      have hne : l ≠ [] := by rintro rfl; simp at hx
      obtain rfl := HP.out hne
      have x0 : wr.cell? ⟨b, off + k, none⟩ = some (.int .i64 x) := icell_below KB.out (HC.out k x hx)
      obtain ⟨i1, i2⟩ := HI.out x (List.mem_of_getElem? hx)
      have hkey := Lib.hid (keyF x i1 i2)
      have HTK := Lib.hid (setL_take hx)
      have HLN := Lib.hid (show (setL (l.take k)).length < maxLen by have h1 := setL_len (l.take k); rw [List.length_take] at h1; unfold maxLen; omega)
      have d1 : decide (k < n) = true := decide_eq_true hlt
      have d2 : decide ((k : Int) < (n : Int)) = true := decide_eq_true (by omega)
      have d3 : decide (n ≤ k) = false := decide_eq_false (by omega)
      have d4 : decide (0 ≤ (k : Int)) = true := decide_eq_true (by omega)
      clear hx hne i1 i2
      go_wp2_with (first | (at_mapUpdate; refine MB.wpList_store_mp _ rfl _ _ _ 36 rfl 3 4 law_FI und_FB w.heap.size _ rfl HM.out HLN.out _ _ _ rfl rfl hkey.out ?_; intro w5 hm5 ht5) | go_in)
      have HM5 := Lib.hid (show MB.Mp w5 Try.prog 3 w.heap.size (setL (l.take (k + 1))) by rw [HTK.out]; exact hm5)
      have K5 := Lib.hid (KB.out.grown ht5.grown KB.out.size (fun j hj => by cases hj; exact Nat.le_refl _))
      clear hm5 ht5 x0 HM KB
      go_roundw
      case rel => exact ⟨k + 1, by omega, by go_num, HM5, K5⟩
      case measure => simp [intOf]; omega
    · obtain rfl : k = n := by omega
      rw [List.take_of_length_le (by rw [HNN.out]; exact Nat.le_refl _)] at HM
      clear hlt
      go_wp2_with fail
      go_ret
      exact ⟨rfl, HM.out, KB.out⟩

set_option maxHeartbeats 2000000 in
set_option maxRecDepth 100000 in
theorem flo1_c {w : World} {b0 b1 m : Nat} {T : List MB.T3} {x pt : Int} (c0 : w.cell? ⟨b0, 0, none⟩ = some (.map (some m))) (hm : MB.Mp w Try.prog 3 m T) (c1 : w.cell? ⟨b1, 0, none⟩ = some (.int .i64 pt)) (h1 : -9223372036854775808 ≤ x) (h2 : x ≤ 9223372036854775807) :
    Calls Try.prog 21 #[.int .i64 x, .pointer (some ⟨b0, 0, none⟩), .pointer (some ⟨b1, 0, none⟩)] w fun e w' => e = .returned (.bool (MB.getT T (ki x) && decide (x ≠ pt))) ∧ w' = w := by
  have HM := Lib.hid hm
  have hkey := Lib.hid (keyF x h1 h2)
  clear hm h1 h2
  generalize hg : MB.getT T (ki x) = g
  have HG := Lib.hid hg
  clear hg
  rcases Bool.eq_false_or_eq_true g with rfl | rfl
  · by_cases e : x = pt
    · obtain ⟨q1, q2⟩ := eq_t e
      have V := Lib.hid (show (true && decide (x ≠ pt)) = false by simp [e])
      generalize (true && decide (x ≠ pt)) = r at V ⊢
      clear e
      go_enter Try.func21, Try.ntmps21
      go_wp2_with (first | (at_lookup; refine MB.wpList_look1_mp _ rfl _ _ 36 rfl 3 4 law_FI und_FB (zero_FB _) m T rfl HM.out _ _ rfl hkey.out ?_; rw [HG.out]) | go_in)
      go_ret
      exact ⟨by rw [V.out]; rfl, rfl⟩
    · obtain ⟨q1, q2⟩ := ne_t e
      have V := Lib.hid (show (true && decide (x ≠ pt)) = true by simp [e])
      generalize (true && decide (x ≠ pt)) = r at V ⊢
      clear e
      go_enter Try.func21, Try.ntmps21
      go_wp2_with (first | (at_lookup; refine MB.wpList_look1_mp _ rfl _ _ 36 rfl 3 4 law_FI und_FB (zero_FB _) m T rfl HM.out _ _ rfl hkey.out ?_; rw [HG.out]) | go_in)
      go_ret
      exact ⟨by rw [V.out]; rfl, rfl⟩
  · rw [Bool.false_and]
    go_enter Try.func21, Try.ntmps21
    go_wp2_with (first | (at_lookup; refine MB.wpList_look1_mp _ rfl _ _ 36 rfl 3 4 law_FI und_FB (zero_FB _) m T rfl HM.out _ _ rfl hkey.out ?_; rw [HG.out]) | go_in)
    go_ret
    exact ⟨rfl, rfl⟩

set_option maxHeartbeats 2000000 in
set_option maxRecDepth 100000 in
theorem dec1_c {w : World} {b0 b1 b2 m m2 : Nat} {T T2 : List MB.T3} {x : Int} {kn : Bool} (c0 : w.cell? ⟨b0, 0, none⟩ = some (.map (some m))) (hm : MB.Mp w Try.prog 3 m T) (c1 : w.cell? ⟨b1, 8, none⟩ = some (.bool kn)) (c2 : w.cell? ⟨b2, 0, none⟩ = some (.map (some m2))) (hm2 : MB.Mp w Try.prog 3 m2 T2) (h1 : -9223372036854775808 ≤ x) (h2 : x ≤ 9223372036854775807) :
    Calls Try.prog 22 #[.int .i64 x, .pointer (some ⟨b0, 0, none⟩), .pointer (some ⟨b1, 0, none⟩), .pointer (some ⟨b2, 0, none⟩)] w fun e w' => e = .returned (.bool (MB.getT T (ki x) || (kn && MB.getT T2 (ki x)))) ∧ w' = w := by
  have HM := Lib.hid hm
  have HM2 := Lib.hid hm2
  have hkey := Lib.hid (keyF x h1 h2)
  clear hm hm2 h1 h2
  generalize hg : MB.getT T (ki x) = g
  have HG := Lib.hid hg
  clear hg
  generalize hg2 : MB.getT T2 (ki x) = g2
  have HG2 := Lib.hid hg2
  clear hg2
  rcases Bool.eq_false_or_eq_true g with rfl | rfl
  · rw [Bool.true_or]
    go_enter Try.func22, Try.ntmps22
    go_wp2_with (first | (at_lookup; refine MB.wpList_look1_mp _ rfl _ _ 36 rfl 3 4 law_FI und_FB (zero_FB _) m T rfl HM.out _ _ rfl hkey.out ?_; rw [HG.out]) | go_in)
    go_ret
    exact ⟨rfl, rfl⟩
  · rcases Bool.eq_false_or_eq_true kn with rfl | rfl
    · rw [Bool.false_or, Bool.true_and]
      have L2 : (Instr.lookup 36 (.map (some m2)) (.int .i64 x) false).run Try.prog w = .ok (.bool g2) w := by rw [← HG2.out]; exact HM2.out.look1 law_FI und_FB (zero_FB _) hkey.out
      go_enter Try.func22, Try.ntmps22
      go_wp2_with (first | (at_lookup; refine MB.wpList_look1_mp _ rfl _ _ 36 rfl 3 4 law_FI und_FB (zero_FB _) m T rfl HM.out _ _ rfl hkey.out ?_; rw [HG.out]) | go_in)
      go_ret
      exact ⟨rfl, rfl⟩
    · rw [Bool.false_or, Bool.false_and]
      go_enter Try.func22, Try.ntmps22
      go_wp2_with (first | (at_lookup; refine MB.wpList_look1_mp _ rfl _ _ 36 rfl 3 4 law_FI und_FB (zero_FB _) m T rfl HM.out _ _ rfl hkey.out ?_; rw [HG.out]) | go_in)
      go_ret
      exact ⟨rfl, rfl⟩


set_option maxHeartbeats 8000000 in
set_option maxRecDepth 100000 in
theorem onlyF_c (b0 b1 : Nat) (f : Int → Bool) (v : Value) (l : List Int) (w : World) (hl : l.length ≤ 1000000) (ha : IntsAt w v l) (hI : I64 l)
    (hF : ∀ (x : Int) (U : World), x ∈ l → Below w.heap.size w U → Calls Try.prog 21 #[.int .i64 x, .pointer (some ⟨b0, 0, none⟩), .pointer (some ⟨b1, 0, none⟩)] U fun e w' => e = .returned (.bool (f x)) ∧ w' = U) :
    Calls Try.prog 20 #[v, .func (.func 21) #[] #[.pointer (some ⟨b0, 0, none⟩), .pointer (some ⟨b1, 0, none⟩)]] w fun e w' => ∃ u, e = .returned u ∧ IntsAt w' u (risI (l.filter f)) ∧ Below w.heap.size w w' := by
  have HF := Lib.hid hF
  have SC := Lib.hid (set_c v l w hl ha hI)
  have HLN := Lib.hid (setL_len l)
  have SO := Lib.hid (fun B u n l U (hB : B ≤ U.heap.size) (hl : l.length ≤ 1000000) ho => sortI_c B u n l U hB hl ho)
  obtain ⟨i0, hi0, hz0, hz1, hz2⟩ := info_parts info_FI
  have HM := Lib.hid (setL_mem l)
  clear hF hI ha
  go_enter Try.func20, Try.ntmps20
  go_wp2_with fail
  ((with_reducible refine SC.out.mono ?_); rintro e w1 ⟨rfl, hm1, k1⟩)
  have HM1 := Lib.hid hm1
  have K1 := Lib.hid k1
  have HAP := Lib.hid (hm1.apart law_FI)
  have hlt1 := Lib.hid hm1.lt
  clear hm1 k1 SC
  go_wp2_with (first
    | (at_range; refine MB.wpList_range_mp _ rfl _ 36 rfl 3 4 law_FI und_FB w.heap.size (setL l) rfl HM1.out ?_; intro w0 hrg0 hg0 hs0)
    | go_in)
  go_frame
  obtain ⟨rb, hrb⟩ : ∃ rb, rb = w1.heap.size := ⟨_, rfl⟩
  rw [← hrb] at hrg0 hs0 ⊢
  have HRB := Lib.hid hrb
  have HR0 := Lib.hid hrg0
  have HS0 := Lib.hid hs0
  have K0 := Lib.hid (K1.out.grown hg0 K1.out.size (fun j hj => by cases hj))
  have HLB := Lib.hid (show w.heap.size < rb by rw [hrb]; exact hlt1.out)
  clear hrg0 hg0 hs0 hrb HM1 K1 hlt1 HRB
  go_loopw [5, 6] (fun s5 _ wr => ∃ (ds : List Int) (S : List MB.T3) (cnt m : Nat), Hid (((ds.map fun x => (ki x, true)) ++ S).Perm (setL l)) ∧ Hid (wr.ownsRow (rb + 1) 3 1 s5 m ((ds.filter f).map (Value.int .i64))) ∧ Hid (MB.Rg wr Try.prog 3 w.heap.size rb (setL l) S cnt) ∧ Hid (Below w.heap.size w wr) ∧ Hid (rb + 1 ≤ wr.heap.size))
    (fun _ _ wr => wr.rangeLeft w.heap.size rb)
  case atStart => exact ⟨[], setL l, _, 0, Lib.hid (by simp), Lib.hid (World.ownsRow_nil _ _ _ _), HR0, K0, Lib.hid (by have := HS0.out; omega)⟩
  case round =>
    clear HR0 K0 HS0
    obtain ⟨ds, S, cnt, m, hP, hO, hR, hB, hS⟩ := hrel
    have hTT := Lib.hid (show ∀ y ∈ S, y.2 = true from fun y hy => by
      obtain ⟨x, -, rfl⟩ := HM.out y (hP.out.mem_iff.1 (List.mem_append.2 (.inr hy)))
      rfl)
    go_wp2_with (first
      | (at_next; refine wpList_next_tt _ rfl _ rfl 3 law_FI (Value.int .i64) invF w.heap.size rb (setL l) S cnt hTT.out rfl hR.out ?_ ?_)
      | go_in)
    · intro h0
      have V := Lib.hid (srt_of (f := f) (ds := ds) (by have := hP.out; rw [h0, List.append_nil] at this; exact this) HAP.out rfl)
      have HL := Lib.hid (show (ds.filter f).length ≤ 1000000 by
        have h1 := hP.out.length_eq
        have h2 := HLN.out
        have h3 := List.length_filter_le f ds
        rw [List.length_append, List.length_map] at h1
        omega)
      clear h0 hP hR HAP HLN
      go_wp2_with fail
      ((with_reducible refine (SO.out _ _ _ _ _ hS.out HL.out hO.out).mono ?_); rintro e w6 ⟨rfl, o6, k6⟩)
      rw [V.out] at o6
      have HA := Lib.hid (IntsAt.of_owns o6)
      have K6 := Lib.hid (hB.out.trans (k6.mono (by have := HLB.out; omega)))
      clear o6 k6 hO hB hS
      go_wp2_with fail
      go_ret
      exact ⟨_, rfl, HA.out, K6.out⟩
    · intro x kl S' w1' cnt1 hkey hpm hrg1 hlt1 hg1 hs1 hen
      obtain rfl := litF hkey
      have hin : (ki x, true) ∈ setL l := hP.out.mem_iff.1 (List.mem_append.2 (.inr (hpm.mem_iff.2 (by simp))))
      obtain ⟨x', hx', e'⟩ := HM.out _ hin
      obtain rfl : x = x' := by simpa [ki] using e'
      have FC := Lib.hid (fun U => HF.out x U hx')
      have hP1 := Lib.hid (show (((ds ++ [x]).map fun x => (ki x, true)) ++ S').Perm (setL l) from (by
        rw [List.map_append, List.append_assoc]
        exact (List.Perm.append_left _ hpm.symm).trans hP.out))
      have hR1 := Lib.hid hrg1
      have hO1 := Lib.hid (hO.out.kept hg1 (fown_far hO.out (by omega)))
      have hB1 := Lib.hid (hB.out.grown hg1 hB.out.size (fun j hj => by cases hj; have := HLB.out; omega))
      have hS1 := Lib.hid (show rb + 1 ≤ w1'.heap.size by rw [hs1]; exact hS.out)
      have hLT := Lib.hid hlt1
      have hRo := Lib.hid hR.out.left_eq
      have hml := Lib.hid (show m ≤ 1000000 - 1 by
        have h0 := hO.out.1
        rw [List.length_map, Nat.mul_one] at h0
        have h1 := hP1.out.length_eq
        have h2 := HLN.out
        have h3 := List.length_filter_le f ds
        simp only [List.length_append, List.length_map, List.length_cons, List.length_nil] at h1
        omega)
      clear hpm hrg1 hlt1 hg1 hs1 hP hO hB hS hR hin e'
      rcases Bool.eq_false_or_eq_true (f x) with hf | hf
      · rw [hf] at FC
        have HT2 := Lib.hid (show ((ds ++ [x]).filter f).map (Value.int .i64) = (ds.filter f).map (Value.int .i64) ++ [.int .i64 x] by simp [List.filter_append, hf])
        clear hf
        go_wp2_with fail
        ((with_reducible refine (FC.out _ hB1.out).mono ?_); rintro e w3 ⟨rfl, h9⟩; replace h9 := h9.symm; subst h9)
        go_upto_region 6 with fail
        have NEW := Lib.hid (int_fresh w1' [.int .i64 x] 3)
        have hga := Lib.hid (World.grownBy_alloc w1' (.cells #[.int .i64 x] 3) none)
        have HO5 := Lib.hid (hO1.out.alloc (.cells #[.int .i64 x] 3))
        have n11 := Lib.hid (show m + 1 ≤ maxLen by have := hml.out; unfold maxLen; omega)
        have n22 := Lib.hid (show (m + 1) * 8 ≤ 140737488355328 by have := hml.out; omega)
        have n33 := Lib.hid (show rb + 1 ≤ (w1'.alloc (.cells #[.int .i64 x] 3)).heap.size by have := hS1.out; simp; omega)
        have oc := Lib.hid (one_i64 x)
        have hR2 := Lib.hid (hR1.out.kept hga.out (by simp) (by simp))
        have hB2 := Lib.hid (hB1.out.grown hga.out hB1.out.size (fun j hj => by cases hj))
        clear hR1 hB1 hO1 hga FC
        go_wp2_with (at_builtin; refine wpList_append_own _ rfl _ _ 22 rfl (rb + 1) 3 i0 (.int .i64 0) 1 8 Try.underlying22 hi0 hz0 hz1 hz2 rfl (by decide) _ _ _ rfl HO5.out ⟨w1'.heap.size, 0, none⟩ 1 1 [.int .i64 x] rfl rfl NEW.out oc.out n11.out n22.out n33.out ?_)
        intro v' w6 hown' hgrow _
        have HO6 := Lib.hid hown'
        have hfar := Lib.hid (fun j hj => (HO5.out.lt j hj).1)
        have hR6 := Lib.hid (hR2.out.kept hgrow (fun e => by have := hfar.out _ e.symm; have := HLB.out; omega) (fun e => by have := hfar.out _ e.symm; omega))
        have hB6 := Lib.hid (hB2.out.grown hgrow (by have := n33.out; have := HLB.out; omega) (fun j hj => by have := hfar.out j hj; have := HLB.out; omega))
        have hS6 := Lib.hid (show rb + 1 ≤ w6.heap.size from Nat.le_trans n33.out hgrow.size)
        clear hown' hgrow HO5 hR2 hB2 hfar NEW
        go_wp2_with fail
        go_roundw
        case rel => exact ⟨_, _, _, m + 1, hP1, Lib.hid (by rw [HT2.out]; exact HO6.out), hR6, hB6, hS6⟩
        case measure => rw [hR6.out.left_eq, hRo.out]; exact hLT.out
      · rw [hf] at FC
        have HT2 := Lib.hid (show ((ds ++ [x]).filter f).map (Value.int .i64) = (ds.filter f).map (Value.int .i64) by simp [List.filter_append, hf])
        clear hf
        go_wp2_with fail
        ((with_reducible refine (FC.out _ hB1.out).mono ?_); rintro e w3 ⟨rfl, h9⟩; replace h9 := h9.symm; subst h9)
        go_wp2_with fail
        go_roundw
        case rel => exact ⟨_, _, _, m, hP1, Lib.hid (by rw [HT2.out]; exact hO1.out), hR1, hB1, hS1⟩
        case measure => rw [hR1.out.left_eq, hRo.out]; exact hLT.out

set_option maxHeartbeats 8000000 in
set_option maxRecDepth 100000 in
theorem onlyD_c (b0 b1 b2 : Nat) (f : Int → Bool) (v : Value) (l : List Int) (w : World) (hl : l.length ≤ 1000000) (ha : IntsAt w v l) (hI : I64 l)
    (hF : ∀ (x : Int) (U : World), x ∈ l → Below w.heap.size w U → Calls Try.prog 22 #[.int .i64 x, .pointer (some ⟨b0, 0, none⟩), .pointer (some ⟨b1, 0, none⟩), .pointer (some ⟨b2, 0, none⟩)] U fun e w' => e = .returned (.bool (f x)) ∧ w' = U) :
    Calls Try.prog 20 #[v, .func (.func 22) #[] #[.pointer (some ⟨b0, 0, none⟩), .pointer (some ⟨b1, 0, none⟩), .pointer (some ⟨b2, 0, none⟩)]] w fun e w' => ∃ u, e = .returned u ∧ IntsAt w' u (risI (l.filter f)) ∧ Below w.heap.size w w' := by
  have HF := Lib.hid hF
  have SC := Lib.hid (set_c v l w hl ha hI)
  have HLN := Lib.hid (setL_len l)
  have SO := Lib.hid (fun B u n l U (hB : B ≤ U.heap.size) (hl : l.length ≤ 1000000) ho => sortI_c B u n l U hB hl ho)
  obtain ⟨i0, hi0, hz0, hz1, hz2⟩ := info_parts info_FI
  have HM := Lib.hid (setL_mem l)
  clear hF hI ha
  go_enter Try.func20, Try.ntmps20
  go_wp2_with fail
  ((with_reducible refine SC.out.mono ?_); rintro e w1 ⟨rfl, hm1, k1⟩)
  have HM1 := Lib.hid hm1
  have K1 := Lib.hid k1
  have HAP := Lib.hid (hm1.apart law_FI)
  have hlt1 := Lib.hid hm1.lt
  clear hm1 k1 SC
  go_wp2_with (first
    | (at_range; refine MB.wpList_range_mp _ rfl _ 36 rfl 3 4 law_FI und_FB w.heap.size (setL l) rfl HM1.out ?_; intro w0 hrg0 hg0 hs0)
    | go_in)
  go_frame
  obtain ⟨rb, hrb⟩ : ∃ rb, rb = w1.heap.size := ⟨_, rfl⟩
  rw [← hrb] at hrg0 hs0 ⊢
  have HRB := Lib.hid hrb
  have HR0 := Lib.hid hrg0
  have HS0 := Lib.hid hs0
  have K0 := Lib.hid (K1.out.grown hg0 K1.out.size (fun j hj => by cases hj))
  have HLB := Lib.hid (show w.heap.size < rb by rw [hrb]; exact hlt1.out)
  clear hrg0 hg0 hs0 hrb HM1 K1 hlt1 HRB
  go_loopw [5, 6] (fun s5 _ wr => ∃ (ds : List Int) (S : List MB.T3) (cnt m : Nat), Hid (((ds.map fun x => (ki x, true)) ++ S).Perm (setL l)) ∧ Hid (wr.ownsRow (rb + 1) 3 1 s5 m ((ds.filter f).map (Value.int .i64))) ∧ Hid (MB.Rg wr Try.prog 3 w.heap.size rb (setL l) S cnt) ∧ Hid (Below w.heap.size w wr) ∧ Hid (rb + 1 ≤ wr.heap.size))
    (fun _ _ wr => wr.rangeLeft w.heap.size rb)
  case atStart => exact ⟨[], setL l, _, 0, Lib.hid (by simp), Lib.hid (World.ownsRow_nil _ _ _ _), HR0, K0, Lib.hid (by have := HS0.out; omega)⟩
  case round =>
    clear HR0 K0 HS0
    obtain ⟨ds, S, cnt, m, hP, hO, hR, hB, hS⟩ := hrel
    have hTT := Lib.hid (show ∀ y ∈ S, y.2 = true from fun y hy => by
      obtain ⟨x, -, rfl⟩ := HM.out y (hP.out.mem_iff.1 (List.mem_append.2 (.inr hy)))
      rfl)
    go_wp2_with (first
      | (at_next; refine wpList_next_tt _ rfl _ rfl 3 law_FI (Value.int .i64) invF w.heap.size rb (setL l) S cnt hTT.out rfl hR.out ?_ ?_)
      | go_in)
    · intro h0
      have V := Lib.hid (srt_of (f := f) (ds := ds) (by have := hP.out; rw [h0, List.append_nil] at this; exact this) HAP.out rfl)
      have HL := Lib.hid (show (ds.filter f).length ≤ 1000000 by
        have h1 := hP.out.length_eq
        have h2 := HLN.out
        have h3 := List.length_filter_le f ds
        rw [List.length_append, List.length_map] at h1
        omega)
      clear h0 hP hR HAP HLN
      go_wp2_with fail
      ((with_reducible refine (SO.out _ _ _ _ _ hS.out HL.out hO.out).mono ?_); rintro e w6 ⟨rfl, o6, k6⟩)
      rw [V.out] at o6
      have HA := Lib.hid (IntsAt.of_owns o6)
      have K6 := Lib.hid (hB.out.trans (k6.mono (by have := HLB.out; omega)))
      clear o6 k6 hO hB hS
      go_wp2_with fail
      go_ret
      exact ⟨_, rfl, HA.out, K6.out⟩
    · intro x kl S' w1' cnt1 hkey hpm hrg1 hlt1 hg1 hs1 hen
      obtain rfl := litF hkey
      have hin : (ki x, true) ∈ setL l := hP.out.mem_iff.1 (List.mem_append.2 (.inr (hpm.mem_iff.2 (by simp))))
      obtain ⟨x', hx', e'⟩ := HM.out _ hin
      obtain rfl : x = x' := by simpa [ki] using e'
      have FC := Lib.hid (fun U => HF.out x U hx')
      have hP1 := Lib.hid (show (((ds ++ [x]).map fun x => (ki x, true)) ++ S').Perm (setL l) from (by
        rw [List.map_append, List.append_assoc]
        exact (List.Perm.append_left _ hpm.symm).trans hP.out))
      have hR1 := Lib.hid hrg1
      have hO1 := Lib.hid (hO.out.kept hg1 (fown_far hO.out (by omega)))
      have hB1 := Lib.hid (hB.out.grown hg1 hB.out.size (fun j hj => by cases hj; have := HLB.out; omega))
      have hS1 := Lib.hid (show rb + 1 ≤ w1'.heap.size by rw [hs1]; exact hS.out)
      have hLT := Lib.hid hlt1
      have hRo := Lib.hid hR.out.left_eq
      have hml := Lib.hid (show m ≤ 1000000 - 1 by
        have h0 := hO.out.1
        rw [List.length_map, Nat.mul_one] at h0
        have h1 := hP1.out.length_eq
        have h2 := HLN.out
        have h3 := List.length_filter_le f ds
        simp only [List.length_append, List.length_map, List.length_cons, List.length_nil] at h1
        omega)
      clear hpm hrg1 hlt1 hg1 hs1 hP hO hB hS hR hin e'
      rcases Bool.eq_false_or_eq_true (f x) with hf | hf
      · rw [hf] at FC
        have HT2 := Lib.hid (show ((ds ++ [x]).filter f).map (Value.int .i64) = (ds.filter f).map (Value.int .i64) ++ [.int .i64 x] by simp [List.filter_append, hf])
        clear hf
        go_wp2_with fail
        ((with_reducible refine (FC.out _ hB1.out).mono ?_); rintro e w3 ⟨rfl, h9⟩; replace h9 := h9.symm; subst h9)
        go_upto_region 6 with fail
        have NEW := Lib.hid (int_fresh w1' [.int .i64 x] 3)
        have hga := Lib.hid (World.grownBy_alloc w1' (.cells #[.int .i64 x] 3) none)
        have HO5 := Lib.hid (hO1.out.alloc (.cells #[.int .i64 x] 3))
        have n11 := Lib.hid (show m + 1 ≤ maxLen by have := hml.out; unfold maxLen; omega)
        have n22 := Lib.hid (show (m + 1) * 8 ≤ 140737488355328 by have := hml.out; omega)
        have n33 := Lib.hid (show rb + 1 ≤ (w1'.alloc (.cells #[.int .i64 x] 3)).heap.size by have := hS1.out; simp; omega)
        have oc := Lib.hid (one_i64 x)
        have hR2 := Lib.hid (hR1.out.kept hga.out (by simp) (by simp))
        have hB2 := Lib.hid (hB1.out.grown hga.out hB1.out.size (fun j hj => by cases hj))
        clear hR1 hB1 hO1 hga FC
        go_wp2_with (at_builtin; refine wpList_append_own _ rfl _ _ 22 rfl (rb + 1) 3 i0 (.int .i64 0) 1 8 Try.underlying22 hi0 hz0 hz1 hz2 rfl (by decide) _ _ _ rfl HO5.out ⟨w1'.heap.size, 0, none⟩ 1 1 [.int .i64 x] rfl rfl NEW.out oc.out n11.out n22.out n33.out ?_)
        intro v' w6 hown' hgrow _
        have HO6 := Lib.hid hown'
        have hfar := Lib.hid (fun j hj => (HO5.out.lt j hj).1)
        have hR6 := Lib.hid (hR2.out.kept hgrow (fun e => by have := hfar.out _ e.symm; have := HLB.out; omega) (fun e => by have := hfar.out _ e.symm; omega))
        have hB6 := Lib.hid (hB2.out.grown hgrow (by have := n33.out; have := HLB.out; omega) (fun j hj => by have := hfar.out j hj; have := HLB.out; omega))
        have hS6 := Lib.hid (show rb + 1 ≤ w6.heap.size from Nat.le_trans n33.out hgrow.size)
        clear hown' hgrow HO5 hR2 hB2 hfar NEW
        go_wp2_with fail
        go_roundw
        case rel => exact ⟨_, _, _, m + 1, hP1, Lib.hid (by rw [HT2.out]; exact HO6.out), hR6, hB6, hS6⟩
        case measure => rw [hR6.out.left_eq, hRo.out]; exact hLT.out
      · rw [hf] at FC
        have HT2 := Lib.hid (show ((ds ++ [x]).filter f).map (Value.int .i64) = (ds.filter f).map (Value.int .i64) by simp [List.filter_append, hf])
        clear hf
        go_wp2_with fail
        ((with_reducible refine (FC.out _ hB1.out).mono ?_); rintro e w3 ⟨rfl, h9⟩; replace h9 := h9.symm; subst h9)
        go_wp2_with fail
        go_roundw
        case rel => exact ⟨_, _, _, m, hP1, Lib.hid (by rw [HT2.out]; exact hO1.out), hR1, hB1, hS1⟩
        case measure => rw [hR1.out.left_eq, hRo.out]; exact hLT.out

end Go.Proofs.Ytpaehbmhdjnofaa
