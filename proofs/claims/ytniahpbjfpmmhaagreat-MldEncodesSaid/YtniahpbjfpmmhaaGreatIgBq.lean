/-
  Writing records, the document's answer: siphonref08.sized, joined. Contracts over the translated program.
  Writing records, the document's answer: siphonref08.Body. Contracts over the translated program.
  Records' bytes at every argument: siphonref08.Body.
-/
import Derived.Test.YtniahpbjfpmmhaaGreatIgBde
import Derived.Test.YtniahpbjfpmmhaaGreatIgH
import Derived.Test.YtniahpbjfpmmhaaGreatRefQ
import Derived.Deep.RegionHeld3
import Derived.Test.YtniahpbjfpmmhaaGreatIgBt
namespace Go.Proofs.YtniahpbjfpmmhaaGreat
open Go.RowKit
set_option linter.unusedVariables false

set_option maxHeartbeats 1000000 in
set_option maxRecDepth 100000 in
theorem rsized_c (v : Value) (L : List ByteArray) (size : Int) (w : World) (hl : L.length ≤ 9223372036854775807) (ha : AddrsAt w v L) :
    Calls Tryz.prog 61 #[v, .int .i64 size] w fun e w' => e = .returned (.bool (srcsB L size)) ∧ w = w' := by
  obtain ⟨p, cap, b, off, rfl, hp, hc⟩ := ha
  have HP := Lib.hid hp
  have HC := Lib.hid hc
  clear hp hc
  by_cases h60 : 60 < L.length
  · have V := Lib.hid (show srcsB L size = false by unfold srcsB; rw [show decide (L.length ≤ 60) = false from decide_eq_false (by omega)]; simp)
    have h60' : (60 : Int) < (L.length : Int) := by omega
    clear h60
    go_enter Tryz.func61, Tryz.ntmps61
    go_wp2_with fail
    go_ret
    exact ⟨by rw [V.out]; rfl, rfl⟩
  · have h60' : (L.length : Int) ≤ 60 := by omega
    have h60n := Lib.hid h60
    clear h60
    go_enter Tryz.func61, Tryz.ntmps61
    go_wp2_with fail
    go_loop [5] (fun i => ∃ k : Nat, k ≤ L.length ∧ i = .int .i64 k ∧ Hid ((L.take k).all (fun a => decide ((a.size : Int) = size)) = true)) (fun i => L.length - (intOf i).toNat)
    case atStart => exact ⟨0, Nat.zero_le _, rfl, Lib.hid rfl⟩
    case round =>
      obtain ⟨k, hk, rfl, hall⟩ := hrel
      by_cases hlt : k < L.length
      · have hne : L ≠ [] := by rintro rfl; simp at hlt
        obtain ⟨rfl, -⟩ := HP.out hne
        have x1 := HC.out k _ (List.getElem?_eq_getElem hlt)
        have hT := Lib.hid (List.take_succ_eq_append_getElem hlt)
        have hM := Lib.hid (List.getElem_mem hlt)
        generalize L[k] = a at x1 hT hM
        have hlt' : (k : Int) < (L.length : Int) := by omega
        clear hne
        by_cases hz : (a.size : Int) = size
        · obtain ⟨q1, q2⟩ := eq_t hz
          have hA2 := Lib.hid (show (L.take (k + 1)).all (fun a => decide ((a.size : Int) = size)) = true by rw [hT.out, List.all_append, hall.out]; simp [hz])
          clear hz
          go_wp2_with fail
          go_round
          case rel => exact ⟨k + 1, by omega, by go_num, hA2⟩
          case measure => simp [intOf]; omega
        · obtain ⟨q1, q2⟩ := ne_t hz
          have V := Lib.hid (show srcsB L size = false by
            unfold srcsB
            have : L.all (fun a => decide ((a.size : Int) = size)) = false := by
              rw [List.all_eq_false]
              exact ⟨a, hM.out, by simpa using hz⟩
            rw [this]; rfl)
          clear hz
          go_wp2_with fail
          go_ret
          exact ⟨by rw [V.out]; rfl, rfl⟩
      · obtain rfl : k = L.length := by omega
        have V := Lib.hid (show srcsB L size = true by
          have h := hall.out
          rw [List.take_length] at h
          unfold srcsB
          rw [h, decide_eq_true (by have := h60n.out; omega)]; rfl)
        clear hlt
        go_wp2_with fail
        go_ret
        exact ⟨by rw [V.out]; rfl, rfl⟩

theorem add_flat (l : List UInt8) (a : ByteArray) : (⟨l.toArray⟩ : ByteArray) ++ a = ⟨(l ++ a.data.toList).toArray⟩ := by
  apply ByteArray.ext
  apply Array.toList_inj.1
  simp [ByteArray.data_append]

set_option maxHeartbeats 1000000 in
set_option maxRecDepth 100000 in
theorem rjoin_c (v : Value) (L : List ByteArray) (w : World) (hl : L.length ≤ 9223372036854775807) (hf : (flatL L).length ≤ 1000000) (ha : AddrsAt w v L) :
    Calls Tryz.prog 62 #[v] w fun e w' => e = .returned (.string ⟨(flatL L).toArray⟩) ∧ w = w' := by
  obtain ⟨p, cap, b, off, rfl, hp, hc⟩ := ha
  have HP := Lib.hid hp
  have HC := Lib.hid hc
  clear hp hc
  go_enter Tryz.func62, Tryz.ntmps62
  go_wp2_with fail
  go_loop [3, 4] (fun s i => ∃ (k : Nat) (X : ByteArray), k ≤ L.length ∧ i = .int .i64 k ∧ s = .string X ∧ Hid (X = ⟨(flatL (L.take k)).toArray⟩)) (fun _ i => L.length - (intOf i).toNat)
  case atStart => exact ⟨0, ⟨#[]⟩, Nat.zero_le _, rfl, rfl, Lib.hid (by rw [List.take_zero]; rfl)⟩
  case round =>
    obtain ⟨k, X, hk, rfl, rfl, hX⟩ := hrel
    by_cases hlt : k < L.length
    · have hne : L ≠ [] := by rintro rfl; simp at hlt
      obtain ⟨rfl, -⟩ := HP.out hne
      have x1 := HC.out k _ (List.getElem?_eq_getElem hlt)
      have hT := Lib.hid (flatL_take L k hlt)
      have hU := flatL_len L k hlt
      generalize L[k] = a at x1 hT hU
      have hlt' : (k : Int) < (L.length : Int) := by omega
      have hXz : X.size = (flatL (L.take k)).length := by rw [hX.out, ByteArray.size_mk', List.size_toArray]
      have hsz : X.size + a.size ≤ 1000000 := by omega
      have hX2 := Lib.hid (show X ++ a = ⟨(flatL (L.take (k + 1))).toArray⟩ by rw [hX.out, add_flat, hT.out])
      clear hne hXz hU
      go_wp2_with fail
      go_round
      case rel => exact ⟨k + 1, _, by omega, by go_num, rfl, hX2⟩
      case measure => simp [intOf]; omega
    · obtain rfl : k = L.length := by omega
      have hX2 := Lib.hid (show X = ⟨(flatL L).toArray⟩ by have := hX.out; rw [List.take_length] at this; exact this)
      clear hX hlt
      go_wp2_with fail
      go_ret
      exact ⟨by rw [← hX2.out]; rfl, rfl⟩

/-- A record's box behind w0's end, and its sources, while others make memory. -/
def KX (w0 : World) (xs : Array Value) (vs : Value) (L : List ByteArray) (w : World) : Prop := Box w0 w xs 36 ∧ AddrsAt w vs L
theorem KX.drew {w0 w : World} {xs : Array Value} {vs : Value} {L : List ByteArray} (h : KX w0 xs vs L w) : KX w0 xs vs L w.drew := ⟨⟨h.1.1, h.1.2.drew⟩, h.2⟩
theorem KX.below {w0 w w' : World} {xs : Array Value} {vs : Value} {L : List ByteArray} (h : KX w0 xs vs L w) (k : Below w.heap.size w w') : KX w0 xs vs L w' := ⟨h.1.below k, h.2.below k⟩

theorem KX.out {w0 w : World} {xs : Array Value} {vs : Value} {L : List ByteArray} {B : Nat} (h : KX w0 xs vs L w) (hB : B ≤ w0.heap.size) : Below B w0 w := h.1.2.mono hB
theorem of_k (n k : Int) (X : ByteArray) (hX : (putSpec n k).1 = X) (n1 : -9223372036854775808 ≤ n) (n2 : n ≤ 9223372036854775807) (w0 : World) (kd : Int) (g : ByteArray) (vs : Value) (L : List ByteArray) (w : World) (h : KX w0 #[.int .i64 kd, .string g, vs] vs L w) :
    Calls Tryz.prog 34 #[.int .i64 n, .int .i64 k] w fun e w' => e = .returned (.string X) ∧ w'.cell? ⟨w0.heap.size, 0, none⟩ = some (.int .i64 kd) ∧ w'.cell? ⟨w0.heap.size, 1, none⟩ = some (.string g) ∧ w'.cell? ⟨w0.heap.size, 2, none⟩ = some vs ∧ KX w0 #[.int .i64 kd, .string g, vs] vs L w' :=
  (of_c n k w n1 n2).mono fun _ _ ⟨h1, h2⟩ => by
    have K := h.below h2
    exact ⟨by rw [h1, hX], K.1.cell 0 rfl, K.1.cell 1 rfl, K.1.cell 2 rfl, K⟩
theorem join_k (w0 : World) (kd : Int) (g : ByteArray) (vs : Value) (L : List ByteArray) (hl : L.length ≤ 9223372036854775807) (hf : (flatL L).length ≤ 1000000) (w : World) (h : KX w0 #[.int .i64 kd, .string g, vs] vs L w) :
    Calls Tryz.prog 62 #[vs] w fun e w' => e = .returned (.string ⟨(flatL L).toArray⟩) ∧ w'.cell? ⟨w0.heap.size, 0, none⟩ = some (.int .i64 kd) ∧ w'.cell? ⟨w0.heap.size, 1, none⟩ = some (.string g) ∧ w'.cell? ⟨w0.heap.size, 2, none⟩ = some vs ∧ KX w0 #[.int .i64 kd, .string g, vs] vs L w' :=
  (rjoin_c vs L w hl hf h.2).mono fun _ _ ⟨h1, h2⟩ => by
    subst h2
    exact ⟨h1, h.1.cell 0 rfl, h.1.cell 1 rfl, h.1.cell 2 rfl, h⟩

set_option maxHeartbeats 4000000 in
set_option maxRecDepth 100000 in
theorem rbody_go (v : Value) (L : List Rec) (size : Int) (w : World) (hz : sizeB size = true) (hL : L.length ≤ 30) (hs : ∀ r ∈ L, r.srcs.length ≤ 9223372036854775807) (ha : RecsAt w v L) :
    Calls Tryz.prog 28 #[v, .int .i64 size] w (BodyPost (bodyI L size) w) := by
  have hz' := of_decide_eq_true hz
  have hzt : ((size == 4) = true ∧ (size != 4) = false) ∨ ((size == 4) = false ∧ (size != 4) = true ∧ (size == 16) = true ∧ (size != 16) = false) := by
    rcases hz' with rfl | rfl
    · exact .inl ⟨rfl, rfl⟩
    · exact .inr ⟨rfl, rfl, rfl, rfl⟩
  have hz16 : size ≤ 16 := by omega
  obtain ⟨p, cap, b, off, rfl, hp, hc⟩ := ha
  have HP := Lib.hid hp
  have HC := Lib.hid hc
  have HS := Lib.hid hs
  have hL' : (L.length : Int) ≤ 30 := by omega
  have VN := Lib.hid fun (h : L.all (fun r => recB r size) = false) => show bodyI L size = (1, ⟨#[]⟩) from by unfold bodyI; rw [if_neg (by rw [hz]; simp; omega), if_neg (by rw [h]; simp)]
  have VY := Lib.hid fun (h : L.all (fun r => recB r size) = true) => show bodyI L size = (0, ⟨(L.flatMap recL).toArray⟩) from by unfold bodyI; rw [if_neg (by rw [hz]; simp; omega), if_pos h]
  clear hp hc hs hz hz'
  rcases hzt with ⟨z1, z2⟩ | ⟨z1, z2, z3, z4⟩
  all_goals
    go_enter Tryz.func28, Tryz.ntmps28
    go_wp2_with fail
    go_loopw [6, 7, 8] (fun s i _ wr => ∃ (k : Nat) (X : ByteArray), k ≤ L.length ∧ i = .int .i64 k ∧ s = .string X ∧ Hid (X = ⟨((L.take k).flatMap recL).toArray⟩) ∧ Hid (∀ r ∈ L.take k, recB r size = true) ∧ Hid (Below w.heap.size w wr)) (fun _ i _ _ => L.length - (intOf i).toNat)
    case atStart => exact ⟨0, ⟨#[]⟩, Nat.zero_le _, rfl, rfl, Lib.hid (by rw [List.take_zero]; rfl), Lib.hid (fun r hr => by simp at hr), Lib.hid (Below.refl _ _)⟩
    case round =>
      obtain ⟨k, X, hk, rfl, rfl, hX, hall, hD⟩ := hrel
      by_cases hlt : k < L.length
      · have hne : L ≠ [] := by rintro rfl; simp at hlt
        obtain ⟨rfl, -⟩ := HP.out hne
        obtain ⟨x0, x1, vs, x2, xa⟩ := HC.out k _ (List.getElem?_eq_getElem hlt)
        have hT := Lib.hid (flat_take_rec L k hlt)
        have hTk := Lib.hid (List.take_succ_eq_append_getElem hlt)
        have hM := Lib.hid (List.getElem_mem hlt)
        have hsr := HS.out _ (List.getElem_mem hlt)
        generalize L[k] = r at x0 x1 x2 xa hT hTk hM hsr
        have y0 := cell_below hD.out x0
        have y1 := cell_below hD.out x1
        have y2 := cell_below hD.out x2
        obtain ⟨q, cq, rfl⟩ := xa.slice
        have XA := Lib.hid (xa.below hD.out)
        have hlt' : (k : Int) < (L.length : Int) := by omega
        have HG := Lib.hid fun U => rgroup_c r.group size U
        have HZ := Lib.hid fun U h => rsized_c (.slice q r.srcs.length cq) r.srcs size U hsr h
        have RB := Lib.hid (show recB r size = (kindB r.kind && grpB r.group size && srcsB r.srcs size) from rfl)
        have X1 := Lib.hid (Box.start wr #[.int .i64 r.kind, .string r.group, .slice q r.srcs.length cq] 36)
        have XA1 := Lib.hid (XA.out.below X1.out.2)
        have D1 := Lib.hid (hD.out.trans (X1.out.2.mono hD.out.size))
        clear x0 x1 x2 xa hne
        have bad : recB r size = false → bodyI L size = (1, ⟨#[]⟩) := fun h => VN.out (by rw [List.all_eq_false]; exact ⟨r, hM.out, by rw [h]; simp⟩)
        have BAD := Lib.hid bad
        clear bad
        by_cases hk1 : (1 : Int) ≤ r.kind
        · by_cases hk6 : r.kind ≤ 6
          · have d1 : decide (r.kind < 1) = false := decide_eq_false (by omega)
            have d6 : decide (6 < r.kind) = false := decide_eq_false (by omega)
            rcases hgb : grpB r.group size with _ | _
            · have V := Lib.hid (BAD.out (by rw [RB.out, hgb]; simp))
              rw [hgb] at HG
              clear hgb
              go_wp2_with fail
              ((with_reducible refine (HG.out _).mono ?_); rintro e w2 ⟨rfl, rfl⟩)
              go_wp2_with fail
              go_ret2
              unfold BodyPost
              rw [V.out]
              exact ⟨rfl, D1.out⟩
            · rcases hsb : srcsB r.srcs size with _ | _
              · have V := Lib.hid (BAD.out (by rw [RB.out, hsb]; simp))
                rw [hgb] at HG
                rw [hsb] at HZ
                have XA2 := XA1.out
                clear hgb hsb
                go_wp2_with fail
                ((with_reducible refine (HG.out _).mono ?_); rintro e w2 ⟨rfl, rfl⟩)
                go_wp2_with fail
                ((with_reducible refine (HZ.out _ XA2).mono ?_); rintro e w3 ⟨rfl, rfl⟩)
                go_wp2_with fail
                go_ret2
                unfold BodyPost
                rw [V.out]
                exact ⟨rfl, D1.out⟩
              · have hrb : recB r size = true := by rw [RB.out, hgb, hsb]; simp [kindB, hk1, hk6]
                have hall2 := Lib.hid (show ∀ x ∈ L.take (k + 1), recB x size = true by
                  rw [hTk.out]
                  intro x hx
                  rcases List.mem_append.1 hx with h | h
                  · exact hall.out x h
                  · rw [List.mem_singleton.1 h]; exact hrb)
                obtain ⟨r1, r2, r3, r4, r5⟩ := rec_len r size hrb hz16
                have hlen := recs_len size hz16 (L.take k) hall.out
                have hlk : (L.take k).length ≤ 30 := by rw [List.length_take]; omega
                have hXz : X.size = ((L.take k).flatMap recL).length := by rw [hX.out, ByteArray.size_mk', List.size_toArray]
                have hXs : X.size ≤ 30000 := by omega
                rw [hgb] at HG
                rw [hsb] at HZ
                have XA2 := XA1.out
                obtain ⟨N1, hN1⟩ : ∃ N1, (putSpec r.kind 1).1 = N1 := ⟨_, rfl⟩
                obtain ⟨N2, hN2⟩ : ∃ N2, (putSpec r.srcs.length 2).1 = N2 := ⟨_, rfl⟩
                have hJ := Lib.hid (show ((((X ++ N1) ++ ⟨#[0]⟩) ++ N2) ++ r.group) ++ ⟨(flatL r.srcs).toArray⟩ = ⟨((L.take (k + 1)).flatMap recL).toArray⟩ by
                  rw [hT.out, hX.out, ← hN1, ← hN2, add_flat, show (⟨#[0]⟩ : ByteArray) = ⟨([0] : List UInt8).toArray⟩ from rfl, add_flat, add_flat, add_flat, add_flat]
                  obtain ⟨K, hK⟩ := Int.eq_ofNat_of_zero_le r2.1
                  rw [hK, show (1 : Int) = ((1 : Nat) : Int) from rfl, show (2 : Int) = ((2 : Nat) : Int) from rfl, put_n K 1 (by omega) (by omega) (by omega), put_n r.srcs.length 2 (by omega) (by omega) (by omega)]
                  unfold recL
                  rw [hK, Int.toNat_natCast, show bytesOf 0 1 = [0] from rfl]
                  simp only [List.append_assoc])
                have N1z : N1.size ≤ 4 := by rw [← hN1]; have := wput_len r.kind 1; rwa [vlen] at this
                have N2z : N2.size ≤ 4 := by rw [← hN2]; have := wput_len r.srcs.length 2; rwa [vlen] at this
                have Fz : (⟨(flatL r.srcs).toArray⟩ : ByteArray).size ≤ 960 := by rw [ByteArray.size_mk', List.size_toArray]; exact r5
                have K1 := Lib.hid fun U h => of_k r.kind 1 N1 hN1 (by omega) (by omega) wr r.kind r.group (.slice q r.srcs.length cq) r.srcs U h
                have K2 := Lib.hid fun U h => of_k r.srcs.length 2 N2 hN2 (by omega) (by omega) wr r.kind r.group (.slice q r.srcs.length cq) r.srcs U h
                have K3 := Lib.hid fun U h => join_k wr r.kind r.group (.slice q r.srcs.length cq) r.srcs hsr (by omega) U h
                generalize (⟨(flatL r.srcs).toArray⟩ : ByteArray) = FJ at hJ Fz K3
                have Gz := r4
                obtain ⟨Y1, e1⟩ : ∃ Y1, X ++ N1 = Y1 := ⟨_, rfl⟩
                have s1 : Y1.size = X.size + N1.size := by rw [← e1, ByteArray.size_append]
                obtain ⟨Y2, e2⟩ : ∃ Y2, Y1 ++ ⟨#[0]⟩ = Y2 := ⟨_, rfl⟩
                have s2 : Y2.size = Y1.size + 1 := by rw [← e2, ByteArray.size_append]; rfl
                obtain ⟨Y3, e3⟩ : ∃ Y3, Y2 ++ N2 = Y3 := ⟨_, rfl⟩
                have s3 : Y3.size = Y2.size + N2.size := by rw [← e3, ByteArray.size_append]
                obtain ⟨Y4, e4⟩ : ∃ Y4, Y3 ++ r.group = Y4 := ⟨_, rfl⟩
                have s4 : Y4.size = Y3.size + r.group.size := by rw [← e4, ByteArray.size_append]
                obtain ⟨Y5, e5⟩ : ∃ Y5, Y4 ++ FJ = Y5 := ⟨_, rfl⟩
                rw [e1, e2, e3, e4, e5] at hJ
                have n1 : ¬ (9223372036854775807 < X.size + N1.size) := by omega
                have n2 : ¬ (9223372036854775807 < Y1.size + 1) := by omega
                have n3 : ¬ (9223372036854775807 < Y2.size + N2.size) := by omega
                have n4 : ¬ (9223372036854775807 < Y3.size + r.group.size) := by omega
                have n5 : ¬ (9223372036854775807 < Y4.size + FJ.size) := by omega
                have kx : KX wr #[.int .i64 r.kind, .string r.group, .slice q r.srcs.length cq] (.slice q r.srcs.length cq) r.srcs (wr.alloc (.cells #[.int .i64 r.kind, .string r.group, .slice q r.srcs.length cq] 36)) := ⟨X1.out, XA1.out⟩
                clear hgb hsb hrb r1 r2 r3 r4 r5 hlen hlk hXz hN1 hN2 hsr s1 s2 s3 s4 Gz N1z N2z Fz hXs
                go_wp2_with fail
                ((with_reducible refine (HG.out _).mono ?_); rintro e w2 ⟨rfl, rfl⟩)
                go_wp2_with fail
                ((with_reducible refine (HZ.out _ XA2).mono ?_); rintro e w3 ⟨rfl, rfl⟩)
                go_wp2_with fail
                have c0 := X1.out.cell 0 rfl
                have c1 := X1.out.cell 1 rfl
                have c2 := X1.out.cell 2 rfl
                clear XA2 y0 y1 y2
                generalize wr.alloc (.cells #[.int .i64 r.kind, .string r.group, .slice q r.srcs.length cq] 36) = W at kx c0 c1 c2 ⊢
                go_region_held3 (fun w' => w'.cell? ⟨wr.heap.size, 0, none⟩ = some (.int .i64 r.kind) ∧ w'.cell? ⟨wr.heap.size, 1, none⟩ = some (.string r.group) ∧ w'.cell? ⟨wr.heap.size, 2, none⟩ = some (.slice q r.srcs.length cq) ∧ KX wr #[.int .i64 r.kind, .string r.group, .slice q r.srcs.length cq] (.slice q r.srcs.length cq) r.srcs w')
                  (first | (refine ⟨?_, ?_, ?_, ?_⟩ <;> first | assumption | exact KX.drew (by assumption) | (simp; done)))
                  (first
                    | (go_at_call 34; (with_reducible refine (K1.out _ ?_).mono ?_); (first | assumption | exact KX.drew (by assumption)); rintro e w' ⟨rfl, e0, e1, e2, e3⟩)
                    | (go_at_call 34; (with_reducible refine (K2.out _ ?_).mono ?_); (first | assumption | exact KX.drew (by assumption)); rintro e w' ⟨rfl, e0, e1, e2, e3⟩)
                    | (go_at_call 62; (with_reducible refine (K3.out _ ?_).mono ?_); (first | assumption | exact KX.drew (by assumption)); rintro e w' ⟨rfl, e0, e1, e2, e3⟩))
                go_wp2_with fail
                go_roundw
                case rel => exact ⟨k + 1, Y5, by omega, by go_num, rfl, hJ, hall2, Lib.hid (hD.out.trans (KX.out (by assumption) hD.out.size))⟩
                case measure => simp [intOf]; omega
          · have d1 : decide (r.kind < 1) = false := decide_eq_false (by omega)
            have d6 : decide (6 < r.kind) = true := decide_eq_true (by omega)
            have V := Lib.hid (BAD.out (by rw [RB.out]; simp [kindB, hk6]))
            clear hk1 hk6
            go_wp2_with fail
            go_ret2
            unfold BodyPost
            rw [V.out]
            exact ⟨rfl, D1.out⟩
        · have d1 : decide (r.kind < 1) = true := decide_eq_true (by omega)
          have V := Lib.hid (BAD.out (by rw [RB.out]; simp [kindB, hk1]))
          clear hk1
          go_wp2_with fail
          go_ret2
          unfold BodyPost
          rw [V.out]
          exact ⟨rfl, D1.out⟩
      · obtain rfl : k = L.length := by omega
        have V := Lib.hid (VY.out (by
          rw [List.all_eq_true]
          have h := hall.out
          rw [List.take_length] at h
          exact h))
        have hX2 := Lib.hid (show X = ⟨(L.flatMap recL).toArray⟩ by have := hX.out; rw [List.take_length] at this; exact this)
        clear hX hlt
        go_wp2_with fail
        go_ret2
        unfold BodyPost
        rw [V.out, ← hX2.out]
        exact ⟨rfl, hD.out⟩

set_option maxHeartbeats 1000000 in
set_option maxRecDepth 100000 in
theorem rbody_c (v : Value) (L : List Rec) (size : Int) (w : World) (hl : L.length ≤ 9223372036854775807) (hs : ∀ r ∈ L, r.srcs.length ≤ 9223372036854775807) (ha : RecsAt w v L) :
    Calls Tryz.prog 28 #[v, .int .i64 size] w (BodyPost (bodyI L size) w) := by
  by_cases h4 : size = 4 ∨ size = 16
  · by_cases h30 : 30 < L.length
    · have V := Lib.hid (show bodyI L size = (1, ⟨#[]⟩) by unfold bodyI; rw [if_pos (.inr h30)])
      obtain ⟨p, cap, rfl⟩ := ha.slice
      have d30 : decide ((30 : Int) < (L.length : Int)) = true := decide_eq_true (by omega)
      clear ha h30
      rcases h4 with rfl | rfl
      all_goals
        go_enter Tryz.func28, Tryz.ntmps28
        go_wp2_with fail
        go_ret2
        unfold BodyPost
        rw [V.out]
        exact ⟨rfl, Below.refl _ _⟩
    · exact rbody_go v L size w (decide_eq_true h4) (by omega) hs ha
  · have V := Lib.hid (show bodyI L size = (1, ⟨#[]⟩) by unfold bodyI; rw [if_pos (.inl (decide_eq_false h4))])
    obtain ⟨a1, a2⟩ := ne_t (show size ≠ 4 by omega)
    obtain ⟨b1, b2⟩ := ne_t (show size ≠ 16 by omega)
    clear h4 ha
    go_enter Tryz.func28, Tryz.ntmps28
    go_wp2_with fail
    go_ret2
    unfold BodyPost
    rw [V.out]
    exact ⟨rfl, Below.refl _ _⟩

end Go.Proofs.YtniahpbjfpmmhaaGreat
