/-
  The laws' helpers: same, few, live. Contracts over the translated program.
-/
import Derived.Test.YthpafojeadbjlaaPxAB
import Derived.Test.YthpafojeadbjlaaPxFM
import Derived.Test.YthpafojeadbjlaaFlE
namespace Go.Proofs.Ythpafojeadbjlaa
open Go Go.Maps Go.WideMaps
open Go.RowKit
set_option linter.unusedVariables false
set_option linter.unusedSimpArgs false

set_option maxHeartbeats 1000000 in
set_option maxRecDepth 100000 in
theorem samep_c (ex : Bool) (v1 v2 : Value) (l : List ByteArray) (w : World) (hl : l.length ≤ 9223372036854775807) (h1 : AddrsAt w v1 l) (h2 : AddrsAt w v2 l) :
    Calls Try.prog 11 #[.agg #[.bool ex, v1], .agg #[.bool ex, v2]] w fun e w' => e = .returned (.bool true) ∧ Below w.heap.size w w' := by
  have HB := Lib.hid fun o p => ((boxed_below w o).alloc (by simp) p)
  have HS := Lib.hid fun o p => sameA_c v1 v2 l ((w.alloc o).alloc p) hl (h1.below (HB.out o p)) (h2.below (HB.out o p))
  obtain ⟨p1, c1, rfl⟩ := h1.slice
  obtain ⟨p2, c2, rfl⟩ := h2.slice
  generalize l.length = n at *
  clear h1 h2
  cases ex
  all_goals
    go_enter Try.func11, Try.ntmps11
    go_wp2_with fail
    refine (HS.out _ _).mono ?_
    rintro e w1 ⟨rfl, q, rfl⟩
    go_wp2_with fail
    go_ret
    exact ⟨rfl, below_drewN (HB.out _ _) q⟩

set_option maxHeartbeats 1000000 in
set_option maxRecDepth 100000 in
theorem few21_no (p : Option Addr) (n c : Nat) (hn : 10 < n) (w : World) : Calls Try.prog 9 #[.slice p n c] w fun e w' => e = .returned (.bool false) ∧ Below w.heap.size w w' := by
  have d1 : decide ((10 : Int) < n) = true := decide_eq_true (by omega)
  clear hn
  go_enter Try.func9, Try.ntmps9
  go_wp2_with fail
  go_ret
  exact ⟨rfl, Below.refl _ _⟩
/-- A list of states, of whatever lengths. -/
def StsW (w : World) (v : Value) (L : List StR) : Prop :=
  RowsAt 3 cellsStR w v L ∧ (∀ p n c, v = .slice p n c → n ≤ c) ∧ ∀ r ∈ L, RowsAt 2 cellsTm w r.srcv r.src
theorem StsW.sts {w : World} {v : Value} {L : List StR} (h : StsW w v L) (k : ∀ r ∈ L, r.src.length ≤ 60) : StsAt w v L :=
  ⟨h.1, h.2.1, fun r hr => ⟨h.2.2 r hr, by have := k r hr; omega⟩⟩
theorem StsW.len {w : World} {p : Option Addr} {n c : Nat} {L : List StR} (h : StsW w (.slice p n c) L) : n = L.length ∧ n ≤ c := by
  obtain ⟨⟨q, d, b', off', hv, hp, hc⟩, h2, h3⟩ := h
  simp only [Value.slice.injEq] at hv
  exact ⟨hv.2.1, h2 _ _ _ rfl⟩
theorem StsW.place {w : World} {p : Option Addr} {n c : Nat} {L : List StR} (h : StsW w (.slice p n c) L) (hn : 0 < n) : ∃ b off, p = some ⟨b, off, none⟩ := by
  obtain ⟨⟨q, d, b, off, hv, hp, hc⟩, h2, h3⟩ := h
  simp only [Value.slice.injEq] at hv
  obtain ⟨rfl, rfl, rfl⟩ := hv
  exact ⟨b, off, hp (by rintro rfl; simp at hn)⟩
/-- The cells of one of them. -/
theorem StsAt.row {w : World} {b off n c : Nat} {L : List StR} (h : StsAt w (.slice (some ⟨b, off, none⟩) n c) L) {k : Nat} {x : StR} (hx : L[k]? = some x) :
    w.cell? ⟨b, off + k * 3, none⟩ = some (.bool x.ex) ∧ w.cell? ⟨b, off + k * 3 + 1, none⟩ = some (.int .i64 x.tm) ∧ w.cell? ⟨b, off + k * 3 + 2, none⟩ = some x.srcv ∧ RowsAt 2 cellsTm w x.srcv x.src ∧ x.src.length ≤ 1000000 := by
  obtain ⟨⟨q, d, b', off', hv, hp, hc⟩, h2, h3⟩ := h
  simp only [Value.slice.injEq] at hv
  obtain ⟨rfl, rfl, rfl⟩ := hv
  have e := hp (by rintro rfl; simp at hx)
  simp only [Option.some.injEq, Addr.mk.injEq, and_true] at e
  obtain ⟨rfl, rfl⟩ := e
  exact ⟨by simpa using hc k x hx 0 _ rfl, hc k x hx 1 _ rfl, hc k x hx 2 _ rfl, h3 x (List.mem_of_getElem? hx)⟩
/-- few: at most ten states, of sixty sources each. -/
def fewL (L : List StR) : Bool := decide (L.length ≤ 10) && L.all (fun r => decide (r.src.length ≤ 60))

set_option maxHeartbeats 4000000 in
set_option maxRecDepth 100000 in
theorem few21_c (p : Option Addr) (n c : Nat) (L : List StR) (w : World) (h : StsW w (.slice p n c) L) : Calls Try.prog 9 #[.slice p n c] w fun e w' => e = .returned (.bool (fewL L)) ∧ Below w.heap.size w w' := by
  obtain ⟨hn, hc⟩ := h.len
  by_cases h10 : 10 < n
  · have e : fewL L = false := by unfold fewL; rw [decide_eq_false (by omega)]; rfl
    rw [e]
    exact few21_no p n c h10 w
  have d1 : decide ((10 : Int) < n) = false := decide_eq_false (by omega)
  have HN := Lib.hid hn
  have HH := Lib.hid h
  have e9 : fewL L = L.all (fun r => decide (r.src.length ≤ 60)) := by unfold fewL; rw [decide_eq_true (by omega)]; rfl
  rw [e9]
  obtain ⟨ra, hra⟩ : ∃ ra, ra = L.all (fun r => decide (r.src.length ≤ 60)) := ⟨_, rfl⟩
  rw [← hra]
  have HRA := Lib.hid hra
  clear e9 hn h hc hra
  go_enter Try.func9, Try.ntmps9
  go_wp2_with fail
  go_loopw [3] (fun i wr => ∃ k : Nat, k ≤ n ∧ i = .int .i64 k ∧ Hid ((L.take k).all (fun r => decide (r.src.length ≤ 60)) = true) ∧ Hid (wr = w)) (fun i _ => n - (intOf i).toNat)
  case atStart => exact ⟨0, Nat.zero_le _, rfl, Lib.hid rfl, by first | trivial | exact Lib.hid rfl⟩
  case round =>
    obtain ⟨k, hk, rfl, hT, hW⟩ := hrel
    replace hW := hW.out
    subst hW
    by_cases hlt : k < n
    · obtain ⟨x, hx⟩ : ∃ x, L[k]? = some x := ⟨_, List.getElem?_eq_getElem (by rw [← HN.out]; exact hlt)⟩
      obtain ⟨b, off, rfl⟩ := HH.out.place (by omega)
      obtain ⟨⟨q, d, b', off', hv, hp, hcc⟩, -, h3⟩ := HH.out
      simp only [Value.slice.injEq] at hv
      obtain ⟨rfl, -, rfl⟩ := hv
      have e := hp (by rintro rfl; simp at hx)
      simp only [Option.some.injEq, Addr.mk.injEq, and_true] at e
      obtain ⟨rfl, rfl⟩ := e
      have x2 := hcc k x hx 2 x.srcv rfl
      have hX := Lib.hid hx
      have hr := h3 x (List.mem_of_getElem? hx)
      obtain ⟨rp, rc, hsv⟩ := hr.slice
      rw [hsv] at x2
      have TA := Lib.hid (show (L.take (k + 1)).all (fun r => decide (r.src.length ≤ 60)) = ((L.take k).all (fun r => decide (r.src.length ≤ 60)) && decide (x.src.length ≤ 60)) by
        rw [List.take_add_one, hx, List.all_append]; simp)
      have d2 : decide ((k : Int) < (n : Int)) = true := decide_eq_true (by omega)
      have d3 : decide (k < n) = true := decide_eq_true hlt
      clear hx hr h3 hcc hp hsv
      by_cases h60 : x.src.length ≤ 60
      · have d4 : decide ((60 : Int) < (x.src.length : Int)) = false := decide_eq_false (by omega)
        have TB := Lib.hid (decide_eq_true h60)
        clear h60
        go_wp2_with fail
        go_roundw
        case rel => exact ⟨k + 1, by omega, by go_num, Lib.hid (by rw [TA.out, hT.out, TB.out]; rfl), by first | trivial | exact Lib.hid rfl⟩
        case measure => simp [intOf]; omega
      · have d4 : decide ((60 : Int) < (x.src.length : Int)) = true := decide_eq_true (by omega)
        have e : L.all (fun r => decide (r.src.length ≤ 60)) = false := by
          rw [List.all_eq_false]
          exact ⟨x, List.mem_of_getElem? hX.out, by simpa using h60⟩
        obtain rfl : ra = false := HRA.out.trans e
        clear h60 e
        go_wp2_with fail
        go_ret
        exact ⟨rfl, Below.refl _ _⟩
    · obtain rfl : k = n := by omega
      have d2 : decide ((k : Int) < (k : Int)) = false := by simp
      have d3 : decide (k < k) = false := by simp
      rw [List.take_of_length_le (by rw [HN.out]; exact Nat.le_refl _)] at hT
      obtain rfl : ra = true := HRA.out.trans hT.out
      clear hlt
      go_wp2_with fail
      go_ret
      exact ⟨rfl, Below.refl _ _⟩
theorem fewL_iff (L : List StR) : fewL L = true ↔ L.length ≤ 10 ∧ ∀ r ∈ L, r.src.length ≤ 60 := by
  unfold fewL
  simp

theorem liveF (v1 v2 : Value) : mergeF (filsR [⟨false, 0, v1, [(⟨#[97]⟩, 9)]⟩, ⟨true, 9, v2, [(⟨#[97]⟩, 0), (⟨#[98]⟩, 0)]⟩] 5) = ⟨true, [⟨#[98]⟩]⟩ := by kernel_rfl
theorem liveM : mayP 1 ⟨#[224, 1, 2, 3]⟩ = true := by kernel_rfl
theorem liveT (u : Value) : tellR 9 [] 1 ⟨#[224, 1, 2, 3]⟩ ⟨true, [⟨#[98]⟩]⟩ u = ([⟨4, ⟨#[224, 1, 2, 3]⟩, [⟨#[98]⟩]⟩], 0, [⟨1, ⟨#[224, 1, 2, 3]⟩, ⟨true, [⟨#[98]⟩]⟩, u⟩]) := by kernel_rfl
theorem rows_blk {α : Type} {k : Nat} {cells : α → List Value} {w : World} {b : Nat} {xs : Array Value} {t : TypeId} {f : Nat × Nat} (h : w.heap[b]? = some (.cells xs t f)) (L : List α) (n : Nat) (hn : n = L.length)
    (hx : ∀ j x, L[j]? = some x → ∀ i u, (cells x)[i]? = some u → xs[j * k + i]? = some u) : RowsAt k cells w (.slice (some ⟨b, 0, none⟩) n n) L := by
  subst hn
  refine ⟨_, _, b, 0, rfl, fun _ => rfl, fun j x hj i u hu => ?_⟩
  rw [Nat.zero_add]
  exact cell_of_block h (hx j x hj i u hu)

theorem rec_kind {w : World} {v : Value} {r : Rec} (h : RecsAt w v [r]) : ∃ b o, (∃ c, v = .slice (some ⟨b, o, none⟩) 1 c) ∧ w.cell? ⟨b, o, none⟩ = some (.int .i64 r.kind) := by
  obtain ⟨p, cap, b, off, hv, hp, hc⟩ := h
  obtain ⟨rfl, -⟩ := hp (by simp)
  have := hc 0 r rfl
  exact ⟨b, off, ⟨cap, hv⟩, by simpa using this.1⟩
theorem ad_oneP (w : World) (s : ByteArray) (t : TypeId) : AddrsAt (w.alloc (.cells #[.string s] t)) (.slice (some ⟨w.heap.size, 0, none⟩) 1 1) [s] := by
  refine ⟨_, _, w.heap.size, 0, rfl, fun _ => ⟨rfl, Nat.zero_le _, fun h => by cases h⟩, fun j x hj => ?_⟩
  rw [Nat.zero_add]
  refine cell_of_block (heap_new w _) ?_
  rcases j with _ | j
  · simp at hj; subst hj; rfl
  · simp at hj

theorem live_four (w : World) : ((((w.alloc (.cells #[.string ⟨#[97]⟩, .int .i64 9] 65)).alloc (.cells #[.bool false, .int .i64 0, .slice (some ⟨w.heap.size, 0, none⟩) 1 1] 32)).alloc (.cells #[.string ⟨#[97]⟩, .int .i64 0, .string ⟨#[98]⟩, .int .i64 0] 65)).alloc (.cells #[.bool true, .int .i64 9, .slice (some ⟨w.heap.size + 1 + 1, 0, none⟩) 2 2] 32)).heap[w.heap.size]? = some (.cells #[.string ⟨#[97]⟩, .int .i64 9] 65 (0, 0)) ∧ ((((w.alloc (.cells #[.string ⟨#[97]⟩, .int .i64 9] 65)).alloc (.cells #[.bool false, .int .i64 0, .slice (some ⟨w.heap.size, 0, none⟩) 1 1] 32)).alloc (.cells #[.string ⟨#[97]⟩, .int .i64 0, .string ⟨#[98]⟩, .int .i64 0] 65)).alloc (.cells #[.bool true, .int .i64 9, .slice (some ⟨w.heap.size + 1 + 1, 0, none⟩) 2 2] 32)).heap[w.heap.size + 1]? = some (.cells #[.bool false, .int .i64 0, .slice (some ⟨w.heap.size, 0, none⟩) 1 1] 32 (0, 0)) ∧ ((((w.alloc (.cells #[.string ⟨#[97]⟩, .int .i64 9] 65)).alloc (.cells #[.bool false, .int .i64 0, .slice (some ⟨w.heap.size, 0, none⟩) 1 1] 32)).alloc (.cells #[.string ⟨#[97]⟩, .int .i64 0, .string ⟨#[98]⟩, .int .i64 0] 65)).alloc (.cells #[.bool true, .int .i64 9, .slice (some ⟨w.heap.size + 1 + 1, 0, none⟩) 2 2] 32)).heap[w.heap.size + 1 + 1]? = some (.cells #[.string ⟨#[97]⟩, .int .i64 0, .string ⟨#[98]⟩, .int .i64 0] 65 (0, 0)) ∧ ((((w.alloc (.cells #[.string ⟨#[97]⟩, .int .i64 9] 65)).alloc (.cells #[.bool false, .int .i64 0, .slice (some ⟨w.heap.size, 0, none⟩) 1 1] 32)).alloc (.cells #[.string ⟨#[97]⟩, .int .i64 0, .string ⟨#[98]⟩, .int .i64 0] 65)).alloc (.cells #[.bool true, .int .i64 9, .slice (some ⟨w.heap.size + 1 + 1, 0, none⟩) 2 2] 32)).heap[w.heap.size + 1 + 1 + 1]? = some (.cells #[.bool true, .int .i64 9, .slice (some ⟨w.heap.size + 1 + 1, 0, none⟩) 2 2] 32 (0, 0)) ∧ Below w.heap.size w ((((w.alloc (.cells #[.string ⟨#[97]⟩, .int .i64 9] 65)).alloc (.cells #[.bool false, .int .i64 0, .slice (some ⟨w.heap.size, 0, none⟩) 1 1] 32)).alloc (.cells #[.string ⟨#[97]⟩, .int .i64 0, .string ⟨#[98]⟩, .int .i64 0] 65)).alloc (.cells #[.bool true, .int .i64 9, .slice (some ⟨w.heap.size + 1 + 1, 0, none⟩) 2 2] 32)) :=
  ⟨heap_old (heap_old (heap_old (heap_new _ _))), heap_old (heap_old (hn _ _ (by simp) _)), heap_old (hn _ _ (by simp) _), hn _ _ (by simp) _, ((((Below.refl _ w).alloc (Nat.le_refl _) _).alloc (by simp) _).alloc (by simp; omega) _).alloc (by simp; omega) _⟩

set_option maxHeartbeats 8000000 in
set_option maxRecDepth 100000 in
theorem live21_c (w : World) : Calls Try.prog 10 #[] w fun e w' => e = .returned (.bool true) ∧ Below w.heap.size w w' := by
  have MC0 := (fun (U : World) q1 q2 p n c (h : StsAt U (.slice p n c) [⟨false, 0, q1, [(⟨#[97]⟩, 9)]⟩, ⟨true, 9, q2, [(⟨#[97]⟩, 0), (⟨#[98]⟩, 0)]⟩]) => by
    have := pmerge_c 2 _ p n c 5 U (by simp) (by simp) h
    rw [liveF] at this
    exact this : ∀ (U : World) q1 q2 p n c (h : StsAt U (.slice p n c) [⟨false, 0, q1, [(⟨#[97]⟩, 9)]⟩, ⟨true, 9, q2, [(⟨#[97]⟩, 0), (⟨#[98]⟩, 0)]⟩]), Calls Try.prog 14 #[.slice p n c, .int .i64 5] U (FPost ⟨true, [⟨#[98]⟩]⟩ U))
  unfold FPost at MC0
  have MC := Lib.hid MC0
  have NC := Lib.hid (fun U => pnew_ok 9 (by decide) (by decide) U)
  have TC0 := fun (U : World) (p mb : Nat) (vs : Value) (h : HasP U p mb 9 []) (ha : AddrsAt U vs [⟨#[98]⟩]) => ptell_c h (goodR_nil (by decide)) (by decide) (by decide) 1 ⟨#[224, 1, 2, 3]⟩ true vs [⟨#[98]⟩] (by decide) (fun s hs => by simp at hs; subst hs; decide) ha
  unfold TlPost at TC0
  simp only [liveT] at TC0
  have TC := Lib.hid TC0
  have GR := fun u : Value => (goodR_nil (room := 9) (by decide)).put (v := 1) (g := ⟨#[224, 1, 2, 3]⟩) (f := ⟨true, [⟨#[98]⟩]⟩) u liveM (by decide) (by decide) (Or.inr (by decide))
  have e1 : ∀ u : Value, putR [] ⟨1, ⟨#[224, 1, 2, 3]⟩, normF ⟨true, [⟨#[98]⟩]⟩, u⟩ = [⟨1, ⟨#[224, 1, 2, 3]⟩, ⟨true, [⟨#[98]⟩]⟩, u⟩] := fun u => by kernel_rfl
  have e2 : ∀ u : Value, (ofR [⟨1, ⟨#[224, 1, 2, 3]⟩, ⟨true, [⟨#[98]⟩]⟩, u⟩] 1).map recR = [⟨2, ⟨#[224, 1, 2, 3]⟩, [⟨#[98]⟩]⟩] := fun u => by kernel_rfl
  have e3 : ∀ u : Value, (ofR [⟨1, ⟨#[224, 1, 2, 3]⟩, ⟨true, [⟨#[98]⟩]⟩, u⟩] 1).length = 1 := fun u => by kernel_rfl
  simp only [e1] at GR
  have AC0 := fun (U : World) (p mb : Nat) u (h : HasP U p mb 9 [⟨1, ⟨#[224, 1, 2, 3]⟩, ⟨true, [⟨#[98]⟩]⟩, u⟩]) => pall_c h (GR u) (by decide) 1
  simp only [e2] at AC0
  have AC := Lib.hid AC0
  have FC0 := fun (U : World) (p mb : Nat) u (h : HasP U p mb 9 [⟨1, ⟨#[224, 1, 2, 3]⟩, ⟨true, [⟨#[98]⟩]⟩, u⟩]) => pfor_c h (GR u) (by decide) 1
  simp only [e3] at FC0
  have FC := Lib.hid FC0
  have SC := Lib.hid (fun (U : World) v1 v2 (h1 : AddrsAt U v1 [⟨#[98]⟩]) (h2 : AddrsAt U v2 [⟨#[98]⟩]) => samep_c true v1 v2 [⟨#[98]⟩] U (by decide) h1 h2)
  clear MC0 TC0 GR e1 e2 e3 AC0 FC0
  go_enter Try.func10, Try.ntmps10
  go_upto_region 3 with fail
  obtain ⟨b1, b2, b3, b4, kb⟩ := live_four w
  generalize (((w.alloc (.cells #[.string ⟨#[97]⟩, .int .i64 9] 65)).alloc (.cells #[.bool false, .int .i64 0, .slice (some ⟨w.heap.size, 0, none⟩) 1 1] 32)).alloc (.cells #[.string ⟨#[97]⟩, .int .i64 0, .string ⟨#[98]⟩, .int .i64 0] 65)).alloc (.cells #[.bool true, .int .i64 9, .slice (some ⟨w.heap.size + 1 + 1, 0, none⟩) 2 2] 32) = W at b1 b2 b3 b4 kb ⊢
  have B1 := Lib.hid b1
  have B2 := Lib.hid b2
  have B3 := Lib.hid b3
  have B4 := Lib.hid b4
  have KB := Lib.hid kb
  clear b1 b2 b3 b4 kb
  have x0 := cell_of_block (j := 0) B2.out rfl
  have x1 := cell_of_block (j := 1) B2.out rfl
  have x2 := cell_of_block (j := 2) B2.out rfl
  have y0 := cell_of_block (j := 0) B4.out rfl
  have y1 := cell_of_block (j := 1) B4.out rfl
  have y2 := cell_of_block (j := 2) B4.out rfl
  go_wp2_with fail
  have KA := (Below.refl W.heap.size W).alloc (Nat.le_refl _) (.cells #[.bool false, .int .i64 0, .slice (some ⟨w.heap.size, 0, none⟩) 1 1, .bool true, .int .i64 9, .slice (some ⟨w.heap.size + 1 + 1, 0, none⟩) 2 2] 32)
  have HS : StsAt (W.alloc (.cells #[.bool false, .int .i64 0, .slice (some ⟨w.heap.size, 0, none⟩) 1 1, .bool true, .int .i64 9, .slice (some ⟨w.heap.size + 1 + 1, 0, none⟩) 2 2] 32)) (.slice (some ⟨W.heap.size, 0, none⟩) 2 2) [⟨false, 0, .slice (some ⟨w.heap.size, 0, none⟩) 1 1, [(⟨#[97]⟩, 9)]⟩, ⟨true, 9, .slice (some ⟨w.heap.size + 1 + 1, 0, none⟩) 2 2, [(⟨#[97]⟩, 0), (⟨#[98]⟩, 0)]⟩] := by
    refine ⟨rows_blk (heap_new W _) _ 2 rfl ?_, ?_, ?_⟩
    · intro j x hj i u hu
      rcases j with _ | _ | j
      · simp at hj; subst hj
        rcases i with _ | _ | _ | i <;> simp [cellsStR] at hu <;> subst hu <;> rfl
      · simp at hj; subst hj
        rcases i with _ | _ | _ | i <;> simp [cellsStR] at hu <;> subst hu <;> rfl
      · simp at hj
    · intro p n c e
      simp only [Value.slice.injEq] at e
      obtain ⟨-, rfl, rfl⟩ := e
      exact Nat.le_refl _
    · intro r hr
      simp at hr
      rcases hr with rfl | rfl
      · refine ⟨(rows_blk B1.out _ 1 rfl ?_ : RowsAt 2 cellsTm W _ _).below KA, by simp⟩
        intro j x hj i u hu
        rcases j with _ | j
        · simp at hj; subst hj
          rcases i with _ | _ | i <;> simp [cellsTm] at hu <;> subst hu <;> rfl
        · simp at hj
      · refine ⟨(rows_blk B3.out _ 2 rfl ?_ : RowsAt 2 cellsTm W _ _).below KA, by simp⟩
        intro j x hj i u hu
        rcases j with _ | _ | j
        · simp at hj; subst hj
          rcases i with _ | _ | i <;> simp [cellsTm] at hu <;> subst hu <;> rfl
        · simp at hj; subst hj
          rcases i with _ | _ | i <;> simp [cellsTm] at hu <;> subst hu <;> rfl
        · simp at hj
  ((with_reducible refine (MC.out _ _ _ _ _ _ HS).mono ?_); rintro e w1 ⟨vf, rfl, af, k1⟩)
  have K1 := Lib.hid (px_call (px_call KB.out KA) k1)
  have AF := Lib.hid (show AddrsAt w1 _ [⟨#[98]⟩] from af.at)
  obtain ⟨fq, fc, rfl⟩ := af.slice
  change Hid (AddrsAt w1 (.slice fq 1 fc) [⟨#[98]⟩]) at AF
  clear af k1 KA HS x0 x1 x2 y0 y1 y2 B1 B2 B3 B4 KB MC
  go_upto_region 4 with fail
  have F1 := Lib.hid (heap_new w1 (.cells #[.bool true, .slice fq 1 fc] 28))
  have KA := (Below.refl w1.heap.size w1).alloc (Nat.le_refl _) (.cells #[.bool true, .slice fq 1 fc] 28)
  have K2 := Lib.hid (px_call K1.out KA)
  have A2 := Lib.hid (AF.out.below KA)
  clear AF K1 KA
  generalize w1.alloc (.cells #[.bool true, .slice fq 1 fc] 28) = W2 at F1 K2 A2 ⊢
  generalize w1.heap.size = fb at F1 ⊢
  go_wp2_with fail
  ((with_reducible refine (NC.out _).mono ?_); rintro e w3 ⟨rfl, h3, k3⟩)
  have H3 := Lib.hid h3
  have F3 := Lib.hid (below_block k3 (lt_of_block F1.out) F1.out)
  have A3 := Lib.hid (A2.out.below k3)
  have K3 := Lib.hid (px_call K2.out k3)
  have PW := Lib.hid K2.out.size
  clear h3 k3 F1 A2 K2 NC
  obtain ⟨p, hp⟩ : ∃ p, p = W2.heap.size + 1 := ⟨_, rfl⟩
  obtain ⟨mb, hmb⟩ : ∃ p, p = W2.heap.size := ⟨_, rfl⟩
  rw [← hp, ← hmb] at H3
  rw [← hp]
  have HMB := Lib.hid hmb
  clear hp hmb
  have x0 := cell_of_block (j := 0) F3.out rfl
  have x1 := cell_of_block (j := 1) F3.out rfl
  go_wp2_with fail
  ((with_reducible refine (TC.out _ _ _ _ H3.out A3.out).mono ?_); rintro e w4 ⟨u, r, rfl, r4, h4, t4⟩)
  have H4 := Lib.hid h4
  have NS := Lib.hid H3.out.noStr
  have A4 := Lib.hid (A3.out.tws t4 (fun b hb => by subst hb; exact NS.out))
  have F4 := Lib.hid (t4.blk F3.out (H3.out.neB F3.out))
  have K4 := Lib.hid (K3.out.trans (t4.below (B := w.heap.size) (fun b hb => by have h8 : b = mb := hb; have := HMB.out; have := PW.out; omega) K3.out.size))
  have R4 := Lib.hid r4
  obtain ⟨rq, rc, rfl⟩ := r4.slice
  clear r4 h4 t4 x0 x1 H3 A3 F3 K3 NS TC
  go_wp2_with fail
  ((with_reducible refine (AC.out _ _ _ _ H4.out).mono ?_); rintro e w5 ⟨m, rfl, r5, k5⟩)
  have H5 := Lib.hid (H4.out.below k5)
  have F5 := Lib.hid (below_block k5 (lt_of_block F4.out) F4.out)
  have A5 := Lib.hid (A4.out.below k5)
  have K5 := Lib.hid (px_call K4.out k5)
  have R5 := Lib.hid (R4.out.below k5)
  have r6 := r5.recs
  have M5 := Lib.hid r6
  obtain ⟨mq, mc, rfl⟩ := r6.slice
  clear r5 r6 k5 H4 F4 A4 K4 R4 AC
  obtain ⟨rb, ro, ⟨rcc, hrq⟩, hrk⟩ := rec_kind R5.out
  obtain ⟨nb, no, ⟨mcc, hmq⟩, hmk⟩ := rec_kind M5.out
  simp only [Value.slice.injEq] at hrq hmq
  obtain ⟨rfl, -, -⟩ := hrq
  obtain ⟨rfl, -, -⟩ := hmq
  have HRK := Lib.hid hrk
  have HMK := Lib.hid hmk
  clear hrk hmk R5 M5
  go_upto_region 9 with fail
  have y0 := cell_of_block (j := 0) F5.out rfl
  have y1 := cell_of_block (j := 1) F5.out rfl
  have ND := Lib.hid (ad_oneP w5 ⟨#[98]⟩ 35)
  have KA := (Below.refl w5.heap.size w5).alloc (Nat.le_refl _) (.cells #[.string ⟨#[98]⟩] 35)
  have A6 := Lib.hid (A5.out.below KA)
  have H6 := Lib.hid (H5.out.below KA)
  have HRK6 := Lib.hid (cell_below KA HRK.out)
  have HMK6 := Lib.hid (cell_below KA HMK.out)
  have K6 := Lib.hid (px_call K5.out KA)
  clear KA
  go_wp2_with fail
  ((with_reducible refine (SC.out _ _ _ A6.out ND.out).mono ?_); rintro e w7 ⟨rfl, k7⟩)
  have H7 := Lib.hid (H6.out.below k7)
  have K7 := Lib.hid (px_call K6.out k7)
  have z0 := cell_below k7 HRK6.out
  have z1 := cell_below k7 HMK6.out
  clear k7 H6 K6 HRK6 HMK6 A6 ND y0 y1 H5 K5 A5 F5 HRK HMK SC
  go_wp2_with fail
  ((with_reducible refine (FC.out _ _ _ _ H7.out).mono ?_); rintro e w8 ⟨rfl, h8, t8⟩)
  have K8 := Lib.hid (K7.out.trans (t8.below (B := w.heap.size) (fun b hb => by have h8 : b = mb := hb; have := HMB.out; have := PW.out; omega) K7.out.size))
  clear h8 t8 H7 K7 z0 z1
  go_wp2_with fail
  go_ret
  exact ⟨rfl, K8.out⟩
end Go.Proofs.Ythpafojeadbjlaa
