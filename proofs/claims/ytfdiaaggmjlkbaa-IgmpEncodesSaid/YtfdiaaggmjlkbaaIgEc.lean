/-
  The bytes of messages, the document's answer: siphonref08.bytes, Encode. Contracts over the translated program.
-/
import Derived.Test.YtfdiaaggmjlkbaaIgEb
import Derived.Test.YtfdiaaggmjlkbaaRFill
namespace Go.Proofs.Ytfdiaaggmjlkbaa
open Go.RowKit
set_option linter.unusedVariables false

theorem bapp (a b : ByteArray) : (a ++ b).data.toList = a.data.toList ++ b.data.toList := by simp [ByteArray.data_append]
theorem bext {a : ByteArray} {l : List UInt8} (h : a.data.toList = l) : a = ⟨l.toArray⟩ := ByteArray.ext (Array.toList_inj.1 (by rw [h]))
theorem put_is (n k : Nat) (h1 : 1 ≤ k) (h4 : k ≤ 4) (hn : n < 256 ^ k) {N : ByteArray} (h : (putSpec n k).1 = N) : N.data.toList = bytesOf n k ∧ N.size = k := by
  have e : N.data.toList = bytesOf n k := by rw [← h]; exact put_n n k h1 h4 hn
  refine ⟨e, ?_⟩
  have := congrArg List.length e
  rw [vlen, bytesOf_length] at this
  exact this

/-- A message's box behind w0's end, and its sources, while others make memory. -/
def KQ (w0 : World) (xs : Array Value) (vs : Value) (L : List ByteArray) (w : World) : Prop := Box w0 w xs 26 ∧ AddrsAt w vs L
theorem KQ.drew {w0 w : World} {xs : Array Value} {vs : Value} {L : List ByteArray} (h : KQ w0 xs vs L w) : KQ w0 xs vs L w.drew := ⟨⟨h.1.1, h.1.2.drew⟩, h.2⟩
theorem KQ.below {w0 w w' : World} {xs : Array Value} {vs : Value} {L : List ByteArray} (h : KQ w0 xs vs L w) (k : Below w.heap.size w w') : KQ w0 xs vs L w' := ⟨h.1.below k, h.2.below k⟩
theorem KQ.out {w0 w : World} {xs : Array Value} {vs : Value} {L : List ByteArray} (h : KQ w0 xs vs L w) : Below w0.heap.size w0 w := h.1.2
theorem of_kq (n k : Int) (X : ByteArray) (hX : (putSpec n k).1 = X) (n1 : -9223372036854775808 ≤ n) (n2 : n ≤ 9223372036854775807) (w0 : World) (xs : Array Value) (vs : Value) (L : List ByteArray) (w : World) (h7 : xs[7]? = some vs) (h : KQ w0 xs vs L w) :
    Calls Try.prog 45 #[.int .i64 n, .int .i64 k] w fun e w' => e = .returned (.string X) ∧ w'.cell? ⟨w0.heap.size, 7, none⟩ = some vs ∧ KQ w0 xs vs L w' :=
  (of_c n k w n1 n2).mono fun _ _ ⟨h1, h2⟩ => by
    have K := h.below h2
    exact ⟨by rw [h1, hX], K.1.cell 7 h7, K⟩
theorem join_kq (w0 : World) (xs : Array Value) (vs : Value) (L : List ByteArray) (hl : L.length ≤ 9223372036854775807) (hf : (flatL L).length ≤ 1000000) (w : World) (h7 : xs[7]? = some vs) (h : KQ w0 xs vs L w) :
    Calls Try.prog 47 #[vs] w fun e w' => e = .returned (.string ⟨(flatL L).toArray⟩) ∧ w'.cell? ⟨w0.heap.size, 7, none⟩ = some vs ∧ KQ w0 xs vs L w' :=
  (rjoin_c vs L w hl hf h.2).mono fun _ _ ⟨h1, h2⟩ => by
    subst h2
    exact ⟨h1, h.1.cell 7 h7, h⟩

set_option maxHeartbeats 1000000 in
set_option maxRecDepth 100000 in
theorem rbytes_qs (v : Int) (g : ByteArray) (M : Nat) (q : Bool) (rob ev : Int) (ps : Option Addr) (ns cs : Nat) (pr : Option Addr) (nr cr : Nat) (w : World) (hv : v < 3) (hM : M < 256) (hg : g.size ≤ 16) :
    Calls Try.prog 19 #[.agg #[.int .i64 1, .int .i64 v, .string g, .int .i64 (M : Int), .bool q, .int .i64 rob, .int .i64 ev, .slice ps ns cs, .slice pr nr cr]] w fun e w' => e = .returned (.string ⟨(qShortL M g).toArray⟩) ∧ Below w.heap.size w w' := by
  obtain ⟨N, hN⟩ : ∃ N, (putSpec (M : Int) 1).1 = N := ⟨_, rfl⟩
  obtain ⟨hNd, Nz⟩ := put_is M 1 (by omega) (by omega) (by omega) hN
  have HO := Lib.hid fun U => of_c (M : Int) 1 U (by omega) (by omega)
  rw [hN] at HO
  by_cases hz : g.size = 0
  · obtain rfl := bytes_empty hz
    obtain ⟨Y1, e1⟩ : ∃ Y : ByteArray, (⟨#[17]⟩ : ByteArray) ++ N = Y := ⟨_, rfl⟩
    have s1 : Y1.size = 1 + N.size := by rw [← e1, ByteArray.size_append]; rfl
    have n1 : ¬ (9223372036854775807 < 1 + N.size) := by omega
    obtain ⟨Y2, e2⟩ : ∃ Y : ByteArray, Y1 ++ (⟨#[0, 0]⟩ : ByteArray) = Y := ⟨_, rfl⟩
    have s2 : Y2.size = Y1.size + 2 := by rw [← e2, ByteArray.size_append]; rfl
    have n2 : ¬ (9223372036854775807 < Y1.size + 2) := by omega
    obtain ⟨Y3, e3⟩ : ∃ Y : ByteArray, Y2 ++ (⟨#[0, 0, 0, 0]⟩ : ByteArray) = Y := ⟨_, rfl⟩
    have s3 : Y3.size = Y2.size + 4 := by rw [← e3, ByteArray.size_append]; rfl
    have n3 : ¬ (9223372036854775807 < Y2.size + 4) := by omega
    have hJ := Lib.hid (show Y3 = ⟨(qShortL M ⟨#[]⟩).toArray⟩ from by
      apply bext
      rw [← e3, ← e2, ← e1, bapp, bapp, bapp, hNd]
      unfold qShortL
      rfl)
    have B0 := Lib.hid (Box.start w #[.int .i64 1, .int .i64 v, .string ⟨#[]⟩, .int .i64 (M : Int), .bool q, .int .i64 rob, .int .i64 ev, .slice ps ns cs, .slice pr nr cr] 26)
    clear hN hNd Nz s1 s2 s3 hg
    go_enter Try.func19, Try.ntmps19
    go_wp2_with fail
    ((with_reducible refine (HO.out _).mono ?_); rintro e w1 ⟨rfl, h1⟩)
    have B := Lib.hid (B0.out.below h1)
    clear h1
    go_wp2_with fail
    go_ret
    exact ⟨by rw [hJ.out]; rfl, B.out.2⟩
  · have t2 : g.toList.isEmpty = false := toList_ne _ hz
    have hgl : grpL g = g.data.toList := if_neg hz
    obtain ⟨Y1, e1⟩ : ∃ Y : ByteArray, (⟨#[17]⟩ : ByteArray) ++ N = Y := ⟨_, rfl⟩
    have s1 : Y1.size = 1 + N.size := by rw [← e1, ByteArray.size_append]; rfl
    have n1 : ¬ (9223372036854775807 < 1 + N.size) := by omega
    obtain ⟨Y2, e2⟩ : ∃ Y : ByteArray, Y1 ++ (⟨#[0, 0]⟩ : ByteArray) = Y := ⟨_, rfl⟩
    have s2 : Y2.size = Y1.size + 2 := by rw [← e2, ByteArray.size_append]; rfl
    have n2 : ¬ (9223372036854775807 < Y1.size + 2) := by omega
    obtain ⟨Y3, e3⟩ : ∃ Y : ByteArray, Y2 ++ g = Y := ⟨_, rfl⟩
    have s3 : Y3.size = Y2.size + g.size := by rw [← e3, ByteArray.size_append]
    have n3 : ¬ (9223372036854775807 < Y2.size + g.size) := by omega
    have hJ := Lib.hid (show Y3 = ⟨(qShortL M g).toArray⟩ from by
      apply bext
      rw [← e3, ← e2, ← e1, bapp, bapp, bapp, hNd]
      unfold qShortL
      rw [hgl]
      rfl)
    have B0 := Lib.hid (Box.start w #[.int .i64 1, .int .i64 v, .string g, .int .i64 (M : Int), .bool q, .int .i64 rob, .int .i64 ev, .slice ps ns cs, .slice pr nr cr] 26)
    clear hN hNd Nz s1 s2 s3 hz hg hgl
    go_enter Try.func19, Try.ntmps19
    go_wp2_with fail
    ((with_reducible refine (HO.out _).mono ?_); rintro e w1 ⟨rfl, h1⟩)
    have B := Lib.hid (B0.out.below h1)
    clear h1
    go_wp2_with fail
    go_ret
    exact ⟨by rw [hJ.out]; rfl, B.out.2⟩

set_option maxHeartbeats 1000000 in
set_option maxRecDepth 100000 in
theorem rbytes_one (k v : Int) (c : Nat) (g : ByteArray) (mx : Int) (q : Bool) (rob ev : Int) (ps : Option Addr) (ns cs : Nat) (pr : Option Addr) (nr cr : Nat) (w : World) (h : (k = 2 ∧ v = 1 ∧ c = 18) ∨ (k = 2 ∧ v = 2 ∧ c = 22) ∨ (k = 3 ∧ v = 2 ∧ c = 23)) (hg : g.size = 4) :
    Calls Try.prog 19 #[.agg #[.int .i64 k, .int .i64 v, .string g, .int .i64 mx, .bool q, .int .i64 rob, .int .i64 ev, .slice ps ns cs, .slice pr nr cr]] w fun e w' => e = .returned (.string ⟨(oneL c g).toArray⟩) ∧ Below w.heap.size w w' := by
  have t2 : g.toList.isEmpty = false := toList_ne _ (by omega)
  have HB := Lib.hid fun o => (Below.refl w.heap.size w).alloc (Nat.le_refl _) o
  have n1 : ¬ (9223372036854775807 < 4 + g.size) := by omega
  obtain ⟨Y1, e1⟩ : ∃ Y : ByteArray, (⟨#[UInt8.ofNat c, 0, 0, 0]⟩ : ByteArray) ++ g = Y := ⟨_, rfl⟩
  have hJ := Lib.hid (show Y1 = ⟨(oneL c g).toArray⟩ from by
    apply bext
    rw [← e1, bapp]
    unfold oneL
    rcases h with ⟨-, -, rfl⟩ | ⟨-, -, rfl⟩ | ⟨-, -, rfl⟩ <;> rfl)
  rcases h with ⟨rfl, rfl, rfl⟩ | ⟨rfl, rfl, rfl⟩ | ⟨rfl, rfl, rfl⟩
  · have e2 : (⟨#[18, 0, 0, 0]⟩ : ByteArray) ++ g = Y1 := e1
    clear e1 hg
    go_enter Try.func19, Try.ntmps19
    go_wp2_with fail
    go_ret
    exact ⟨by rw [hJ.out]; rfl, HB.out _⟩
  · have e2 : (⟨#[22, 0, 0, 0]⟩ : ByteArray) ++ g = Y1 := e1
    clear e1 hg
    go_enter Try.func19, Try.ntmps19
    go_wp2_with fail
    go_ret
    exact ⟨by rw [hJ.out]; rfl, HB.out _⟩
  · have e2 : (⟨#[23, 0, 0, 0]⟩ : ByteArray) ++ g = Y1 := e1
    clear e1 hg
    go_enter Try.func19, Try.ntmps19
    go_wp2_with fail
    go_ret
    exact ⟨by rw [hJ.out]; rfl, HB.out _⟩

set_option maxHeartbeats 1000000 in
set_option maxRecDepth 100000 in
theorem rbytes_rep (mx : Int) (q : Bool) (rob ev : Int) (ps : Option Addr) (ns cs : Nat) (pr : Option Addr) (cr : Nat) (L : List Rec) (w : World) (hL : L.length ≤ 30) (hr : ∀ r ∈ L, recB r 4 = true) (hs : ∀ r ∈ L, r.srcs.length ≤ 9223372036854775807) (ha : RecsAt w (.slice pr L.length cr) L) :
    Calls Try.prog 19 #[.agg #[.int .i64 2, .int .i64 3, .string ⟨#[]⟩, .int .i64 mx, .bool q, .int .i64 rob, .int .i64 ev, .slice ps ns cs, .slice pr L.length cr]] w fun e w' => e = .returned (.string ⟨(repL L).toArray⟩) ∧ Below w.heap.size w w' := by
  have hb : bodyI L 4 = (0, ⟨(L.flatMap recL).toArray⟩) := by
    unfold bodyI
    rw [if_neg (by rw [show sizeB 4 = true from rfl]; simp; omega), if_pos (by rw [List.all_eq_true]; exact hr)]
  have hlen := recs_len 4 (by omega) L hr
  obtain ⟨FB, hFB⟩ : ∃ FB : ByteArray, ⟨(L.flatMap recL).toArray⟩ = FB := ⟨_, rfl⟩
  have Fd : FB.data.toList = L.flatMap recL := by rw [← hFB]
  have Fz : FB.size ≤ 30000 := by rw [← vlen, Fd]; omega
  obtain ⟨N, hN⟩ : ∃ N, (putSpec (L.length : Int) 2).1 = N := ⟨_, rfl⟩
  obtain ⟨hNd, Nz⟩ := put_is L.length 2 (by omega) (by omega) (by omega) hN
  have HO := Lib.hid fun U => of_c (L.length : Int) 2 U (by omega) (by omega)
  rw [hN] at HO
  have HY := Lib.hid fun U (h : RecsAt U (.slice pr L.length cr) L) => rbody_c (.slice pr L.length cr) L 4 U (by omega) hs h
  unfold BodyPost at HY
  rw [hb, hFB] at HY
  obtain ⟨Y1, e1⟩ : ∃ Y : ByteArray, (⟨#[34, 0, 0, 0, 0, 0]⟩ : ByteArray) ++ N = Y := ⟨_, rfl⟩
  have s1 : Y1.size = 6 + N.size := by rw [← e1, ByteArray.size_append]; rfl
  have n1 : ¬ (9223372036854775807 < 6 + N.size) := by omega
  obtain ⟨Y2, e2⟩ : ∃ Y : ByteArray, Y1 ++ FB = Y := ⟨_, rfl⟩
  have s2 : Y2.size = Y1.size + FB.size := by rw [← e2, ByteArray.size_append]
  have n2 : ¬ (9223372036854775807 < Y1.size + FB.size) := by omega
  have hJ := Lib.hid (show Y2 = ⟨(repL L).toArray⟩ from by
    apply bext
    rw [← e2, ← e1, bapp, bapp, hNd, Fd]
    rfl)
  have B0 := Lib.hid (Box.start w #[.int .i64 2, .int .i64 3, .string ⟨#[]⟩, .int .i64 mx, .bool q, .int .i64 rob, .int .i64 ev, .slice ps ns cs, .slice pr L.length cr] 26)
  have A1 := ha.below B0.out.2
  clear hb hlen hFB Fd Fz hN hNd Nz s1 s2 hs hr hL ha
  go_enter Try.func19, Try.ntmps19
  go_wp2_with fail
  ((with_reducible refine (HY.out _ A1).mono ?_); rintro e w1 ⟨rfl, h1⟩)
  have B := Lib.hid (B0.out.below h1)
  clear h1 A1
  have c8 := B.out.cell 8 rfl
  go_wp2_with fail
  ((with_reducible refine (HO.out _).mono ?_); rintro e w2 ⟨rfl, h2⟩)
  replace B := Lib.hid (B.out.below h2)
  clear h2
  go_wp2_with fail
  go_ret
  exact ⟨by rw [hJ.out]; rfl, B.out.2⟩

theorem flag_lt (q : Bool) (R : Nat) (h : R < 8) : flagN q R < 16 := by cases q <;> simp [flagN] <;> omega
theorem wrap8 (R : Nat) (h : R < 8) : wrap64 ((R : Int) + 8) = ((R + 8 : Nat) : Int) := by unfold wrap64; omega

set_option maxHeartbeats 4000000 in
set_option maxRecDepth 100000 in
theorem rbytes_q3 (g : ByteArray) (mx : Int) (q : Bool) (R : Nat) (ev : Int) (ps : Option Addr) (cs : Nat) (ss : List ByteArray) (pr : Option Addr) (nr cr : Nat) (M C : Nat) (w : World) (hR : R < 8) (hM : M < 256) (hC : C < 256) (hm : encI 4 mx = ((M : Int), 0)) (he : encI 4 ev = ((C : Int), 0)) (hg : g.size ≤ 16) (hs : srcsB ss 4 = true) (ha : AddrsAt w (.slice ps ss.length cs) ss) :
    Calls Try.prog 19 #[.agg #[.int .i64 1, .int .i64 3, .string g, .int .i64 mx, .bool q, .int .i64 (R : Int), .int .i64 ev, .slice ps ss.length cs, .slice pr nr cr]] w fun e w' => e = .returned (.string ⟨(qLongL M g q R C ss).toArray⟩) ∧ Below w.heap.size w w' := by
  obtain ⟨hf, hss⟩ := srcs_flat ss 4 hs (by omega)
  have hfl := flag_lt q R hR
  obtain ⟨fl, hfn⟩ : ∃ fl, flagN q R = fl := ⟨_, rfl⟩
  rw [hfn] at hfl
  have HX := Lib.hid fun U => renc8_c mx U
  have HY := Lib.hid fun U => renc8_c ev U
  rw [hm] at HX
  rw [he] at HY
  obtain ⟨N1, hN1⟩ : ∃ N, (putSpec (M : Int) 1).1 = N := ⟨_, rfl⟩
  obtain ⟨d1, z1⟩ := put_is M 1 (by omega) (by omega) (by omega) hN1
  obtain ⟨N2, hN2⟩ : ∃ N, (putSpec (fl : Int) 1).1 = N := ⟨_, rfl⟩
  obtain ⟨d2, z2⟩ := put_is fl 1 (by omega) (by omega) (by omega) hN2
  obtain ⟨N3, hN3⟩ : ∃ N, (putSpec (C : Int) 1).1 = N := ⟨_, rfl⟩
  obtain ⟨d3, z3⟩ := put_is C 1 (by omega) (by omega) (by omega) hN3
  obtain ⟨N4, hN4⟩ : ∃ N, (putSpec (ss.length : Int) 2).1 = N := ⟨_, rfl⟩
  obtain ⟨d4, z4⟩ := put_is ss.length 2 (by omega) (by omega) (by omega) hN4
  by_cases hz : g.size = 0
  · obtain rfl := bytes_empty hz
    cases q
    · have K1 := Lib.hid fun U h => of_kq (M : Int) 1 N1 hN1 (by omega) (by omega) w #[.int .i64 1, .int .i64 3, .string ⟨#[]⟩, .int .i64 mx, .bool false, .int .i64 (R : Int), .int .i64 ev, .slice ps ss.length cs, .slice pr nr cr] (.slice ps ss.length cs) ss U rfl h
      have K2 := Lib.hid fun U h => of_kq (fl : Int) 1 N2 hN2 (by omega) (by omega) w #[.int .i64 1, .int .i64 3, .string ⟨#[]⟩, .int .i64 mx, .bool false, .int .i64 (R : Int), .int .i64 ev, .slice ps ss.length cs, .slice pr nr cr] (.slice ps ss.length cs) ss U rfl h
      have K3 := Lib.hid fun U h => of_kq (C : Int) 1 N3 hN3 (by omega) (by omega) w #[.int .i64 1, .int .i64 3, .string ⟨#[]⟩, .int .i64 mx, .bool false, .int .i64 (R : Int), .int .i64 ev, .slice ps ss.length cs, .slice pr nr cr] (.slice ps ss.length cs) ss U rfl h
      have K4 := Lib.hid fun U h => of_kq (ss.length : Int) 2 N4 hN4 (by omega) (by omega) w #[.int .i64 1, .int .i64 3, .string ⟨#[]⟩, .int .i64 mx, .bool false, .int .i64 (R : Int), .int .i64 ev, .slice ps ss.length cs, .slice pr nr cr] (.slice ps ss.length cs) ss U rfl h
      have K5 := Lib.hid fun U h => join_kq w #[.int .i64 1, .int .i64 3, .string ⟨#[]⟩, .int .i64 mx, .bool false, .int .i64 (R : Int), .int .i64 ev, .slice ps ss.length cs, .slice pr nr cr] (.slice ps ss.length cs) ss (by omega) (by omega) U rfl h
      obtain ⟨FJ, hFJ⟩ : ∃ FJ : ByteArray, (⟨(flatL ss).toArray⟩ : ByteArray) = FJ := ⟨_, rfl⟩
      have Fd : FJ.data.toList = flatL ss := by rw [← hFJ]
      have Fz : FJ.size ≤ 960 := by rw [← vlen, Fd]; omega
      rw [hFJ] at K5
      obtain ⟨Y1, e1⟩ : ∃ Y : ByteArray, (⟨#[17]⟩ : ByteArray) ++ N1 = Y := ⟨_, rfl⟩
      have s1 : Y1.size = 1 + N1.size := by rw [← e1, ByteArray.size_append]; rfl
      have n1 : ¬ (9223372036854775807 < 1 + N1.size) := by omega
      obtain ⟨Y2, e2⟩ : ∃ Y : ByteArray, Y1 ++ (⟨#[0, 0]⟩ : ByteArray) = Y := ⟨_, rfl⟩
      have s2 : Y2.size = Y1.size + 2 := by rw [← e2, ByteArray.size_append]; rfl
      have n2 : ¬ (9223372036854775807 < Y1.size + 2) := by omega
      obtain ⟨Y3, e3⟩ : ∃ Y : ByteArray, Y2 ++ (⟨#[0, 0, 0, 0]⟩ : ByteArray) = Y := ⟨_, rfl⟩
      have s3 : Y3.size = Y2.size + 4 := by rw [← e3, ByteArray.size_append]; rfl
      have n3 : ¬ (9223372036854775807 < Y2.size + 4) := by omega
      obtain ⟨Y4, e4⟩ : ∃ Y : ByteArray, Y3 ++ N2 = Y := ⟨_, rfl⟩
      have s4 : Y4.size = Y3.size + N2.size := by rw [← e4, ByteArray.size_append]
      have n4 : ¬ (9223372036854775807 < Y3.size + N2.size) := by omega
      obtain ⟨Y5, e5⟩ : ∃ Y : ByteArray, Y4 ++ N3 = Y := ⟨_, rfl⟩
      have s5 : Y5.size = Y4.size + N3.size := by rw [← e5, ByteArray.size_append]
      have n5 : ¬ (9223372036854775807 < Y4.size + N3.size) := by omega
      obtain ⟨Y6, e6⟩ : ∃ Y : ByteArray, Y5 ++ N4 = Y := ⟨_, rfl⟩
      have s6 : Y6.size = Y5.size + N4.size := by rw [← e6, ByteArray.size_append]
      have n6 : ¬ (9223372036854775807 < Y5.size + N4.size) := by omega
      obtain ⟨Y7, e7⟩ : ∃ Y : ByteArray, Y6 ++ FJ = Y := ⟨_, rfl⟩
      have s7 : Y7.size = Y6.size + FJ.size := by rw [← e7, ByteArray.size_append]
      have n7 : ¬ (9223372036854775807 < Y6.size + FJ.size) := by omega
      have hJ := Lib.hid (show Y7 = ⟨(qLongL M ⟨#[]⟩ false R C ss).toArray⟩ from by
        apply bext
        rw [← e7, ← e6, ← e5, ← e4, ← e3, ← e2, ← e1, bapp, bapp, bapp, bapp, bapp, bapp, bapp, d1, d2, d3, d4, Fd]
        unfold qLongL
        rw [hfn]
        rfl)
      have B0 := Lib.hid (Box.start w #[.int .i64 1, .int .i64 3, .string ⟨#[]⟩, .int .i64 mx, .bool false, .int .i64 (R : Int), .int .i64 ev, .slice ps ss.length cs, .slice pr nr cr] 26)
      have A1 := ha.below B0.out.2
      have kq : KQ w #[.int .i64 1, .int .i64 3, .string ⟨#[]⟩, .int .i64 mx, .bool false, .int .i64 (R : Int), .int .i64 ev, .slice ps ss.length cs, .slice pr nr cr] (.slice ps ss.length cs) ss (w.alloc (.cells #[.int .i64 1, .int .i64 3, .string ⟨#[]⟩, .int .i64 mx, .bool false, .int .i64 (R : Int), .int .i64 ev, .slice ps ss.length cs, .slice pr nr cr] 26)) := ⟨B0.out, A1⟩
      have hfR : R = fl := hfn
      subst hfR
      clear A1 hf hss hfl hN1 d1 z1 hN2 d2 z2 hN3 d3 z3 hN4 d4 z4 Fd Fz hFJ hs ha hm he hg s1 s2 s3 s4 s5 s6 s7 hfn
      go_enter Try.func19, Try.ntmps19
      go_wp2_with fail
      ((with_reducible refine (HX.out _).mono ?_); rintro e w1 ⟨rfl, rfl⟩)
      go_wp2_with fail
      ((with_reducible refine (HY.out _).mono ?_); rintro e w2 ⟨rfl, rfl⟩)
      go_upto_region 12 with fail
      have c7 := B0.out.cell 7 rfl
      generalize (w.alloc _) = W at kq c7 ⊢
      go_region_held3 (fun w' => w'.cell? ⟨w.heap.size, 7, none⟩ = some (.slice ps ss.length cs) ∧ KQ w #[.int .i64 1, .int .i64 3, .string ⟨#[]⟩, .int .i64 mx, .bool false, .int .i64 (R : Int), .int .i64 ev, .slice ps ss.length cs, .slice pr nr cr] (.slice ps ss.length cs) ss w')
        (first | (refine ⟨?_, ?_⟩ <;> first | assumption | exact KQ.drew (by assumption) | (simp; done)))
        (first
          | (go_at_call 45; (with_reducible refine (K1.out _ ?_).mono ?_); (first | assumption | exact KQ.drew (by assumption)); rintro e w' ⟨rfl, e0, e9⟩)
          | (go_at_call 45; (with_reducible refine (K2.out _ ?_).mono ?_); (first | assumption | exact KQ.drew (by assumption)); rintro e w' ⟨rfl, e0, e9⟩)
          | (go_at_call 45; (with_reducible refine (K3.out _ ?_).mono ?_); (first | assumption | exact KQ.drew (by assumption)); rintro e w' ⟨rfl, e0, e9⟩)
          | (go_at_call 45; (with_reducible refine (K4.out _ ?_).mono ?_); (first | assumption | exact KQ.drew (by assumption)); rintro e w' ⟨rfl, e0, e9⟩)
          | (go_at_call 47; (with_reducible refine (K5.out _ ?_).mono ?_); (first | assumption | exact KQ.drew (by assumption)); rintro e w' ⟨rfl, e0, e9⟩))
      go_wp2_with fail
      go_ret
      exact ⟨by rw [hJ.out]; rfl, KQ.out (by assumption)⟩
    · have hf8 : ((R : Int) + 8) = (fl : Int) := by have : R + 8 = fl := hfn; omega
      rw [← hf8] at hN2
      have K1 := Lib.hid fun U h => of_kq (M : Int) 1 N1 hN1 (by omega) (by omega) w #[.int .i64 1, .int .i64 3, .string ⟨#[]⟩, .int .i64 mx, .bool true, .int .i64 (R : Int), .int .i64 ev, .slice ps ss.length cs, .slice pr nr cr] (.slice ps ss.length cs) ss U rfl h
      have K2 := Lib.hid fun U h => of_kq ((R : Int) + 8) 1 N2 hN2 (by omega) (by omega) w #[.int .i64 1, .int .i64 3, .string ⟨#[]⟩, .int .i64 mx, .bool true, .int .i64 (R : Int), .int .i64 ev, .slice ps ss.length cs, .slice pr nr cr] (.slice ps ss.length cs) ss U rfl h
      have K3 := Lib.hid fun U h => of_kq (C : Int) 1 N3 hN3 (by omega) (by omega) w #[.int .i64 1, .int .i64 3, .string ⟨#[]⟩, .int .i64 mx, .bool true, .int .i64 (R : Int), .int .i64 ev, .slice ps ss.length cs, .slice pr nr cr] (.slice ps ss.length cs) ss U rfl h
      have K4 := Lib.hid fun U h => of_kq (ss.length : Int) 2 N4 hN4 (by omega) (by omega) w #[.int .i64 1, .int .i64 3, .string ⟨#[]⟩, .int .i64 mx, .bool true, .int .i64 (R : Int), .int .i64 ev, .slice ps ss.length cs, .slice pr nr cr] (.slice ps ss.length cs) ss U rfl h
      have K5 := Lib.hid fun U h => join_kq w #[.int .i64 1, .int .i64 3, .string ⟨#[]⟩, .int .i64 mx, .bool true, .int .i64 (R : Int), .int .i64 ev, .slice ps ss.length cs, .slice pr nr cr] (.slice ps ss.length cs) ss (by omega) (by omega) U rfl h
      obtain ⟨FJ, hFJ⟩ : ∃ FJ : ByteArray, (⟨(flatL ss).toArray⟩ : ByteArray) = FJ := ⟨_, rfl⟩
      have Fd : FJ.data.toList = flatL ss := by rw [← hFJ]
      have Fz : FJ.size ≤ 960 := by rw [← vlen, Fd]; omega
      rw [hFJ] at K5
      obtain ⟨Y1, e1⟩ : ∃ Y : ByteArray, (⟨#[17]⟩ : ByteArray) ++ N1 = Y := ⟨_, rfl⟩
      have s1 : Y1.size = 1 + N1.size := by rw [← e1, ByteArray.size_append]; rfl
      have n1 : ¬ (9223372036854775807 < 1 + N1.size) := by omega
      obtain ⟨Y2, e2⟩ : ∃ Y : ByteArray, Y1 ++ (⟨#[0, 0]⟩ : ByteArray) = Y := ⟨_, rfl⟩
      have s2 : Y2.size = Y1.size + 2 := by rw [← e2, ByteArray.size_append]; rfl
      have n2 : ¬ (9223372036854775807 < Y1.size + 2) := by omega
      obtain ⟨Y3, e3⟩ : ∃ Y : ByteArray, Y2 ++ (⟨#[0, 0, 0, 0]⟩ : ByteArray) = Y := ⟨_, rfl⟩
      have s3 : Y3.size = Y2.size + 4 := by rw [← e3, ByteArray.size_append]; rfl
      have n3 : ¬ (9223372036854775807 < Y2.size + 4) := by omega
      obtain ⟨Y4, e4⟩ : ∃ Y : ByteArray, Y3 ++ N2 = Y := ⟨_, rfl⟩
      have s4 : Y4.size = Y3.size + N2.size := by rw [← e4, ByteArray.size_append]
      have n4 : ¬ (9223372036854775807 < Y3.size + N2.size) := by omega
      obtain ⟨Y5, e5⟩ : ∃ Y : ByteArray, Y4 ++ N3 = Y := ⟨_, rfl⟩
      have s5 : Y5.size = Y4.size + N3.size := by rw [← e5, ByteArray.size_append]
      have n5 : ¬ (9223372036854775807 < Y4.size + N3.size) := by omega
      obtain ⟨Y6, e6⟩ : ∃ Y : ByteArray, Y5 ++ N4 = Y := ⟨_, rfl⟩
      have s6 : Y6.size = Y5.size + N4.size := by rw [← e6, ByteArray.size_append]
      have n6 : ¬ (9223372036854775807 < Y5.size + N4.size) := by omega
      obtain ⟨Y7, e7⟩ : ∃ Y : ByteArray, Y6 ++ FJ = Y := ⟨_, rfl⟩
      have s7 : Y7.size = Y6.size + FJ.size := by rw [← e7, ByteArray.size_append]
      have n7 : ¬ (9223372036854775807 < Y6.size + FJ.size) := by omega
      have hJ := Lib.hid (show Y7 = ⟨(qLongL M ⟨#[]⟩ true R C ss).toArray⟩ from by
        apply bext
        rw [← e7, ← e6, ← e5, ← e4, ← e3, ← e2, ← e1, bapp, bapp, bapp, bapp, bapp, bapp, bapp, d1, d2, d3, d4, Fd]
        unfold qLongL
        rw [hfn]
        rfl)
      have B0 := Lib.hid (Box.start w #[.int .i64 1, .int .i64 3, .string ⟨#[]⟩, .int .i64 mx, .bool true, .int .i64 (R : Int), .int .i64 ev, .slice ps ss.length cs, .slice pr nr cr] 26)
      have A1 := ha.below B0.out.2
      have kq : KQ w #[.int .i64 1, .int .i64 3, .string ⟨#[]⟩, .int .i64 mx, .bool true, .int .i64 (R : Int), .int .i64 ev, .slice ps ss.length cs, .slice pr nr cr] (.slice ps ss.length cs) ss (w.alloc (.cells #[.int .i64 1, .int .i64 3, .string ⟨#[]⟩, .int .i64 mx, .bool true, .int .i64 (R : Int), .int .i64 ev, .slice ps ss.length cs, .slice pr nr cr] 26)) := ⟨B0.out, A1⟩
      have w8 : wrap64 ((R : Int) + 8) = (R : Int) + 8 := by unfold wrap64; omega
      clear hfn
      clear A1 hf hss hfl hN1 d1 z1 hN2 d2 z2 hN3 d3 z3 hN4 d4 z4 Fd Fz hFJ hs ha hm he hg s1 s2 s3 s4 s5 s6 s7 hf8
      go_enter Try.func19, Try.ntmps19
      go_wp2_with fail
      ((with_reducible refine (HX.out _).mono ?_); rintro e w1 ⟨rfl, rfl⟩)
      go_wp2_with fail
      ((with_reducible refine (HY.out _).mono ?_); rintro e w2 ⟨rfl, rfl⟩)
      go_upto_region 12 with fail
      have c7 := B0.out.cell 7 rfl
      generalize (w.alloc _) = W at kq c7 ⊢
      go_region_held3 (fun w' => w'.cell? ⟨w.heap.size, 7, none⟩ = some (.slice ps ss.length cs) ∧ KQ w #[.int .i64 1, .int .i64 3, .string ⟨#[]⟩, .int .i64 mx, .bool true, .int .i64 (R : Int), .int .i64 ev, .slice ps ss.length cs, .slice pr nr cr] (.slice ps ss.length cs) ss w')
        (first | (refine ⟨?_, ?_⟩ <;> first | assumption | exact KQ.drew (by assumption) | (simp; done)))
        (first
          | (go_at_call 45; (with_reducible refine (K1.out _ ?_).mono ?_); (first | assumption | exact KQ.drew (by assumption)); rintro e w' ⟨rfl, e0, e9⟩)
          | (go_at_call 45; (with_reducible refine (K2.out _ ?_).mono ?_); (first | assumption | exact KQ.drew (by assumption)); rintro e w' ⟨rfl, e0, e9⟩)
          | (go_at_call 45; (with_reducible refine (K3.out _ ?_).mono ?_); (first | assumption | exact KQ.drew (by assumption)); rintro e w' ⟨rfl, e0, e9⟩)
          | (go_at_call 45; (with_reducible refine (K4.out _ ?_).mono ?_); (first | assumption | exact KQ.drew (by assumption)); rintro e w' ⟨rfl, e0, e9⟩)
          | (go_at_call 47; (with_reducible refine (K5.out _ ?_).mono ?_); (first | assumption | exact KQ.drew (by assumption)); rintro e w' ⟨rfl, e0, e9⟩))
      go_wp2_with fail
      go_ret
      exact ⟨by rw [hJ.out]; rfl, KQ.out (by assumption)⟩
  · have t2 : g.toList.isEmpty = false := toList_ne _ hz
    have hgl : grpL g = g.data.toList := if_neg hz
    cases q
    · have K1 := Lib.hid fun U h => of_kq (M : Int) 1 N1 hN1 (by omega) (by omega) w #[.int .i64 1, .int .i64 3, .string g, .int .i64 mx, .bool false, .int .i64 (R : Int), .int .i64 ev, .slice ps ss.length cs, .slice pr nr cr] (.slice ps ss.length cs) ss U rfl h
      have K2 := Lib.hid fun U h => of_kq (fl : Int) 1 N2 hN2 (by omega) (by omega) w #[.int .i64 1, .int .i64 3, .string g, .int .i64 mx, .bool false, .int .i64 (R : Int), .int .i64 ev, .slice ps ss.length cs, .slice pr nr cr] (.slice ps ss.length cs) ss U rfl h
      have K3 := Lib.hid fun U h => of_kq (C : Int) 1 N3 hN3 (by omega) (by omega) w #[.int .i64 1, .int .i64 3, .string g, .int .i64 mx, .bool false, .int .i64 (R : Int), .int .i64 ev, .slice ps ss.length cs, .slice pr nr cr] (.slice ps ss.length cs) ss U rfl h
      have K4 := Lib.hid fun U h => of_kq (ss.length : Int) 2 N4 hN4 (by omega) (by omega) w #[.int .i64 1, .int .i64 3, .string g, .int .i64 mx, .bool false, .int .i64 (R : Int), .int .i64 ev, .slice ps ss.length cs, .slice pr nr cr] (.slice ps ss.length cs) ss U rfl h
      have K5 := Lib.hid fun U h => join_kq w #[.int .i64 1, .int .i64 3, .string g, .int .i64 mx, .bool false, .int .i64 (R : Int), .int .i64 ev, .slice ps ss.length cs, .slice pr nr cr] (.slice ps ss.length cs) ss (by omega) (by omega) U rfl h
      obtain ⟨FJ, hFJ⟩ : ∃ FJ : ByteArray, (⟨(flatL ss).toArray⟩ : ByteArray) = FJ := ⟨_, rfl⟩
      have Fd : FJ.data.toList = flatL ss := by rw [← hFJ]
      have Fz : FJ.size ≤ 960 := by rw [← vlen, Fd]; omega
      rw [hFJ] at K5
      obtain ⟨Y1, e1⟩ : ∃ Y : ByteArray, (⟨#[17]⟩ : ByteArray) ++ N1 = Y := ⟨_, rfl⟩
      have s1 : Y1.size = 1 + N1.size := by rw [← e1, ByteArray.size_append]; rfl
      have n1 : ¬ (9223372036854775807 < 1 + N1.size) := by omega
      obtain ⟨Y2, e2⟩ : ∃ Y : ByteArray, Y1 ++ (⟨#[0, 0]⟩ : ByteArray) = Y := ⟨_, rfl⟩
      have s2 : Y2.size = Y1.size + 2 := by rw [← e2, ByteArray.size_append]; rfl
      have n2 : ¬ (9223372036854775807 < Y1.size + 2) := by omega
      obtain ⟨Y3, e3⟩ : ∃ Y : ByteArray, Y2 ++ g = Y := ⟨_, rfl⟩
      have s3 : Y3.size = Y2.size + g.size := by rw [← e3, ByteArray.size_append]
      have n3 : ¬ (9223372036854775807 < Y2.size + g.size) := by omega
      obtain ⟨Y4, e4⟩ : ∃ Y : ByteArray, Y3 ++ N2 = Y := ⟨_, rfl⟩
      have s4 : Y4.size = Y3.size + N2.size := by rw [← e4, ByteArray.size_append]
      have n4 : ¬ (9223372036854775807 < Y3.size + N2.size) := by omega
      obtain ⟨Y5, e5⟩ : ∃ Y : ByteArray, Y4 ++ N3 = Y := ⟨_, rfl⟩
      have s5 : Y5.size = Y4.size + N3.size := by rw [← e5, ByteArray.size_append]
      have n5 : ¬ (9223372036854775807 < Y4.size + N3.size) := by omega
      obtain ⟨Y6, e6⟩ : ∃ Y : ByteArray, Y5 ++ N4 = Y := ⟨_, rfl⟩
      have s6 : Y6.size = Y5.size + N4.size := by rw [← e6, ByteArray.size_append]
      have n6 : ¬ (9223372036854775807 < Y5.size + N4.size) := by omega
      obtain ⟨Y7, e7⟩ : ∃ Y : ByteArray, Y6 ++ FJ = Y := ⟨_, rfl⟩
      have s7 : Y7.size = Y6.size + FJ.size := by rw [← e7, ByteArray.size_append]
      have n7 : ¬ (9223372036854775807 < Y6.size + FJ.size) := by omega
      have hJ := Lib.hid (show Y7 = ⟨(qLongL M g false R C ss).toArray⟩ from by
        apply bext
        rw [← e7, ← e6, ← e5, ← e4, ← e3, ← e2, ← e1, bapp, bapp, bapp, bapp, bapp, bapp, bapp, d1, d2, d3, d4, Fd]
        unfold qLongL
        rw [hfn, hgl]
        rfl)
      have B0 := Lib.hid (Box.start w #[.int .i64 1, .int .i64 3, .string g, .int .i64 mx, .bool false, .int .i64 (R : Int), .int .i64 ev, .slice ps ss.length cs, .slice pr nr cr] 26)
      have A1 := ha.below B0.out.2
      have kq : KQ w #[.int .i64 1, .int .i64 3, .string g, .int .i64 mx, .bool false, .int .i64 (R : Int), .int .i64 ev, .slice ps ss.length cs, .slice pr nr cr] (.slice ps ss.length cs) ss (w.alloc (.cells #[.int .i64 1, .int .i64 3, .string g, .int .i64 mx, .bool false, .int .i64 (R : Int), .int .i64 ev, .slice ps ss.length cs, .slice pr nr cr] 26)) := ⟨B0.out, A1⟩
      have hfR : R = fl := hfn
      subst hfR
      clear A1 hf hss hfl hN1 d1 z1 hN2 d2 z2 hN3 d3 z3 hN4 d4 z4 Fd Fz hFJ hs ha hm he hg s1 s2 s3 s4 s5 s6 s7 hz hgl hfn
      go_enter Try.func19, Try.ntmps19
      go_wp2_with fail
      ((with_reducible refine (HX.out _).mono ?_); rintro e w1 ⟨rfl, rfl⟩)
      go_wp2_with fail
      ((with_reducible refine (HY.out _).mono ?_); rintro e w2 ⟨rfl, rfl⟩)
      go_upto_region 12 with fail
      have c7 := B0.out.cell 7 rfl
      generalize (w.alloc _) = W at kq c7 ⊢
      go_region_held3 (fun w' => w'.cell? ⟨w.heap.size, 7, none⟩ = some (.slice ps ss.length cs) ∧ KQ w #[.int .i64 1, .int .i64 3, .string g, .int .i64 mx, .bool false, .int .i64 (R : Int), .int .i64 ev, .slice ps ss.length cs, .slice pr nr cr] (.slice ps ss.length cs) ss w')
        (first | (refine ⟨?_, ?_⟩ <;> first | assumption | exact KQ.drew (by assumption) | (simp; done)))
        (first
          | (go_at_call 45; (with_reducible refine (K1.out _ ?_).mono ?_); (first | assumption | exact KQ.drew (by assumption)); rintro e w' ⟨rfl, e0, e9⟩)
          | (go_at_call 45; (with_reducible refine (K2.out _ ?_).mono ?_); (first | assumption | exact KQ.drew (by assumption)); rintro e w' ⟨rfl, e0, e9⟩)
          | (go_at_call 45; (with_reducible refine (K3.out _ ?_).mono ?_); (first | assumption | exact KQ.drew (by assumption)); rintro e w' ⟨rfl, e0, e9⟩)
          | (go_at_call 45; (with_reducible refine (K4.out _ ?_).mono ?_); (first | assumption | exact KQ.drew (by assumption)); rintro e w' ⟨rfl, e0, e9⟩)
          | (go_at_call 47; (with_reducible refine (K5.out _ ?_).mono ?_); (first | assumption | exact KQ.drew (by assumption)); rintro e w' ⟨rfl, e0, e9⟩))
      go_wp2_with fail
      go_ret
      exact ⟨by rw [hJ.out]; rfl, KQ.out (by assumption)⟩
    · have hf8 : ((R : Int) + 8) = (fl : Int) := by have : R + 8 = fl := hfn; omega
      rw [← hf8] at hN2
      have K1 := Lib.hid fun U h => of_kq (M : Int) 1 N1 hN1 (by omega) (by omega) w #[.int .i64 1, .int .i64 3, .string g, .int .i64 mx, .bool true, .int .i64 (R : Int), .int .i64 ev, .slice ps ss.length cs, .slice pr nr cr] (.slice ps ss.length cs) ss U rfl h
      have K2 := Lib.hid fun U h => of_kq ((R : Int) + 8) 1 N2 hN2 (by omega) (by omega) w #[.int .i64 1, .int .i64 3, .string g, .int .i64 mx, .bool true, .int .i64 (R : Int), .int .i64 ev, .slice ps ss.length cs, .slice pr nr cr] (.slice ps ss.length cs) ss U rfl h
      have K3 := Lib.hid fun U h => of_kq (C : Int) 1 N3 hN3 (by omega) (by omega) w #[.int .i64 1, .int .i64 3, .string g, .int .i64 mx, .bool true, .int .i64 (R : Int), .int .i64 ev, .slice ps ss.length cs, .slice pr nr cr] (.slice ps ss.length cs) ss U rfl h
      have K4 := Lib.hid fun U h => of_kq (ss.length : Int) 2 N4 hN4 (by omega) (by omega) w #[.int .i64 1, .int .i64 3, .string g, .int .i64 mx, .bool true, .int .i64 (R : Int), .int .i64 ev, .slice ps ss.length cs, .slice pr nr cr] (.slice ps ss.length cs) ss U rfl h
      have K5 := Lib.hid fun U h => join_kq w #[.int .i64 1, .int .i64 3, .string g, .int .i64 mx, .bool true, .int .i64 (R : Int), .int .i64 ev, .slice ps ss.length cs, .slice pr nr cr] (.slice ps ss.length cs) ss (by omega) (by omega) U rfl h
      obtain ⟨FJ, hFJ⟩ : ∃ FJ : ByteArray, (⟨(flatL ss).toArray⟩ : ByteArray) = FJ := ⟨_, rfl⟩
      have Fd : FJ.data.toList = flatL ss := by rw [← hFJ]
      have Fz : FJ.size ≤ 960 := by rw [← vlen, Fd]; omega
      rw [hFJ] at K5
      obtain ⟨Y1, e1⟩ : ∃ Y : ByteArray, (⟨#[17]⟩ : ByteArray) ++ N1 = Y := ⟨_, rfl⟩
      have s1 : Y1.size = 1 + N1.size := by rw [← e1, ByteArray.size_append]; rfl
      have n1 : ¬ (9223372036854775807 < 1 + N1.size) := by omega
      obtain ⟨Y2, e2⟩ : ∃ Y : ByteArray, Y1 ++ (⟨#[0, 0]⟩ : ByteArray) = Y := ⟨_, rfl⟩
      have s2 : Y2.size = Y1.size + 2 := by rw [← e2, ByteArray.size_append]; rfl
      have n2 : ¬ (9223372036854775807 < Y1.size + 2) := by omega
      obtain ⟨Y3, e3⟩ : ∃ Y : ByteArray, Y2 ++ g = Y := ⟨_, rfl⟩
      have s3 : Y3.size = Y2.size + g.size := by rw [← e3, ByteArray.size_append]
      have n3 : ¬ (9223372036854775807 < Y2.size + g.size) := by omega
      obtain ⟨Y4, e4⟩ : ∃ Y : ByteArray, Y3 ++ N2 = Y := ⟨_, rfl⟩
      have s4 : Y4.size = Y3.size + N2.size := by rw [← e4, ByteArray.size_append]
      have n4 : ¬ (9223372036854775807 < Y3.size + N2.size) := by omega
      obtain ⟨Y5, e5⟩ : ∃ Y : ByteArray, Y4 ++ N3 = Y := ⟨_, rfl⟩
      have s5 : Y5.size = Y4.size + N3.size := by rw [← e5, ByteArray.size_append]
      have n5 : ¬ (9223372036854775807 < Y4.size + N3.size) := by omega
      obtain ⟨Y6, e6⟩ : ∃ Y : ByteArray, Y5 ++ N4 = Y := ⟨_, rfl⟩
      have s6 : Y6.size = Y5.size + N4.size := by rw [← e6, ByteArray.size_append]
      have n6 : ¬ (9223372036854775807 < Y5.size + N4.size) := by omega
      obtain ⟨Y7, e7⟩ : ∃ Y : ByteArray, Y6 ++ FJ = Y := ⟨_, rfl⟩
      have s7 : Y7.size = Y6.size + FJ.size := by rw [← e7, ByteArray.size_append]
      have n7 : ¬ (9223372036854775807 < Y6.size + FJ.size) := by omega
      have hJ := Lib.hid (show Y7 = ⟨(qLongL M g true R C ss).toArray⟩ from by
        apply bext
        rw [← e7, ← e6, ← e5, ← e4, ← e3, ← e2, ← e1, bapp, bapp, bapp, bapp, bapp, bapp, bapp, d1, d2, d3, d4, Fd]
        unfold qLongL
        rw [hfn, hgl]
        rfl)
      have B0 := Lib.hid (Box.start w #[.int .i64 1, .int .i64 3, .string g, .int .i64 mx, .bool true, .int .i64 (R : Int), .int .i64 ev, .slice ps ss.length cs, .slice pr nr cr] 26)
      have A1 := ha.below B0.out.2
      have kq : KQ w #[.int .i64 1, .int .i64 3, .string g, .int .i64 mx, .bool true, .int .i64 (R : Int), .int .i64 ev, .slice ps ss.length cs, .slice pr nr cr] (.slice ps ss.length cs) ss (w.alloc (.cells #[.int .i64 1, .int .i64 3, .string g, .int .i64 mx, .bool true, .int .i64 (R : Int), .int .i64 ev, .slice ps ss.length cs, .slice pr nr cr] 26)) := ⟨B0.out, A1⟩
      have w8 : wrap64 ((R : Int) + 8) = (R : Int) + 8 := by unfold wrap64; omega
      clear hfn
      clear A1 hf hss hfl hN1 d1 z1 hN2 d2 z2 hN3 d3 z3 hN4 d4 z4 Fd Fz hFJ hs ha hm he hg s1 s2 s3 s4 s5 s6 s7 hz hgl hf8
      go_enter Try.func19, Try.ntmps19
      go_wp2_with fail
      ((with_reducible refine (HX.out _).mono ?_); rintro e w1 ⟨rfl, rfl⟩)
      go_wp2_with fail
      ((with_reducible refine (HY.out _).mono ?_); rintro e w2 ⟨rfl, rfl⟩)
      go_upto_region 12 with fail
      have c7 := B0.out.cell 7 rfl
      generalize (w.alloc _) = W at kq c7 ⊢
      go_region_held3 (fun w' => w'.cell? ⟨w.heap.size, 7, none⟩ = some (.slice ps ss.length cs) ∧ KQ w #[.int .i64 1, .int .i64 3, .string g, .int .i64 mx, .bool true, .int .i64 (R : Int), .int .i64 ev, .slice ps ss.length cs, .slice pr nr cr] (.slice ps ss.length cs) ss w')
        (first | (refine ⟨?_, ?_⟩ <;> first | assumption | exact KQ.drew (by assumption) | (simp; done)))
        (first
          | (go_at_call 45; (with_reducible refine (K1.out _ ?_).mono ?_); (first | assumption | exact KQ.drew (by assumption)); rintro e w' ⟨rfl, e0, e9⟩)
          | (go_at_call 45; (with_reducible refine (K2.out _ ?_).mono ?_); (first | assumption | exact KQ.drew (by assumption)); rintro e w' ⟨rfl, e0, e9⟩)
          | (go_at_call 45; (with_reducible refine (K3.out _ ?_).mono ?_); (first | assumption | exact KQ.drew (by assumption)); rintro e w' ⟨rfl, e0, e9⟩)
          | (go_at_call 45; (with_reducible refine (K4.out _ ?_).mono ?_); (first | assumption | exact KQ.drew (by assumption)); rintro e w' ⟨rfl, e0, e9⟩)
          | (go_at_call 47; (with_reducible refine (K5.out _ ?_).mono ?_); (first | assumption | exact KQ.drew (by assumption)); rintro e w' ⟨rfl, e0, e9⟩))
      go_wp2_with fail
      go_ret
      exact ⟨by rw [hJ.out]; rfl, KQ.out (by assumption)⟩

/-- Its bytes, of every message that may be. -/
theorem rbytes_c (m : Msg) (vs vr : Value) (w : World) (hl : m.srcs.length ≤ 9223372036854775807) (hr : m.recs.length ≤ 9223372036854775807) (hs : ∀ r ∈ m.recs, r.srcs.length ≤ 9223372036854775807) (ha : AddrsAt w vs m.srcs) (hb : RecsAt w vr m.recs) (h : mayM m = true) :
    (msgL m).length ≤ 40000 ∧ Calls Try.prog 19 #[m.val vs vr] w fun e w' => e = .returned (.string ⟨(msgL m).toArray⟩) ∧ Below w.heap.size w w' := by
  obtain ⟨k, v, g, mx, q, rob, ev, ss, L⟩ := m
  simp only [Msg.val] at *
  obtain ⟨p7, c7, rfl⟩ := ha.slice
  obtain ⟨p8, c8, rfl⟩ := hb.slice
  unfold mayM at h
  unfold msgL
  simp only at h ⊢
  by_cases h1 : k = 1
  · subst h1
    have e1 : (1 : Int) = 1 := rfl
    rw [if_pos e1] at h ⊢
    obtain ⟨q1, q2, q3⟩ := query_parts h
    obtain ⟨g1, g2, g3⟩ := grp_len q2
    rcases q3 with ⟨v3, rfl, rfl, rfl, rfl, M, rfl, hM, hv⟩ | ⟨rfl, hsr, R, M, C, rfl, hR, hM, hC, e1, e2, e3, e4⟩
    · have e : qryL v g (M : Int) false 0 0 [] = qShortL M g := by unfold qryL; rw [if_neg v3, Int.toNat_natCast]
      rw [e]
      refine ⟨?_, rbytes_qs v g M false 0 0 p7 _ c7 p8 _ c8 w (by split at hv <;> omega) hM g2⟩
      unfold qShortL
      simp only [List.length_append, bytesOf_length, List.length_nil]
      omega
    · obtain ⟨f1, f2⟩ := srcs_flat ss 4 hsr (by omega)
      have e : qryL 3 g mx q (R : Int) ev ss = qLongL M g q R C ss := by unfold qryL; rw [if_pos rfl, e1, e2]; simp only [Int.toNat_natCast]
      rw [e]
      refine ⟨?_, rbytes_q3 g mx q R ev p7 c7 ss p8 _ c8 M C w hR hM hC e1 e2 g2 hsr ha⟩
      unfold qLongL
      simp only [List.length_append, bytesOf_length, List.length_nil]
      omega
  · rw [if_neg h1] at h ⊢
    by_cases h2 : k = 2 ∧ v = 3
    · obtain ⟨rfl, rfl⟩ := h2
      have e1 : (2 : Int) = 2 ∧ (3 : Int) = 3 := ⟨rfl, rfl⟩
      rw [if_pos e1] at h ⊢
      obtain ⟨rfl, hbb, rfl, rfl, rfl, rfl, h7⟩ := rep_parts h
      obtain ⟨hL, hrr⟩ := body_few hbb
      have hlen := recs_len 4 (by omega) L hrr
      refine ⟨?_, rbytes_rep 0 false 0 0 p7 _ c7 p8 c8 L w hL hrr hs hb⟩
      unfold repL
      rw [List.length_append, repHead_length]
      omega
    · rw [if_neg h2] at h ⊢
      by_cases h3 : k = 2 ∨ k = 3
      · rw [if_pos h3] at h
        obtain ⟨c, hc, hc2, hv, hg, h8, rfl, rfl, rfl, rfl, h7⟩ := one_parts h
        have hgz : g.size = 4 := by
          have hg2 := hg
          unfold grpB at hg2
          rw [Bool.and_eq_true, decide_eq_true_iff] at hg2
          omega
        have hcc : (k = 2 ∧ v = 1 ∧ c = 18) ∨ (k = 2 ∧ v = 2 ∧ c = 22) ∨ (k = 3 ∧ v = 2 ∧ c = 23) := by
          unfold oneB at hc
          split at hc
          · next hk => obtain ⟨e, -⟩ := Prod.mk.inj hc; omega
          · split at hc
            · next hk => obtain ⟨e, -⟩ := Prod.mk.inj hc; omega
            · split at hc
              · next hk => obtain ⟨e, -⟩ := Prod.mk.inj hc; omega
              · obtain ⟨-, e⟩ := Prod.mk.inj hc; exact absurd e (by simp)
        rw [hc]
        simp only [Int.toNat_natCast]
        refine ⟨?_, rbytes_one k v c g 0 false 0 0 p7 _ c7 p8 _ c8 w hcc hgz⟩
        have lg := vlen g
        unfold oneL
        simp only [List.length_append, bytesOf_length, List.length_nil]
        omega
      · rw [if_neg h3] at h
        exact absurd h (by simp)

set_option maxHeartbeats 1000000 in
set_option maxRecDepth 100000 in
/-- Encode, the document's answer, at every message. -/
theorem renc_c (m : Msg) (vs vr : Value) (w : World) (hl : m.srcs.length ≤ 9223372036854775807) (hr : m.recs.length ≤ 9223372036854775807) (hs : ∀ r ∈ m.recs, r.srcs.length ≤ 9223372036854775807) (ha : AddrsAt w vs m.srcs) (hb : RecsAt w vr m.recs) :
    Calls Try.prog 8 #[m.val vs vr] w fun e w' => e = .returned (.tuple #[.string (encM m).1, .int .i64 (encM m).2]) ∧ Below w.heap.size w w' := by
  have HM := Lib.hid fun U (h1 : AddrsAt U vs m.srcs) (h2 : RecsAt U vr m.recs) => rmay_c m vs vr U hl hr hs h1 h2
  have A1 := fun o => ha.below ((Below.refl w.heap.size w).alloc (Nat.le_refl _) o)
  have A2 := fun o => hb.below ((Below.refl w.heap.size w).alloc (Nat.le_refl _) o)
  rcases h : mayM m with _ | _
  · have V := Lib.hid (encM_no m h)
    rw [h] at HM
    obtain ⟨k, v, g, mx, q, rob, ev, ss, L⟩ := m
    simp only [Msg.val] at *
    obtain ⟨p7, c7, rfl⟩ := ha.slice
    obtain ⟨p8, c8, rfl⟩ := hb.slice
    have B0 := Lib.hid (Box.start w #[.int .i64 k, .int .i64 v, .string g, .int .i64 mx, .bool q, .int .i64 rob, .int .i64 ev, .slice p7 ss.length c7, .slice p8 L.length c8] 26)
    have A3 := ha.below B0.out.2
    have A4 := hb.below B0.out.2
    clear A1 A2
    go_enter Try.func8, Try.ntmps8
    go_wp2_with fail
    ((with_reducible refine (HM.out _ A3 A4).mono ?_); rintro e w1 ⟨rfl, h1⟩)
    have B := Lib.hid (B0.out.below h1)
    clear h1
    go_wp2_with fail
    go_ret2
    exact ⟨by rw [V.out]; rfl, B.out.2⟩
  · have hb2 := fun U h1 h2 => rbytes_c m vs vr U hl hr hs h1 h2 h
    have hlen := (hb2 w ha hb).1
    have HBy := Lib.hid fun U h1 h2 => (hb2 U h1 h2).2
    have V := Lib.hid (show encM m = ((fillSpec ⟨#[]⟩ ⟨(msgL m).toArray⟩ 2).1, 0) from if_pos h)
    have HFi := Lib.hid fun U => rfill_c ⟨#[]⟩ ⟨(msgL m).toArray⟩ 2 U (by decide) (by rw [ByteArray.size_mk', List.size_toArray]; omega)
    rw [h] at HM
    generalize (fillSpec ⟨#[]⟩ ⟨(msgL m).toArray⟩ 2).1 = F1 at *
    generalize (fillSpec ⟨#[]⟩ ⟨(msgL m).toArray⟩ 2).2 = F2 at *
    generalize (⟨(msgL m).toArray⟩ : ByteArray) = X at *
    generalize encM m = E at *
    clear hb2 hlen h
    obtain ⟨k, v, g, mx, q, rob, ev, ss, L⟩ := m
    simp only [Msg.val] at *
    obtain ⟨p7, c7, rfl⟩ := ha.slice
    obtain ⟨p8, c8, rfl⟩ := hb.slice
    have B0 := Lib.hid (Box.start w #[.int .i64 k, .int .i64 v, .string g, .int .i64 mx, .bool q, .int .i64 rob, .int .i64 ev, .slice p7 ss.length c7, .slice p8 L.length c8] 26)
    have A3 := ha.below B0.out.2
    have A4 := hb.below B0.out.2
    clear A1 A2
    go_enter Try.func8, Try.ntmps8
    go_wp2_with fail
    ((with_reducible refine (HM.out _ A3 A4).mono ?_); rintro e w1 ⟨rfl, h1⟩)
    have B := Lib.hid (B0.out.below h1)
    have A5 := A3.below h1
    have A6 := A4.below h1
    clear h1 A3 A4
    have b0 := B.out.cell 0 rfl
    have b1 := B.out.cell 1 rfl
    have b2 := B.out.cell 2 rfl
    have b3 := B.out.cell 3 rfl
    have b4 := B.out.cell 4 rfl
    have b5 := B.out.cell 5 rfl
    have b6 := B.out.cell 6 rfl
    have b7 := B.out.cell 7 rfl
    have b8 := B.out.cell 8 rfl
    go_wp2_with fail
    ((with_reducible refine (HBy.out _ A5 A6).mono ?_); rintro e w2 ⟨rfl, h2⟩)
    replace B := Lib.hid (B.out.below h2)
    clear h2 A5 A6 b0 b1 b2 b3 b4 b5 b6 b7 b8
    go_wp2_with fail
    ((with_reducible refine (HFi.out _).mono ?_); rintro e w3 ⟨rfl, h3⟩)
    replace B := Lib.hid (B.out.below h3)
    clear h3
    go_wp2_with fail
    go_ret2
    exact ⟨by rw [V.out]; rfl, B.out.2⟩

end Go.Proofs.Ytfdiaaggmjlkbaa
