/-
  The bytes of group messages of IPv6, the document's answer: siphonref09.bytes, Encode. Contracts over the translated program.
-/
import Derived.Test.YtniahpbjfpmmhaaGreatMdEa
import Derived.Test.YtniahpbjfpmmhaaGreatRFill
import Derived.Test.YtniahpbjfpmmhaaGreatRPseudo
import Derived.Deep.RegionHeld3
namespace Go.Proofs.YtniahpbjfpmmhaaGreat
open Go.RowKit
set_option linter.unusedVariables false
set_option linter.unusedSimpArgs false

theorem bapp9 (a b : ByteArray) : (a ++ b).data.toList = a.data.toList ++ b.data.toList := by simp [ByteArray.data_append]
theorem bext9 {a : ByteArray} {l : List UInt8} (h : a.data.toList = l) : a = ⟨l.toArray⟩ := ByteArray.ext (Array.toList_inj.1 (by rw [h]))
theorem put_is9 (n k : Nat) (h1 : 1 ≤ k) (h4 : k ≤ 4) (hn : n < 256 ^ k) {N : ByteArray} (h : (putSpec n k).1 = N) : N.data.toList = bytesOf n k ∧ N.size = k := by
  have e : N.data.toList = bytesOf n k := by rw [← h]; exact (put_yes n k h1 h4 hn).2
  refine ⟨e, ?_⟩
  have := congrArg List.length e
  rw [vlen, bytesOf_length] at this
  exact this
/-- A message's box behind w0's end, and its sources, while others make memory. -/
def K9 (w0 : World) (xs : Array Value) (vs : Value) (L : List ByteArray) (w : World) : Prop := Box w0 w xs 28 ∧ AddrsAt w vs L
theorem K9.drew {w0 w : World} {xs : Array Value} {vs : Value} {L : List ByteArray} (h : K9 w0 xs vs L w) : K9 w0 xs vs L w.drew := ⟨⟨h.1.1, h.1.2.drew⟩, h.2⟩
theorem K9.below {w0 w w' : World} {xs : Array Value} {vs : Value} {L : List ByteArray} (h : K9 w0 xs vs L w) (k : Below w.heap.size w w') : K9 w0 xs vs L w' := ⟨h.1.below k, h.2.below k⟩
theorem K9.out {w0 w : World} {xs : Array Value} {vs : Value} {L : List ByteArray} (h : K9 w0 xs vs L w) : Below w0.heap.size w0 w := h.1.2
theorem of_k9 (n k : Int) (X : ByteArray) (hX : (putSpec n k).1 = X) (n1 : -9223372036854775808 ≤ n) (n2 : n ≤ 9223372036854775807) (w0 : World) (xs : Array Value) (vs : Value) (L : List ByteArray) (w : World) (h7 : xs[7]? = some vs) (h : K9 w0 xs vs L w) :
    Calls Tryz.prog 34 #[.int .i64 n, .int .i64 k] w fun e w' => e = .returned (.string X) ∧ w'.cell? ⟨w0.heap.size, 7, none⟩ = some vs ∧ K9 w0 xs vs L w' :=
  (of_c n k w n1 n2).mono fun _ _ ⟨h1, h2⟩ => by
    have K := h.below h2
    exact ⟨by rw [h1, hX], K.1.cell 7 h7, K⟩
theorem join_k9 (w0 : World) (xs : Array Value) (vs : Value) (L : List ByteArray) (hl : L.length ≤ 9223372036854775807) (hf : (flatL L).length ≤ 1000000) (w : World) (h7 : xs[7]? = some vs) (h : K9 w0 xs vs L w) :
    Calls Tryz.prog 37 #[vs] w fun e w' => e = .returned (.string ⟨(flatL L).toArray⟩) ∧ w'.cell? ⟨w0.heap.size, 7, none⟩ = some vs ∧ K9 w0 xs vs L w' :=
  (rJoined_c vs L w hl hf h.2).mono fun _ _ ⟨h1, h2⟩ => by
    subst h2
    exact ⟨h1, h.1.cell 7 h7, h⟩
theorem flag_lt9 (q : Bool) (R : Nat) (h : R < 8) : flagM q R < 16 := by cases q <;> simp [flagM] <;> omega

set_option maxHeartbeats 2000000 in
set_option maxRecDepth 100000 in
theorem rbytes9_q1 (g : ByteArray) (M : Nat) (q : Bool) (rob ev : Int) (ps : Option Addr) (ns cs : Nat) (pr : Option Addr) (nr cr : Nat) (w : World) (hM : M < 65536) (hg : g.size ≤ 16) :
    Calls Tryz.prog 15 #[.agg #[.int .i64 1, .int .i64 1, .string g, .int .i64 (M : Int), .bool q, .int .i64 rob, .int .i64 ev, .slice ps ns cs, .slice pr nr cr]] w fun e w' => e = .returned (.string ⟨(q1L g (M : Int)).toArray⟩) ∧ Below w.heap.size w w' := by
  obtain ⟨N, hN⟩ : ∃ N, (putSpec (M : Int) 2).1 = N := ⟨_, rfl⟩
  obtain ⟨hNd, Nz⟩ := put_is9 M 2 (by omega) (by omega) (by omega) hN
  have HO := Lib.hid fun U => of_c (M : Int) 2 U (by omega) (by omega)
  rw [hN] at HO
  by_cases hz : g.size = 0
  · obtain rfl := bytes_empty hz
    obtain ⟨Y1, e1⟩ : ∃ Y : ByteArray, (⟨#[130, 0, 0, 0]⟩ : ByteArray) ++ N = Y := ⟨_, rfl⟩
    have s1 : Y1.size = 4 + N.size := by rw [← e1, ByteArray.size_append]; rfl
    have n1 : ¬ (9223372036854775807 < 4 + N.size) := by omega
    obtain ⟨Y2, e2⟩ : ∃ Y : ByteArray, Y1 ++ (⟨#[0, 0]⟩ : ByteArray) = Y := ⟨_, rfl⟩
    have s2 : Y2.size = Y1.size + 2 := by rw [← e2, ByteArray.size_append]; rfl
    have n2 : ¬ (9223372036854775807 < Y1.size + 2) := by omega
    obtain ⟨Y3, e3⟩ : ∃ Y : ByteArray, Y2 ++ (⟨#[0, 0, 0, 0, 0, 0, 0, 0, 0, 0, 0, 0, 0, 0, 0, 0]⟩ : ByteArray) = Y := ⟨_, rfl⟩
    have s3 : Y3.size = Y2.size + 16 := by rw [← e3, ByteArray.size_append]; rfl
    have n3 : ¬ (9223372036854775807 < Y2.size + 16) := by omega
    have hJ := Lib.hid (show Y3 = ⟨(q1L ⟨#[]⟩ (M : Int)).toArray⟩ from by
      apply bext9
      rw [← e3, ← e2, ← e1, bapp9, bapp9, bapp9]
      unfold q1L
      rw [hN]
      rfl)
    have B0 := Lib.hid (Box.start w #[.int .i64 1, .int .i64 1, .string ⟨#[]⟩, .int .i64 (M : Int), .bool q, .int .i64 rob, .int .i64 ev, .slice ps ns cs, .slice pr nr cr] 28)
    clear hN hNd Nz s1 s2 s3 hg
    go_enter Tryz.func15, Tryz.ntmps15
    go_wp2_with fail
    ((with_reducible refine (HO.out _).mono ?_); rintro e w1 ⟨rfl, h1⟩)
    have B := Lib.hid (B0.out.below h1)
    clear h1
    go_wp2_with fail
    go_ret
    exact ⟨by rw [hJ.out]; rfl, B.out.2⟩
  · have t2 : g.toList.isEmpty = false := toList_ne _ hz
    have hgl : grp6 g = g := if_neg hz
    obtain ⟨Y1, e1⟩ : ∃ Y : ByteArray, (⟨#[130, 0, 0, 0]⟩ : ByteArray) ++ N = Y := ⟨_, rfl⟩
    have s1 : Y1.size = 4 + N.size := by rw [← e1, ByteArray.size_append]; rfl
    have n1 : ¬ (9223372036854775807 < 4 + N.size) := by omega
    obtain ⟨Y2, e2⟩ : ∃ Y : ByteArray, Y1 ++ (⟨#[0, 0]⟩ : ByteArray) = Y := ⟨_, rfl⟩
    have s2 : Y2.size = Y1.size + 2 := by rw [← e2, ByteArray.size_append]; rfl
    have n2 : ¬ (9223372036854775807 < Y1.size + 2) := by omega
    obtain ⟨Y3, e3⟩ : ∃ Y : ByteArray, Y2 ++ g = Y := ⟨_, rfl⟩
    have s3 : Y3.size = Y2.size + g.size := by rw [← e3, ByteArray.size_append]
    have n3 : ¬ (9223372036854775807 < Y2.size + g.size) := by omega
    have hJ := Lib.hid (show Y3 = ⟨(q1L g (M : Int)).toArray⟩ from by
      apply bext9
      rw [← e3, ← e2, ← e1, bapp9, bapp9, bapp9]
      unfold q1L
      rw [hN, hgl]
      rfl)
    have B0 := Lib.hid (Box.start w #[.int .i64 1, .int .i64 1, .string g, .int .i64 (M : Int), .bool q, .int .i64 rob, .int .i64 ev, .slice ps ns cs, .slice pr nr cr] 28)
    clear hN hNd Nz s1 s2 s3 hz hg hgl
    go_enter Tryz.func15, Tryz.ntmps15
    go_wp2_with fail
    ((with_reducible refine (HO.out _).mono ?_); rintro e w1 ⟨rfl, h1⟩)
    have B := Lib.hid (B0.out.below h1)
    clear h1
    go_wp2_with fail
    go_ret
    exact ⟨by rw [hJ.out]; rfl, B.out.2⟩

set_option maxHeartbeats 2000000 in
set_option maxRecDepth 100000 in
theorem rbytes9_one (k : Int) (c : Nat) (g : ByteArray) (mx : Int) (q : Bool) (rob ev : Int) (ps : Option Addr) (ns cs : Nat) (pr : Option Addr) (nr cr : Nat) (w : World) (h : (k = 2 ∧ c = 131) ∨ (k = 3 ∧ c = 132)) (hg : g.size = 16) :
    Calls Tryz.prog 15 #[.agg #[.int .i64 k, .int .i64 1, .string g, .int .i64 mx, .bool q, .int .i64 rob, .int .i64 ev, .slice ps ns cs, .slice pr nr cr]] w fun e w' => e = .returned (.string ⟨(one6L c g).toArray⟩) ∧ Below w.heap.size w w' := by
  have t2 : g.toList.isEmpty = false := toList_ne _ (by omega)
  have HB := Lib.hid fun o => (Below.refl w.heap.size w).alloc (Nat.le_refl _) o
  have n1 : ¬ (9223372036854775807 < 8 + g.size) := by omega
  obtain ⟨Y1, e1⟩ : ∃ Y : ByteArray, (⟨#[UInt8.ofNat c, 0, 0, 0, 0, 0, 0, 0]⟩ : ByteArray) ++ g = Y := ⟨_, rfl⟩
  have hJ := Lib.hid (show Y1 = ⟨(one6L c g).toArray⟩ from by
    apply bext9
    rw [← e1, bapp9]
    unfold one6L
    rcases h with ⟨-, rfl⟩ | ⟨-, rfl⟩ <;> rfl)
  rcases h with ⟨rfl, rfl⟩ | ⟨rfl, rfl⟩
  · have e2 : (⟨#[131, 0, 0, 0, 0, 0, 0, 0]⟩ : ByteArray) ++ g = Y1 := e1
    clear e1 hg
    go_enter Tryz.func15, Tryz.ntmps15
    go_wp2_with fail
    go_ret
    exact ⟨by rw [hJ.out]; rfl, HB.out _⟩
  · have e2 : (⟨#[132, 0, 0, 0, 0, 0, 0, 0]⟩ : ByteArray) ++ g = Y1 := e1
    clear e1 hg
    go_enter Tryz.func15, Tryz.ntmps15
    go_wp2_with fail
    go_ret
    exact ⟨by rw [hJ.out]; rfl, HB.out _⟩

set_option maxHeartbeats 2000000 in
set_option maxRecDepth 100000 in
theorem rbytes9_rep (mx : Int) (q : Bool) (rob ev : Int) (ps : Option Addr) (ns cs : Nat) (pr : Option Addr) (cr : Nat) (L : List Rec) (w : World) (hL : L.length ≤ 65535) (hlen : (rec6L L).length ≤ 40000) (hs : ∀ r ∈ L, r.srcs.length ≤ 9223372036854775807) (ha : RecsAt w (.slice pr L.length cr) L) :
    Calls Tryz.prog 15 #[.agg #[.int .i64 2, .int .i64 2, .string ⟨#[]⟩, .int .i64 mx, .bool q, .int .i64 rob, .int .i64 ev, .slice ps ns cs, .slice pr L.length cr]] w fun e w' => e = .returned (.string ⟨(rec6L L).toArray⟩) ∧ Below w.heap.size w w' := by
  obtain ⟨N, hN⟩ : ∃ N, (putSpec (L.length : Int) 2).1 = N := ⟨_, rfl⟩
  obtain ⟨hNd, Nz⟩ := put_is9 L.length 2 (by omega) (by omega) (by omega) hN
  have HO := Lib.hid fun U => of_c (L.length : Int) 2 U (by omega) (by omega)
  rw [hN] at HO
  have HY := Lib.hid fun U (h : RecsAt U (.slice pr L.length cr) L) => rbody_c (.slice pr L.length cr) L 16 U (by omega) hs h
  unfold BodyPost at HY
  have hR : rec6L L = bytesOf 143 1 ++ bytesOf 0 3 ++ bytesOf 0 2 ++ bytesOf L.length 2 ++ (bodyI L 16).2.data.toList := rfl
  rw [hR] at hlen ⊢
  generalize (bodyI L 16).2 = FB at HY hlen ⊢
  generalize (bodyI L 16).1 = FE at HY
  have Fz : FB.size ≤ 40000 := by
    simp only [List.length_append, vlen] at hlen
    omega
  obtain ⟨Y1, e1⟩ : ∃ Y : ByteArray, (⟨#[143, 0, 0, 0, 0, 0]⟩ : ByteArray) ++ N = Y := ⟨_, rfl⟩
  have s1 : Y1.size = 6 + N.size := by rw [← e1, ByteArray.size_append]; rfl
  have n1 : ¬ (9223372036854775807 < 6 + N.size) := by omega
  obtain ⟨Y2, e2⟩ : ∃ Y : ByteArray, Y1 ++ FB = Y := ⟨_, rfl⟩
  have s2 : Y2.size = Y1.size + FB.size := by rw [← e2, ByteArray.size_append]
  have n2 : ¬ (9223372036854775807 < Y1.size + FB.size) := by omega
  have hJ := Lib.hid (show Y2 = ⟨(bytesOf 143 1 ++ bytesOf 0 3 ++ bytesOf 0 2 ++ bytesOf L.length 2 ++ FB.data.toList).toArray⟩ from by
    apply bext9
    rw [← e2, ← e1, bapp9, bapp9, hNd]
    rfl)
  have B0 := Lib.hid (Box.start w #[.int .i64 2, .int .i64 2, .string ⟨#[]⟩, .int .i64 mx, .bool q, .int .i64 rob, .int .i64 ev, .slice ps ns cs, .slice pr L.length cr] 28)
  have A1 := ha.below B0.out.2
  clear hR hlen Fz hN hNd Nz s1 s2 hs hL ha
  go_enter Tryz.func15, Tryz.ntmps15
  go_wp2_with fail
  ((with_reducible refine (HY.out _ A1).mono ?_); rintro e w1 ⟨rfl, h1⟩)
  have B := Lib.hid (B0.out.below h1)
  clear h1 A1
  have c8 := B.out.cell 8 rfl
  go_wp2_with fail
  ((with_reducible refine (HO.out _).mono ?_); rintro e w2 ⟨rfl, h2⟩)
  replace B := Lib.hid (B.out.below h2)
  clear h2
  go_wp2_with fail
  go_ret
  exact ⟨by rw [hJ.out]; rfl, B.out.2⟩

set_option maxHeartbeats 4000000 in
set_option maxRecDepth 100000 in
theorem rbytes9_q2 (g : ByteArray) (mx : Int) (q : Bool) (R : Nat) (ev : Int) (ps : Option Addr) (cs : Nat) (ss : List ByteArray) (pr : Option Addr) (nr cr : Nat) (M C : Nat) (w : World) (hR : R < 8) (hM : M < 65536) (hC : C < 256) (hm : encI 12 mx = ((M : Int), 0)) (he : encI 4 ev = ((C : Int), 0)) (hg : g.size ≤ 16) (hs : ss.length ≤ 60) (hf : (flatL ss).length ≤ 960) (ha : AddrsAt w (.slice ps ss.length cs) ss) :
    Calls Tryz.prog 15 #[.agg #[.int .i64 1, .int .i64 2, .string g, .int .i64 mx, .bool q, .int .i64 (R : Int), .int .i64 ev, .slice ps ss.length cs, .slice pr nr cr]] w fun e w' => e = .returned (.string ⟨(q2L g mx q (R : Int) ev ss).toArray⟩) ∧ Below w.heap.size w w' := by
  have hfl := flag_lt9 q R hR
  obtain ⟨fl, hfn⟩ : ∃ fl, flagM q R = fl := ⟨_, rfl⟩
  rw [hfn] at hfl
  have HX := Lib.hid fun U => renc16_c mx U
  have HY := Lib.hid fun U => renc8_c ev U
  rw [hm] at HX
  rw [he] at HY
  have hq2 : ∀ G : ByteArray, grp6 g = G → q2L g mx q (R : Int) ev ss = bytesOf 130 1 ++ bytesOf 0 3 ++ bytesOf M 2 ++ bytesOf 0 2 ++ G.data.toList ++ (bytesOf fl 1 ++ bytesOf C 1 ++ bytesOf ss.length 2 ++ flatL ss) := by
    intro G hG
    unfold q2L detL codeL
    rw [hm, he, hG]
    simp only [Int.toNat_natCast, hfn]
  obtain ⟨N1, hN1⟩ : ∃ N, (putSpec (M : Int) 2).1 = N := ⟨_, rfl⟩
  obtain ⟨d1, z1⟩ := put_is9 M 2 (by omega) (by omega) (by omega) hN1
  obtain ⟨N2, hN2⟩ : ∃ N, (putSpec (fl : Int) 1).1 = N := ⟨_, rfl⟩
  obtain ⟨d2, z2⟩ := put_is9 fl 1 (by omega) (by omega) (by omega) hN2
  obtain ⟨N3, hN3⟩ : ∃ N, (putSpec (C : Int) 1).1 = N := ⟨_, rfl⟩
  obtain ⟨d3, z3⟩ := put_is9 C 1 (by omega) (by omega) (by omega) hN3
  obtain ⟨N4, hN4⟩ : ∃ N, (putSpec (ss.length : Int) 2).1 = N := ⟨_, rfl⟩
  obtain ⟨d4, z4⟩ := put_is9 ss.length 2 (by omega) (by omega) (by omega) hN4
  by_cases hz : g.size = 0
  · obtain rfl := bytes_empty hz
    cases q
    · have K1 := Lib.hid fun U h => of_k9 (M : Int) 2 N1 hN1 (by omega) (by omega) w #[.int .i64 1, .int .i64 2, .string ⟨#[]⟩, .int .i64 mx, .bool false, .int .i64 (R : Int), .int .i64 ev, .slice ps ss.length cs, .slice pr nr cr] (.slice ps ss.length cs) ss U rfl h
      have K2 := Lib.hid fun U h => of_k9 (fl : Int) 1 N2 hN2 (by omega) (by omega) w #[.int .i64 1, .int .i64 2, .string ⟨#[]⟩, .int .i64 mx, .bool false, .int .i64 (R : Int), .int .i64 ev, .slice ps ss.length cs, .slice pr nr cr] (.slice ps ss.length cs) ss U rfl h
      have K3 := Lib.hid fun U h => of_k9 (C : Int) 1 N3 hN3 (by omega) (by omega) w #[.int .i64 1, .int .i64 2, .string ⟨#[]⟩, .int .i64 mx, .bool false, .int .i64 (R : Int), .int .i64 ev, .slice ps ss.length cs, .slice pr nr cr] (.slice ps ss.length cs) ss U rfl h
      have K4 := Lib.hid fun U h => of_k9 (ss.length : Int) 2 N4 hN4 (by omega) (by omega) w #[.int .i64 1, .int .i64 2, .string ⟨#[]⟩, .int .i64 mx, .bool false, .int .i64 (R : Int), .int .i64 ev, .slice ps ss.length cs, .slice pr nr cr] (.slice ps ss.length cs) ss U rfl h
      have K5 := Lib.hid fun U h => join_k9 w #[.int .i64 1, .int .i64 2, .string ⟨#[]⟩, .int .i64 mx, .bool false, .int .i64 (R : Int), .int .i64 ev, .slice ps ss.length cs, .slice pr nr cr] (.slice ps ss.length cs) ss (by omega) (by omega) U rfl h
      obtain ⟨FJ, hFJ⟩ : ∃ FJ : ByteArray, (⟨(flatL ss).toArray⟩ : ByteArray) = FJ := ⟨_, rfl⟩
      have Fd : FJ.data.toList = flatL ss := by rw [← hFJ]
      have Fz : FJ.size ≤ 960 := by rw [← vlen, Fd]; omega
      rw [hFJ] at K5
      obtain ⟨Y1, e1⟩ : ∃ Y : ByteArray, (⟨#[130, 0, 0, 0]⟩ : ByteArray) ++ N1 = Y := ⟨_, rfl⟩
      have s1 : Y1.size = 4 + N1.size := by rw [← e1, ByteArray.size_append]; rfl
      have n1 : ¬ (9223372036854775807 < 4 + N1.size) := by omega
      obtain ⟨Y2, e2⟩ : ∃ Y : ByteArray, Y1 ++ (⟨#[0, 0]⟩ : ByteArray) = Y := ⟨_, rfl⟩
      have s2 : Y2.size = Y1.size + 2 := by rw [← e2, ByteArray.size_append]; rfl
      have n2 : ¬ (9223372036854775807 < Y1.size + 2) := by omega
      obtain ⟨Y3, e3⟩ : ∃ Y : ByteArray, Y2 ++ (⟨#[0, 0, 0, 0, 0, 0, 0, 0, 0, 0, 0, 0, 0, 0, 0, 0]⟩ : ByteArray) = Y := ⟨_, rfl⟩
      have s3 : Y3.size = Y2.size + 16 := by rw [← e3, ByteArray.size_append]; rfl
      have n3 : ¬ (9223372036854775807 < Y2.size + 16) := by omega
      obtain ⟨Y4, e4⟩ : ∃ Y : ByteArray, Y3 ++ N2 = Y := ⟨_, rfl⟩
      have s4 : Y4.size = Y3.size + N2.size := by rw [← e4, ByteArray.size_append]
      have n4 : ¬ (9223372036854775807 < Y3.size + N2.size) := by omega
      obtain ⟨Y5, e5⟩ : ∃ Y : ByteArray, Y4 ++ N3 = Y := ⟨_, rfl⟩
      have s5 : Y5.size = Y4.size + N3.size := by rw [← e5, ByteArray.size_append]
      have n5 : ¬ (9223372036854775807 < Y4.size + N3.size) := by omega
      obtain ⟨Y6, e6⟩ : ∃ Y : ByteArray, Y5 ++ N4 = Y := ⟨_, rfl⟩
      have s6 : Y6.size = Y5.size + N4.size := by rw [← e6, ByteArray.size_append]
      have n6 : ¬ (9223372036854775807 < Y5.size + N4.size) := by omega
      obtain ⟨Y7, e7⟩ : ∃ Y : ByteArray, Y6 ++ FJ = Y := ⟨_, rfl⟩
      have s7 : Y7.size = Y6.size + FJ.size := by rw [← e7, ByteArray.size_append]
      have n7 : ¬ (9223372036854775807 < Y6.size + FJ.size) := by omega
      have hJ := Lib.hid (show Y7 = ⟨(q2L ⟨#[]⟩ mx false (R : Int) ev ss).toArray⟩ from by
        apply bext9
        rw [hq2 (⟨#[0, 0, 0, 0, 0, 0, 0, 0, 0, 0, 0, 0, 0, 0, 0, 0]⟩ : ByteArray) rfl, ← e7, ← e6, ← e5, ← e4, ← e3, ← e2, ← e1, bapp9, bapp9, bapp9, bapp9, bapp9, bapp9, bapp9, d1, d2, d3, d4, Fd]
        have h0 : (⟨#[130, 0, 0, 0]⟩ : ByteArray).data.toList = bytesOf 130 1 ++ bytesOf 0 3 := rfl
        have h1 : (⟨#[0, 0]⟩ : ByteArray).data.toList = bytesOf 0 2 := rfl
        rw [h0, h1]
        simp only [List.append_assoc])
      have B0 := Lib.hid (Box.start w #[.int .i64 1, .int .i64 2, .string ⟨#[]⟩, .int .i64 mx, .bool false, .int .i64 (R : Int), .int .i64 ev, .slice ps ss.length cs, .slice pr nr cr] 28)
      have A1 := ha.below B0.out.2
      have kq : K9 w #[.int .i64 1, .int .i64 2, .string ⟨#[]⟩, .int .i64 mx, .bool false, .int .i64 (R : Int), .int .i64 ev, .slice ps ss.length cs, .slice pr nr cr] (.slice ps ss.length cs) ss (w.alloc (.cells #[.int .i64 1, .int .i64 2, .string ⟨#[]⟩, .int .i64 mx, .bool false, .int .i64 (R : Int), .int .i64 ev, .slice ps ss.length cs, .slice pr nr cr] 28)) := ⟨B0.out, A1⟩
      have hfR : R = fl := hfn
      subst hfR
      clear A1 hq2 hf hfl hN1 d1 z1 hN2 d2 z2 hN3 d3 z3 hN4 d4 z4 Fd Fz hFJ hs ha hm he hg s1 s2 s3 s4 s5 s6 s7 hfn
      have NN := Lib.hid (And.intro n1 (And.intro n2 (And.intro n3 (And.intro n4 (And.intro n5 (And.intro n6 n7))))))
      have EE := Lib.hid (And.intro e1 (And.intro e2 (And.intro e3 (And.intro e4 (And.intro e5 (And.intro e6 e7))))))
      clear n1 n2 n3 n4 n5 n6 n7 e1 e2 e3 e4 e5 e6 e7
      go_enter Tryz.func15, Tryz.ntmps15
      go_wp2_with fail
      ((with_reducible refine (HX.out _).mono ?_); rintro e w1 ⟨rfl, rfl⟩)
      go_wp2_with fail
      ((with_reducible refine (HY.out _).mono ?_); rintro e w2 ⟨rfl, rfl⟩)
      go_upto_region 12 with fail
      obtain ⟨n1, n2, n3, n4, n5, n6, n7⟩ := NN.out
      obtain ⟨e1, e2, e3, e4, e5, e6, e7⟩ := EE.out
      have c7 := B0.out.cell 7 rfl
      generalize (w.alloc _) = W at kq c7 ⊢
      go_region_held3 (fun w' => w'.cell? ⟨w.heap.size, 7, none⟩ = some (.slice ps ss.length cs) ∧ K9 w #[.int .i64 1, .int .i64 2, .string ⟨#[]⟩, .int .i64 mx, .bool false, .int .i64 (R : Int), .int .i64 ev, .slice ps ss.length cs, .slice pr nr cr] (.slice ps ss.length cs) ss w')
        (first | (refine ⟨?_, ?_⟩ <;> first | assumption | exact K9.drew (by assumption) | (simp; done)))
        (first
          | (go_at_call 34; (with_reducible refine (K1.out _ ?_).mono ?_); (first | assumption | exact K9.drew (by assumption)); rintro e w' ⟨rfl, e0, e9⟩)
          | (go_at_call 34; (with_reducible refine (K2.out _ ?_).mono ?_); (first | assumption | exact K9.drew (by assumption)); rintro e w' ⟨rfl, e0, e9⟩)
          | (go_at_call 34; (with_reducible refine (K3.out _ ?_).mono ?_); (first | assumption | exact K9.drew (by assumption)); rintro e w' ⟨rfl, e0, e9⟩)
          | (go_at_call 34; (with_reducible refine (K4.out _ ?_).mono ?_); (first | assumption | exact K9.drew (by assumption)); rintro e w' ⟨rfl, e0, e9⟩)
          | (go_at_call 37; (with_reducible refine (K5.out _ ?_).mono ?_); (first | assumption | exact K9.drew (by assumption)); rintro e w' ⟨rfl, e0, e9⟩))
      go_wp2_with fail
      go_ret
      refine ⟨?_, K9.out e9⟩
      rw [hJ.out]
      rfl
    · have hf8 : ((R : Int) + 8) = (fl : Int) := by have : R + 8 = fl := hfn; omega
      rw [← hf8] at hN2
      have K1 := Lib.hid fun U h => of_k9 (M : Int) 2 N1 hN1 (by omega) (by omega) w #[.int .i64 1, .int .i64 2, .string ⟨#[]⟩, .int .i64 mx, .bool true, .int .i64 (R : Int), .int .i64 ev, .slice ps ss.length cs, .slice pr nr cr] (.slice ps ss.length cs) ss U rfl h
      have K2 := Lib.hid fun U h => of_k9 ((R : Int) + 8) 1 N2 hN2 (by omega) (by omega) w #[.int .i64 1, .int .i64 2, .string ⟨#[]⟩, .int .i64 mx, .bool true, .int .i64 (R : Int), .int .i64 ev, .slice ps ss.length cs, .slice pr nr cr] (.slice ps ss.length cs) ss U rfl h
      have K3 := Lib.hid fun U h => of_k9 (C : Int) 1 N3 hN3 (by omega) (by omega) w #[.int .i64 1, .int .i64 2, .string ⟨#[]⟩, .int .i64 mx, .bool true, .int .i64 (R : Int), .int .i64 ev, .slice ps ss.length cs, .slice pr nr cr] (.slice ps ss.length cs) ss U rfl h
      have K4 := Lib.hid fun U h => of_k9 (ss.length : Int) 2 N4 hN4 (by omega) (by omega) w #[.int .i64 1, .int .i64 2, .string ⟨#[]⟩, .int .i64 mx, .bool true, .int .i64 (R : Int), .int .i64 ev, .slice ps ss.length cs, .slice pr nr cr] (.slice ps ss.length cs) ss U rfl h
      have K5 := Lib.hid fun U h => join_k9 w #[.int .i64 1, .int .i64 2, .string ⟨#[]⟩, .int .i64 mx, .bool true, .int .i64 (R : Int), .int .i64 ev, .slice ps ss.length cs, .slice pr nr cr] (.slice ps ss.length cs) ss (by omega) (by omega) U rfl h
      obtain ⟨FJ, hFJ⟩ : ∃ FJ : ByteArray, (⟨(flatL ss).toArray⟩ : ByteArray) = FJ := ⟨_, rfl⟩
      have Fd : FJ.data.toList = flatL ss := by rw [← hFJ]
      have Fz : FJ.size ≤ 960 := by rw [← vlen, Fd]; omega
      rw [hFJ] at K5
      obtain ⟨Y1, e1⟩ : ∃ Y : ByteArray, (⟨#[130, 0, 0, 0]⟩ : ByteArray) ++ N1 = Y := ⟨_, rfl⟩
      have s1 : Y1.size = 4 + N1.size := by rw [← e1, ByteArray.size_append]; rfl
      have n1 : ¬ (9223372036854775807 < 4 + N1.size) := by omega
      obtain ⟨Y2, e2⟩ : ∃ Y : ByteArray, Y1 ++ (⟨#[0, 0]⟩ : ByteArray) = Y := ⟨_, rfl⟩
      have s2 : Y2.size = Y1.size + 2 := by rw [← e2, ByteArray.size_append]; rfl
      have n2 : ¬ (9223372036854775807 < Y1.size + 2) := by omega
      obtain ⟨Y3, e3⟩ : ∃ Y : ByteArray, Y2 ++ (⟨#[0, 0, 0, 0, 0, 0, 0, 0, 0, 0, 0, 0, 0, 0, 0, 0]⟩ : ByteArray) = Y := ⟨_, rfl⟩
      have s3 : Y3.size = Y2.size + 16 := by rw [← e3, ByteArray.size_append]; rfl
      have n3 : ¬ (9223372036854775807 < Y2.size + 16) := by omega
      obtain ⟨Y4, e4⟩ : ∃ Y : ByteArray, Y3 ++ N2 = Y := ⟨_, rfl⟩
      have s4 : Y4.size = Y3.size + N2.size := by rw [← e4, ByteArray.size_append]
      have n4 : ¬ (9223372036854775807 < Y3.size + N2.size) := by omega
      obtain ⟨Y5, e5⟩ : ∃ Y : ByteArray, Y4 ++ N3 = Y := ⟨_, rfl⟩
      have s5 : Y5.size = Y4.size + N3.size := by rw [← e5, ByteArray.size_append]
      have n5 : ¬ (9223372036854775807 < Y4.size + N3.size) := by omega
      obtain ⟨Y6, e6⟩ : ∃ Y : ByteArray, Y5 ++ N4 = Y := ⟨_, rfl⟩
      have s6 : Y6.size = Y5.size + N4.size := by rw [← e6, ByteArray.size_append]
      have n6 : ¬ (9223372036854775807 < Y5.size + N4.size) := by omega
      obtain ⟨Y7, e7⟩ : ∃ Y : ByteArray, Y6 ++ FJ = Y := ⟨_, rfl⟩
      have s7 : Y7.size = Y6.size + FJ.size := by rw [← e7, ByteArray.size_append]
      have n7 : ¬ (9223372036854775807 < Y6.size + FJ.size) := by omega
      have hJ := Lib.hid (show Y7 = ⟨(q2L ⟨#[]⟩ mx true (R : Int) ev ss).toArray⟩ from by
        apply bext9
        rw [hq2 (⟨#[0, 0, 0, 0, 0, 0, 0, 0, 0, 0, 0, 0, 0, 0, 0, 0]⟩ : ByteArray) rfl, ← e7, ← e6, ← e5, ← e4, ← e3, ← e2, ← e1, bapp9, bapp9, bapp9, bapp9, bapp9, bapp9, bapp9, d1, d2, d3, d4, Fd]
        have h0 : (⟨#[130, 0, 0, 0]⟩ : ByteArray).data.toList = bytesOf 130 1 ++ bytesOf 0 3 := rfl
        have h1 : (⟨#[0, 0]⟩ : ByteArray).data.toList = bytesOf 0 2 := rfl
        rw [h0, h1]
        simp only [List.append_assoc])
      have B0 := Lib.hid (Box.start w #[.int .i64 1, .int .i64 2, .string ⟨#[]⟩, .int .i64 mx, .bool true, .int .i64 (R : Int), .int .i64 ev, .slice ps ss.length cs, .slice pr nr cr] 28)
      have A1 := ha.below B0.out.2
      have kq : K9 w #[.int .i64 1, .int .i64 2, .string ⟨#[]⟩, .int .i64 mx, .bool true, .int .i64 (R : Int), .int .i64 ev, .slice ps ss.length cs, .slice pr nr cr] (.slice ps ss.length cs) ss (w.alloc (.cells #[.int .i64 1, .int .i64 2, .string ⟨#[]⟩, .int .i64 mx, .bool true, .int .i64 (R : Int), .int .i64 ev, .slice ps ss.length cs, .slice pr nr cr] 28)) := ⟨B0.out, A1⟩
      have w8 : wrap64 ((R : Int) + 8) = (R : Int) + 8 := by unfold wrap64; omega
      clear hfn
      clear A1 hq2 hf hfl hN1 d1 z1 hN2 d2 z2 hN3 d3 z3 hN4 d4 z4 Fd Fz hFJ hs ha hm he hg s1 s2 s3 s4 s5 s6 s7 hf8
      have NN := Lib.hid (And.intro n1 (And.intro n2 (And.intro n3 (And.intro n4 (And.intro n5 (And.intro n6 n7))))))
      have EE := Lib.hid (And.intro e1 (And.intro e2 (And.intro e3 (And.intro e4 (And.intro e5 (And.intro e6 e7))))))
      clear n1 n2 n3 n4 n5 n6 n7 e1 e2 e3 e4 e5 e6 e7
      go_enter Tryz.func15, Tryz.ntmps15
      go_wp2_with fail
      ((with_reducible refine (HX.out _).mono ?_); rintro e w1 ⟨rfl, rfl⟩)
      go_wp2_with fail
      ((with_reducible refine (HY.out _).mono ?_); rintro e w2 ⟨rfl, rfl⟩)
      go_upto_region 12 with fail
      obtain ⟨n1, n2, n3, n4, n5, n6, n7⟩ := NN.out
      obtain ⟨e1, e2, e3, e4, e5, e6, e7⟩ := EE.out
      have c7 := B0.out.cell 7 rfl
      generalize (w.alloc _) = W at kq c7 ⊢
      go_region_held3 (fun w' => w'.cell? ⟨w.heap.size, 7, none⟩ = some (.slice ps ss.length cs) ∧ K9 w #[.int .i64 1, .int .i64 2, .string ⟨#[]⟩, .int .i64 mx, .bool true, .int .i64 (R : Int), .int .i64 ev, .slice ps ss.length cs, .slice pr nr cr] (.slice ps ss.length cs) ss w')
        (first | (refine ⟨?_, ?_⟩ <;> first | assumption | exact K9.drew (by assumption) | (simp; done)))
        (first
          | (go_at_call 34; (with_reducible refine (K1.out _ ?_).mono ?_); (first | assumption | exact K9.drew (by assumption)); rintro e w' ⟨rfl, e0, e9⟩)
          | (go_at_call 34; (with_reducible refine (K2.out _ ?_).mono ?_); (first | assumption | exact K9.drew (by assumption)); rintro e w' ⟨rfl, e0, e9⟩)
          | (go_at_call 34; (with_reducible refine (K3.out _ ?_).mono ?_); (first | assumption | exact K9.drew (by assumption)); rintro e w' ⟨rfl, e0, e9⟩)
          | (go_at_call 34; (with_reducible refine (K4.out _ ?_).mono ?_); (first | assumption | exact K9.drew (by assumption)); rintro e w' ⟨rfl, e0, e9⟩)
          | (go_at_call 37; (with_reducible refine (K5.out _ ?_).mono ?_); (first | assumption | exact K9.drew (by assumption)); rintro e w' ⟨rfl, e0, e9⟩))
      go_wp2_with fail
      go_ret
      refine ⟨?_, K9.out e9⟩
      rw [hJ.out]
      rfl
  · have t2 : g.toList.isEmpty = false := toList_ne _ hz
    have hgl : grp6 g = g := if_neg hz
    cases q
    · have K1 := Lib.hid fun U h => of_k9 (M : Int) 2 N1 hN1 (by omega) (by omega) w #[.int .i64 1, .int .i64 2, .string g, .int .i64 mx, .bool false, .int .i64 (R : Int), .int .i64 ev, .slice ps ss.length cs, .slice pr nr cr] (.slice ps ss.length cs) ss U rfl h
      have K2 := Lib.hid fun U h => of_k9 (fl : Int) 1 N2 hN2 (by omega) (by omega) w #[.int .i64 1, .int .i64 2, .string g, .int .i64 mx, .bool false, .int .i64 (R : Int), .int .i64 ev, .slice ps ss.length cs, .slice pr nr cr] (.slice ps ss.length cs) ss U rfl h
      have K3 := Lib.hid fun U h => of_k9 (C : Int) 1 N3 hN3 (by omega) (by omega) w #[.int .i64 1, .int .i64 2, .string g, .int .i64 mx, .bool false, .int .i64 (R : Int), .int .i64 ev, .slice ps ss.length cs, .slice pr nr cr] (.slice ps ss.length cs) ss U rfl h
      have K4 := Lib.hid fun U h => of_k9 (ss.length : Int) 2 N4 hN4 (by omega) (by omega) w #[.int .i64 1, .int .i64 2, .string g, .int .i64 mx, .bool false, .int .i64 (R : Int), .int .i64 ev, .slice ps ss.length cs, .slice pr nr cr] (.slice ps ss.length cs) ss U rfl h
      have K5 := Lib.hid fun U h => join_k9 w #[.int .i64 1, .int .i64 2, .string g, .int .i64 mx, .bool false, .int .i64 (R : Int), .int .i64 ev, .slice ps ss.length cs, .slice pr nr cr] (.slice ps ss.length cs) ss (by omega) (by omega) U rfl h
      obtain ⟨FJ, hFJ⟩ : ∃ FJ : ByteArray, (⟨(flatL ss).toArray⟩ : ByteArray) = FJ := ⟨_, rfl⟩
      have Fd : FJ.data.toList = flatL ss := by rw [← hFJ]
      have Fz : FJ.size ≤ 960 := by rw [← vlen, Fd]; omega
      rw [hFJ] at K5
      obtain ⟨Y1, e1⟩ : ∃ Y : ByteArray, (⟨#[130, 0, 0, 0]⟩ : ByteArray) ++ N1 = Y := ⟨_, rfl⟩
      have s1 : Y1.size = 4 + N1.size := by rw [← e1, ByteArray.size_append]; rfl
      have n1 : ¬ (9223372036854775807 < 4 + N1.size) := by omega
      obtain ⟨Y2, e2⟩ : ∃ Y : ByteArray, Y1 ++ (⟨#[0, 0]⟩ : ByteArray) = Y := ⟨_, rfl⟩
      have s2 : Y2.size = Y1.size + 2 := by rw [← e2, ByteArray.size_append]; rfl
      have n2 : ¬ (9223372036854775807 < Y1.size + 2) := by omega
      obtain ⟨Y3, e3⟩ : ∃ Y : ByteArray, Y2 ++ g = Y := ⟨_, rfl⟩
      have s3 : Y3.size = Y2.size + g.size := by rw [← e3, ByteArray.size_append]
      have n3 : ¬ (9223372036854775807 < Y2.size + g.size) := by omega
      obtain ⟨Y4, e4⟩ : ∃ Y : ByteArray, Y3 ++ N2 = Y := ⟨_, rfl⟩
      have s4 : Y4.size = Y3.size + N2.size := by rw [← e4, ByteArray.size_append]
      have n4 : ¬ (9223372036854775807 < Y3.size + N2.size) := by omega
      obtain ⟨Y5, e5⟩ : ∃ Y : ByteArray, Y4 ++ N3 = Y := ⟨_, rfl⟩
      have s5 : Y5.size = Y4.size + N3.size := by rw [← e5, ByteArray.size_append]
      have n5 : ¬ (9223372036854775807 < Y4.size + N3.size) := by omega
      obtain ⟨Y6, e6⟩ : ∃ Y : ByteArray, Y5 ++ N4 = Y := ⟨_, rfl⟩
      have s6 : Y6.size = Y5.size + N4.size := by rw [← e6, ByteArray.size_append]
      have n6 : ¬ (9223372036854775807 < Y5.size + N4.size) := by omega
      obtain ⟨Y7, e7⟩ : ∃ Y : ByteArray, Y6 ++ FJ = Y := ⟨_, rfl⟩
      have s7 : Y7.size = Y6.size + FJ.size := by rw [← e7, ByteArray.size_append]
      have n7 : ¬ (9223372036854775807 < Y6.size + FJ.size) := by omega
      have hJ := Lib.hid (show Y7 = ⟨(q2L g mx false (R : Int) ev ss).toArray⟩ from by
        apply bext9
        rw [hq2 g hgl, ← e7, ← e6, ← e5, ← e4, ← e3, ← e2, ← e1, bapp9, bapp9, bapp9, bapp9, bapp9, bapp9, bapp9, d1, d2, d3, d4, Fd]
        have h0 : (⟨#[130, 0, 0, 0]⟩ : ByteArray).data.toList = bytesOf 130 1 ++ bytesOf 0 3 := rfl
        have h1 : (⟨#[0, 0]⟩ : ByteArray).data.toList = bytesOf 0 2 := rfl
        rw [h0, h1]
        simp only [List.append_assoc])
      have B0 := Lib.hid (Box.start w #[.int .i64 1, .int .i64 2, .string g, .int .i64 mx, .bool false, .int .i64 (R : Int), .int .i64 ev, .slice ps ss.length cs, .slice pr nr cr] 28)
      have A1 := ha.below B0.out.2
      have kq : K9 w #[.int .i64 1, .int .i64 2, .string g, .int .i64 mx, .bool false, .int .i64 (R : Int), .int .i64 ev, .slice ps ss.length cs, .slice pr nr cr] (.slice ps ss.length cs) ss (w.alloc (.cells #[.int .i64 1, .int .i64 2, .string g, .int .i64 mx, .bool false, .int .i64 (R : Int), .int .i64 ev, .slice ps ss.length cs, .slice pr nr cr] 28)) := ⟨B0.out, A1⟩
      have hfR : R = fl := hfn
      subst hfR
      clear A1 hq2 hf hfl hN1 d1 z1 hN2 d2 z2 hN3 d3 z3 hN4 d4 z4 Fd Fz hFJ hs ha hm he hg s1 s2 s3 s4 s5 s6 s7 hz hgl hfn
      have NN := Lib.hid (And.intro n1 (And.intro n2 (And.intro n3 (And.intro n4 (And.intro n5 (And.intro n6 n7))))))
      have EE := Lib.hid (And.intro e1 (And.intro e2 (And.intro e3 (And.intro e4 (And.intro e5 (And.intro e6 e7))))))
      clear n1 n2 n3 n4 n5 n6 n7 e1 e2 e3 e4 e5 e6 e7
      go_enter Tryz.func15, Tryz.ntmps15
      go_wp2_with fail
      ((with_reducible refine (HX.out _).mono ?_); rintro e w1 ⟨rfl, rfl⟩)
      go_wp2_with fail
      ((with_reducible refine (HY.out _).mono ?_); rintro e w2 ⟨rfl, rfl⟩)
      go_upto_region 12 with fail
      obtain ⟨n1, n2, n3, n4, n5, n6, n7⟩ := NN.out
      obtain ⟨e1, e2, e3, e4, e5, e6, e7⟩ := EE.out
      have c7 := B0.out.cell 7 rfl
      generalize (w.alloc _) = W at kq c7 ⊢
      go_region_held3 (fun w' => w'.cell? ⟨w.heap.size, 7, none⟩ = some (.slice ps ss.length cs) ∧ K9 w #[.int .i64 1, .int .i64 2, .string g, .int .i64 mx, .bool false, .int .i64 (R : Int), .int .i64 ev, .slice ps ss.length cs, .slice pr nr cr] (.slice ps ss.length cs) ss w')
        (first | (refine ⟨?_, ?_⟩ <;> first | assumption | exact K9.drew (by assumption) | (simp; done)))
        (first
          | (go_at_call 34; (with_reducible refine (K1.out _ ?_).mono ?_); (first | assumption | exact K9.drew (by assumption)); rintro e w' ⟨rfl, e0, e9⟩)
          | (go_at_call 34; (with_reducible refine (K2.out _ ?_).mono ?_); (first | assumption | exact K9.drew (by assumption)); rintro e w' ⟨rfl, e0, e9⟩)
          | (go_at_call 34; (with_reducible refine (K3.out _ ?_).mono ?_); (first | assumption | exact K9.drew (by assumption)); rintro e w' ⟨rfl, e0, e9⟩)
          | (go_at_call 34; (with_reducible refine (K4.out _ ?_).mono ?_); (first | assumption | exact K9.drew (by assumption)); rintro e w' ⟨rfl, e0, e9⟩)
          | (go_at_call 37; (with_reducible refine (K5.out _ ?_).mono ?_); (first | assumption | exact K9.drew (by assumption)); rintro e w' ⟨rfl, e0, e9⟩))
      go_wp2_with fail
      go_ret
      refine ⟨?_, K9.out e9⟩
      rw [hJ.out]
      rfl
    · have hf8 : ((R : Int) + 8) = (fl : Int) := by have : R + 8 = fl := hfn; omega
      rw [← hf8] at hN2
      have K1 := Lib.hid fun U h => of_k9 (M : Int) 2 N1 hN1 (by omega) (by omega) w #[.int .i64 1, .int .i64 2, .string g, .int .i64 mx, .bool true, .int .i64 (R : Int), .int .i64 ev, .slice ps ss.length cs, .slice pr nr cr] (.slice ps ss.length cs) ss U rfl h
      have K2 := Lib.hid fun U h => of_k9 ((R : Int) + 8) 1 N2 hN2 (by omega) (by omega) w #[.int .i64 1, .int .i64 2, .string g, .int .i64 mx, .bool true, .int .i64 (R : Int), .int .i64 ev, .slice ps ss.length cs, .slice pr nr cr] (.slice ps ss.length cs) ss U rfl h
      have K3 := Lib.hid fun U h => of_k9 (C : Int) 1 N3 hN3 (by omega) (by omega) w #[.int .i64 1, .int .i64 2, .string g, .int .i64 mx, .bool true, .int .i64 (R : Int), .int .i64 ev, .slice ps ss.length cs, .slice pr nr cr] (.slice ps ss.length cs) ss U rfl h
      have K4 := Lib.hid fun U h => of_k9 (ss.length : Int) 2 N4 hN4 (by omega) (by omega) w #[.int .i64 1, .int .i64 2, .string g, .int .i64 mx, .bool true, .int .i64 (R : Int), .int .i64 ev, .slice ps ss.length cs, .slice pr nr cr] (.slice ps ss.length cs) ss U rfl h
      have K5 := Lib.hid fun U h => join_k9 w #[.int .i64 1, .int .i64 2, .string g, .int .i64 mx, .bool true, .int .i64 (R : Int), .int .i64 ev, .slice ps ss.length cs, .slice pr nr cr] (.slice ps ss.length cs) ss (by omega) (by omega) U rfl h
      obtain ⟨FJ, hFJ⟩ : ∃ FJ : ByteArray, (⟨(flatL ss).toArray⟩ : ByteArray) = FJ := ⟨_, rfl⟩
      have Fd : FJ.data.toList = flatL ss := by rw [← hFJ]
      have Fz : FJ.size ≤ 960 := by rw [← vlen, Fd]; omega
      rw [hFJ] at K5
      obtain ⟨Y1, e1⟩ : ∃ Y : ByteArray, (⟨#[130, 0, 0, 0]⟩ : ByteArray) ++ N1 = Y := ⟨_, rfl⟩
      have s1 : Y1.size = 4 + N1.size := by rw [← e1, ByteArray.size_append]; rfl
      have n1 : ¬ (9223372036854775807 < 4 + N1.size) := by omega
      obtain ⟨Y2, e2⟩ : ∃ Y : ByteArray, Y1 ++ (⟨#[0, 0]⟩ : ByteArray) = Y := ⟨_, rfl⟩
      have s2 : Y2.size = Y1.size + 2 := by rw [← e2, ByteArray.size_append]; rfl
      have n2 : ¬ (9223372036854775807 < Y1.size + 2) := by omega
      obtain ⟨Y3, e3⟩ : ∃ Y : ByteArray, Y2 ++ g = Y := ⟨_, rfl⟩
      have s3 : Y3.size = Y2.size + g.size := by rw [← e3, ByteArray.size_append]
      have n3 : ¬ (9223372036854775807 < Y2.size + g.size) := by omega
      obtain ⟨Y4, e4⟩ : ∃ Y : ByteArray, Y3 ++ N2 = Y := ⟨_, rfl⟩
      have s4 : Y4.size = Y3.size + N2.size := by rw [← e4, ByteArray.size_append]
      have n4 : ¬ (9223372036854775807 < Y3.size + N2.size) := by omega
      obtain ⟨Y5, e5⟩ : ∃ Y : ByteArray, Y4 ++ N3 = Y := ⟨_, rfl⟩
      have s5 : Y5.size = Y4.size + N3.size := by rw [← e5, ByteArray.size_append]
      have n5 : ¬ (9223372036854775807 < Y4.size + N3.size) := by omega
      obtain ⟨Y6, e6⟩ : ∃ Y : ByteArray, Y5 ++ N4 = Y := ⟨_, rfl⟩
      have s6 : Y6.size = Y5.size + N4.size := by rw [← e6, ByteArray.size_append]
      have n6 : ¬ (9223372036854775807 < Y5.size + N4.size) := by omega
      obtain ⟨Y7, e7⟩ : ∃ Y : ByteArray, Y6 ++ FJ = Y := ⟨_, rfl⟩
      have s7 : Y7.size = Y6.size + FJ.size := by rw [← e7, ByteArray.size_append]
      have n7 : ¬ (9223372036854775807 < Y6.size + FJ.size) := by omega
      have hJ := Lib.hid (show Y7 = ⟨(q2L g mx true (R : Int) ev ss).toArray⟩ from by
        apply bext9
        rw [hq2 g hgl, ← e7, ← e6, ← e5, ← e4, ← e3, ← e2, ← e1, bapp9, bapp9, bapp9, bapp9, bapp9, bapp9, bapp9, d1, d2, d3, d4, Fd]
        have h0 : (⟨#[130, 0, 0, 0]⟩ : ByteArray).data.toList = bytesOf 130 1 ++ bytesOf 0 3 := rfl
        have h1 : (⟨#[0, 0]⟩ : ByteArray).data.toList = bytesOf 0 2 := rfl
        rw [h0, h1]
        simp only [List.append_assoc])
      have B0 := Lib.hid (Box.start w #[.int .i64 1, .int .i64 2, .string g, .int .i64 mx, .bool true, .int .i64 (R : Int), .int .i64 ev, .slice ps ss.length cs, .slice pr nr cr] 28)
      have A1 := ha.below B0.out.2
      have kq : K9 w #[.int .i64 1, .int .i64 2, .string g, .int .i64 mx, .bool true, .int .i64 (R : Int), .int .i64 ev, .slice ps ss.length cs, .slice pr nr cr] (.slice ps ss.length cs) ss (w.alloc (.cells #[.int .i64 1, .int .i64 2, .string g, .int .i64 mx, .bool true, .int .i64 (R : Int), .int .i64 ev, .slice ps ss.length cs, .slice pr nr cr] 28)) := ⟨B0.out, A1⟩
      have w8 : wrap64 ((R : Int) + 8) = (R : Int) + 8 := by unfold wrap64; omega
      clear hfn
      clear A1 hq2 hf hfl hN1 d1 z1 hN2 d2 z2 hN3 d3 z3 hN4 d4 z4 Fd Fz hFJ hs ha hm he hg s1 s2 s3 s4 s5 s6 s7 hz hgl hf8
      have NN := Lib.hid (And.intro n1 (And.intro n2 (And.intro n3 (And.intro n4 (And.intro n5 (And.intro n6 n7))))))
      have EE := Lib.hid (And.intro e1 (And.intro e2 (And.intro e3 (And.intro e4 (And.intro e5 (And.intro e6 e7))))))
      clear n1 n2 n3 n4 n5 n6 n7 e1 e2 e3 e4 e5 e6 e7
      go_enter Tryz.func15, Tryz.ntmps15
      go_wp2_with fail
      ((with_reducible refine (HX.out _).mono ?_); rintro e w1 ⟨rfl, rfl⟩)
      go_wp2_with fail
      ((with_reducible refine (HY.out _).mono ?_); rintro e w2 ⟨rfl, rfl⟩)
      go_upto_region 12 with fail
      obtain ⟨n1, n2, n3, n4, n5, n6, n7⟩ := NN.out
      obtain ⟨e1, e2, e3, e4, e5, e6, e7⟩ := EE.out
      have c7 := B0.out.cell 7 rfl
      generalize (w.alloc _) = W at kq c7 ⊢
      go_region_held3 (fun w' => w'.cell? ⟨w.heap.size, 7, none⟩ = some (.slice ps ss.length cs) ∧ K9 w #[.int .i64 1, .int .i64 2, .string g, .int .i64 mx, .bool true, .int .i64 (R : Int), .int .i64 ev, .slice ps ss.length cs, .slice pr nr cr] (.slice ps ss.length cs) ss w')
        (first | (refine ⟨?_, ?_⟩ <;> first | assumption | exact K9.drew (by assumption) | (simp; done)))
        (first
          | (go_at_call 34; (with_reducible refine (K1.out _ ?_).mono ?_); (first | assumption | exact K9.drew (by assumption)); rintro e w' ⟨rfl, e0, e9⟩)
          | (go_at_call 34; (with_reducible refine (K2.out _ ?_).mono ?_); (first | assumption | exact K9.drew (by assumption)); rintro e w' ⟨rfl, e0, e9⟩)
          | (go_at_call 34; (with_reducible refine (K3.out _ ?_).mono ?_); (first | assumption | exact K9.drew (by assumption)); rintro e w' ⟨rfl, e0, e9⟩)
          | (go_at_call 34; (with_reducible refine (K4.out _ ?_).mono ?_); (first | assumption | exact K9.drew (by assumption)); rintro e w' ⟨rfl, e0, e9⟩)
          | (go_at_call 37; (with_reducible refine (K5.out _ ?_).mono ?_); (first | assumption | exact K9.drew (by assumption)); rintro e w' ⟨rfl, e0, e9⟩))
      go_wp2_with fail
      go_ret
      refine ⟨?_, K9.out e9⟩
      rw [hJ.out]
      rfl

theorem grp6_16 {g : ByteArray} {n : Nat} (h : qGrp6 g n = true) : g.size ≤ 16 := by
  unfold qGrp6 at h
  split at h
  · omega
  · unfold grpB at h
    rw [Bool.and_eq_true, decide_eq_true_iff] at h
    omega
/-- Its bytes, of every message that may be. -/
theorem rbytes9_c (m : Msg) (vs vr : Value) (w : World) (hl : m.srcs.length ≤ 9223372036854775807) (hr : m.recs.length ≤ 65535) (hs : ∀ r ∈ m.recs, r.srcs.length ≤ 9223372036854775807) (ha : AddrsAt w vs m.srcs) (hb : RecsAt w vr m.recs) (h : mayD m = true) :
    Calls Tryz.prog 15 #[m.val vs vr] w fun e w' => e = .returned (.string ⟨(msgD m).toArray⟩) ∧ Below w.heap.size w w' := by
  have hlen := (msgD_len m h).2
  obtain ⟨k, v, g, mx, q, rob, ev, ss, L⟩ := m
  simp only [Msg.val] at *
  obtain ⟨p7, c7, rfl⟩ := ha.slice
  obtain ⟨p8, c8, rfl⟩ := hb.slice
  unfold mayD at h
  unfold msgD at hlen ⊢
  simp only at h hlen ⊢
  by_cases h1 : k = 1
  · subst h1
    rw [if_pos rfl] at h hlen ⊢
    rw [Bool.and_eq_true] at h
    obtain ⟨-, h⟩ := h
    by_cases h2 : v = 2
    · subst h2
      rw [if_pos rfl] at h ⊢
      unfold q2OK detOK at h
      simp only [Bool.and_eq_true, decide_eq_true_iff] at h
      obtain ⟨⟨hc, hg⟩, ⟨⟨⟨hr0, hr7⟩, hce⟩, h60⟩, h16⟩ := h
      obtain ⟨M, hM, hm, -⟩ := coded_nat hc
      obtain ⟨C, hC, he, -⟩ := coded_nat hce
      obtain ⟨R, rfl⟩ := Int.eq_ofNat_of_zero_le hr0
      have hf := all16_len ss h16
      exact rbytes9_q2 g mx q R ev p7 c7 ss p8 _ c8 M C w (by omega) (by omega) (by omega) hm he (grp6_16 hg) h60 (by omega) ha
    · rw [if_neg h2] at h ⊢
      unfold q1OK at h
      rw [putB2] at h
      simp only [Bool.and_eq_true, decide_eq_true_iff] at h
      obtain ⟨⟨⟨rfl, -⟩, hm0, hm1⟩, hg⟩ := h
      obtain ⟨M, rfl⟩ := Int.eq_ofNat_of_zero_le hm0
      exact rbytes9_q1 g M q rob ev p7 _ c7 p8 _ c8 w (by omega) (grp6_16 hg)
  · rw [if_neg h1] at h hlen ⊢
    by_cases h3 : k = 2 ∨ k = 3
    · rw [if_pos h3] at h
      rw [Bool.and_eq_true] at h
      obtain ⟨-, h⟩ := h
      unfold tellOK at h
      unfold tellL at hlen ⊢
      by_cases h2 : k = 2 ∧ v = 2
      · obtain ⟨rfl, rfl⟩ := h2
        rw [if_pos ⟨rfl, rfl⟩] at h hlen ⊢
        unfold rec6OK at h
        simp only [Bool.and_eq_true, decide_eq_true_iff] at h
        obtain rfl := bytes_empty h.1
        exact rbytes9_rep mx q rob ev p7 _ c7 p8 c8 L w hr hlen hs hb
      · rw [if_neg h2] at h ⊢
        unfold oneOK at h
        simp only [Bool.and_eq_true, decide_eq_true_iff] at h
        obtain ⟨⟨rfl, hg⟩, -⟩ := h
        have hgz := (grp16 hg).2
        rcases h3 with rfl | rfl
        · rw [if_pos rfl]
          exact rbytes9_one 2 131 g mx q rob ev p7 _ c7 p8 _ c8 w (.inl ⟨rfl, rfl⟩) hgz
        · rw [if_neg (by decide)]
          exact rbytes9_one 3 132 g mx q rob ev p7 _ c7 p8 _ c8 w (.inr ⟨rfl, rfl⟩) hgz
    · rw [if_neg h3] at h
      cases h

set_option maxHeartbeats 2000000 in
set_option maxRecDepth 100000 in
/-- Encode, the document's answer, at every message. -/
theorem renc9_c (src dst : ByteArray) (m : Msg) (vs vr : Value) (w : World) (hl : m.srcs.length ≤ 9223372036854775807) (hr : m.recs.length ≤ 65535) (hs : ∀ r ∈ m.recs, r.srcs.length ≤ 9223372036854775807) (ha : AddrsAt w vs m.srcs) (hb : RecsAt w vr m.recs) :
    Calls Tryz.prog 7 #[.string src, .string dst, m.val vs vr] w fun e w' => e = .returned (.tuple #[.string (encD src dst m).1, .int .i64 (encD src dst m).2]) ∧ Below w.heap.size w w' := by
  have HM := Lib.hid fun U (h1 : AddrsAt U vs m.srcs) (h2 : RecsAt U vr m.recs) => rmay9_c m vs vr U hl (by omega) hs h1 h2
  have HBy := fun h => Lib.hid fun U h1 h2 => rbytes9_c m vs vr U hl hr hs h1 h2 h
  have hno := encD_no src dst m
  have hyes := fun h => msgD_len m h
  have hE : encD src dst m = if mayD m = true ∧ (aheadI src dst (msgD m).length).2 = 0 then fillSpec (aheadI src dst (msgD m).length).1 ⟨(msgD m).toArray⟩ 2 else (⟨#[]⟩, 1) := rfl
  have hok : src.size ≠ 16 ∨ dst.size ≠ 16 → encD src dst m = (⟨#[]⟩, 1) := fun h => hno (fun k => by have := ahead_ok k.2; omega)
  have A1 := ha
  have A2 := hb
  by_cases s1 : (src.size : Int) = 16
  · obtain ⟨a1, b1⟩ := eq_t s1
    by_cases s2 : (dst.size : Int) = 16
    · obtain ⟨a2, b2⟩ := eq_t s2
      rcases h : mayD m with _ | _
      · have V := Lib.hid (hno (by rw [h]; simp))
        rw [h] at HM
        clear HBy hno hyes hE hok h
        generalize encD src dst m = E at *
        obtain ⟨k, v, g, mx, q, rob, ev, ss, L⟩ := m
        simp only [Msg.val] at *
        obtain ⟨p7, c7, rfl⟩ := ha.slice
        obtain ⟨p8, c8, rfl⟩ := hb.slice
        have B0 := Lib.hid (Box.start w #[.int .i64 k, .int .i64 v, .string g, .int .i64 mx, .bool q, .int .i64 rob, .int .i64 ev, .slice p7 ss.length c7, .slice p8 L.length c8] 28)
        have A3 := ha.below B0.out.2
        have A4 := hb.below B0.out.2
        clear A1 A2 s1 s2
        go_enter Tryz.func7, Tryz.ntmps7
        go_wp2_with fail
        ((with_reducible refine (HM.out _ A3 A4).mono ?_); rintro e w1 ⟨rfl, h1⟩)
        have B := Lib.hid (B0.out.below h1)
        clear h1
        go_wp2_with fail
        go_ret2
        exact ⟨by rw [V.out]; rfl, B.out.2⟩
      · obtain ⟨y1, y2⟩ := hyes h
        have hAI := ahead_is (src := src) (dst := dst) (n := (msgD m).length) (by omega) (by omega) (by omega) (by omega)
        have h40 := ahead_40 (src := src) (dst := dst) (n := (msgD m).length) (by omega) (by omega) (by omega) (by omega)
        have hps : pseudoSpec src dst (msgD m).length 58 = aheadI src dst (msgD m).length := by unfold aheadI; rw [if_neg (by omega)]
        have HPs := Lib.hid fun U => rpseudo_c src dst (msgD m).length 58 U
        rw [hps] at HPs
        have h2 : (aheadI src dst (msgD m).length).2 = 0 := by rw [hAI]
        rw [if_pos ⟨h, h2⟩] at hE
        have hX : (⟨(msgD m).toArray⟩ : ByteArray).size = (msgD m).length := by rw [ByteArray.size_mk', List.size_toArray]
        have HB2 := HBy h
        rw [h] at HM
        generalize aheadI src dst (msgD m).length = AH at *
        obtain ⟨AA, AE⟩ := AH
        simp only at h2 h40 hE HPs
        have HFi := Lib.hid fun U => rfill_c AA ⟨(msgD m).toArray⟩ 2 U (by omega) (by omega)
        have hz : (fillSpec AA ⟨(msgD m).toArray⟩ 2).2 = 0 := by
          have hfb : ¬ fillBad AA ⟨(msgD m).toArray⟩ 2 := by unfold fillBad; omega
          unfold fillSpec
          rw [if_neg hfb]
        have V := Lib.hid (show encD src dst m = ((fillSpec AA ⟨(msgD m).toArray⟩ 2).1, 0) from by rw [hE, ← hz])
        rw [← hX] at HPs
        generalize (fillSpec AA ⟨(msgD m).toArray⟩ 2).1 = F1 at *
        generalize (fillSpec AA ⟨(msgD m).toArray⟩ 2).2 = F2 at *
        generalize (⟨(msgD m).toArray⟩ : ByteArray) = X at *
        generalize encD src dst m = E at *
        clear HBy hno hyes hE hok h y1 y2 hAI h40 hps h2 hX hz
        obtain ⟨k, v, g, mx, q, rob, ev, ss, L⟩ := m
        simp only [Msg.val] at *
        obtain ⟨p7, c7, rfl⟩ := ha.slice
        obtain ⟨p8, c8, rfl⟩ := hb.slice
        have B0 := Lib.hid (Box.start w #[.int .i64 k, .int .i64 v, .string g, .int .i64 mx, .bool q, .int .i64 rob, .int .i64 ev, .slice p7 ss.length c7, .slice p8 L.length c8] 28)
        have A3 := ha.below B0.out.2
        have A4 := hb.below B0.out.2
        clear A1 A2 s1 s2
        go_enter Tryz.func7, Tryz.ntmps7
        go_wp2_with fail
        ((with_reducible refine (HM.out _ A3 A4).mono ?_); rintro e w1 ⟨rfl, h1⟩)
        have B := Lib.hid (B0.out.below h1)
        have A5 := A3.below h1
        have A6 := A4.below h1
        clear h1 A3 A4
        have x0 := B.out.cell 0 rfl
        have x1 := B.out.cell 1 rfl
        have x2 := B.out.cell 2 rfl
        have x3 := B.out.cell 3 rfl
        have x4 := B.out.cell 4 rfl
        have x5 := B.out.cell 5 rfl
        have x6 := B.out.cell 6 rfl
        have x7 := B.out.cell 7 rfl
        have x8 := B.out.cell 8 rfl
        go_wp2_with fail
        ((with_reducible refine (HB2.out _ A5 A6).mono ?_); rintro e w2 ⟨rfl, h2⟩)
        replace B := Lib.hid (B.out.below h2)
        clear h2 A5 A6 x0 x1 x2 x3 x4 x5 x6 x7 x8
        go_wp2_with fail
        ((with_reducible refine (HPs.out _).mono ?_); rintro e w3 ⟨rfl, h3⟩)
        replace B := Lib.hid (B.out.below h3)
        clear h3
        go_wp2_with fail
        ((with_reducible refine (HFi.out _).mono ?_); rintro e w4 ⟨rfl, h4⟩)
        replace B := Lib.hid (B.out.below h4)
        clear h4
        go_wp2_with fail
        go_ret2
        exact ⟨by rw [V.out]; rfl, B.out.2⟩
    · obtain ⟨a2, b2⟩ := ne_t s2
      have V := Lib.hid (hok (.inr (by omega)))
      clear HBy hno hyes hE hok HM
      generalize encD src dst m = E at *
      obtain ⟨k, v, g, mx, q, rob, ev, ss, L⟩ := m
      simp only [Msg.val] at *
      obtain ⟨p7, c7, rfl⟩ := ha.slice
      obtain ⟨p8, c8, rfl⟩ := hb.slice
      have B0 := Lib.hid (Box.start w #[.int .i64 k, .int .i64 v, .string g, .int .i64 mx, .bool q, .int .i64 rob, .int .i64 ev, .slice p7 ss.length c7, .slice p8 L.length c8] 28)
      have A3 := ha.below B0.out.2
      have A4 := hb.below B0.out.2
      clear A1 A2 s1 s2
      go_enter Tryz.func7, Tryz.ntmps7
      go_wp2_with fail
      go_ret2
      exact ⟨by rw [V.out]; rfl, B0.out.2⟩
  · obtain ⟨a1, b1⟩ := ne_t s1
    have V := Lib.hid (hok (.inl (by omega)))
    clear HBy hno hyes hE hok HM
    generalize encD src dst m = E at *
    obtain ⟨k, v, g, mx, q, rob, ev, ss, L⟩ := m
    simp only [Msg.val] at *
    obtain ⟨p7, c7, rfl⟩ := ha.slice
    obtain ⟨p8, c8, rfl⟩ := hb.slice
    have B0 := Lib.hid (Box.start w #[.int .i64 k, .int .i64 v, .string g, .int .i64 mx, .bool q, .int .i64 rob, .int .i64 ev, .slice p7 ss.length c7, .slice p8 L.length c8] 28)
    have A3 := ha.below B0.out.2
    have A4 := hb.below B0.out.2
    clear A1 A2 s1
    go_enter Tryz.func7, Tryz.ntmps7
    go_wp2_with fail
    go_ret2
    exact ⟨by rw [V.out]; rfl, B0.out.2⟩

end Go.Proofs.YtniahpbjfpmmhaaGreat
