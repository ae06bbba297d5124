/-
  Reading records, the document's answer: siphonref08.Records.
  Reading records, the document's answer: siphonref08.Records at every argument.
-/
import Derived.Test.YtnfngmclomjimaaGreatIgH
namespace Go.Proofs.YtnfngmclomjimaaGreat
open Go.RowKit
set_option linter.unusedVariables false

/-- What stands from a place on. -/
def suf (s : ByteArray) (a : Nat) : ByteArray := s.extract a s.size
theorem suf_size (s : ByteArray) (a : Nat) : (suf s a).size = s.size - a := by unfold suf; simp
theorem suf_data (s : ByteArray) (a : Nat) : (suf s a).data.toList = s.data.toList.drop a := by
  unfold suf
  rw [Lib.extract_data, List.take_of_length_le (by simp)]
theorem suf_subs (s : ByteArray) (a i n : Nat) : subs (suf s a) i n = subs s (a + i) n := by
  unfold subs
  rw [suf_data, List.drop_drop]
theorem suf_numv (s : ByteArray) (a i : Nat) (w : Nat) (h1 : 1 ≤ w) (h4 : w ≤ 4) (h : a + i + w ≤ s.size) : numv (suf s a) i w = numv s (a + i : Nat) w := by
  have hz := suf_size s a
  rw [numv_of _ i w h1 h4 (by omega), numv_of s (a + i) w h1 h4 (by omega), suf_subs]
theorem suf_ext (s : ByteArray) (a i n : Nat) : (suf s a).extract i (i + n) = s.extract (a + i) (a + i + n) := by
  rw [extract_mk, extract_mk, suf_subs]
theorem suf_suf (s : ByteArray) (a b : Nat) : (suf s a).extract b (suf s a).size = suf s (a + b) := by
  apply ByteArray.ext
  apply Array.toList_inj.1
  have h1 := suf_data (suf s a) b
  have h2 := suf_data s (a + b)
  unfold suf at h1 h2 ⊢
  rw [h1, h2]
  have h3 := suf_data s a
  unfold suf at h3
  rw [h3, List.drop_drop]
theorem suf_addrs (s : ByteArray) (a b n size : Nat) : addrsL (suf s a) b n size = addrsL s (a + b) n size := by
  unfold addrsL
  refine List.map_congr_left fun i _ => ?_
  rw [suf_ext]
  congr 1 <;> omega
theorem suf_zero (s : ByteArray) : suf s 0 = s := by
  apply ByteArray.ext
  apply Array.toList_inj.1
  rw [suf_data, List.drop_zero]

theorem suf_rec (s : ByteArray) (a Z : Nat) (ha : a ≤ s.size) : recOf (suf s a) 0 Z = recOf s a Z := by
  have hz := suf_size s a
  unfold recOf
  by_cases h : s.size < a + 4 + Z
  · rw [if_pos (by omega), if_pos h]
  · rw [if_neg (by omega), if_neg h]
    have e2 : numv (suf s a) 2 2 = numv s (a + 2 : Nat) 2 := suf_numv s a 2 2 (by omega) (by omega) (by omega)
    have e1 : numv (suf s a) 1 1 = numv s (a + 1 : Nat) 1 := suf_numv s a 1 1 (by omega) (by omega) (by omega)
    have e0 : numv (suf s a) 0 1 = numv s a 1 := suf_numv s a 0 1 (by omega) (by omega) (by omega)
    have eg := suf_ext s a 4 Z
    simp only [Nat.zero_add]
    rw [show ((2 : Nat) : Int) = 2 from rfl, show ((1 : Nat) : Int) = 1 from rfl, show ((0 : Nat) : Int) = 0 from rfl]
    rw [e2, e1, e0, eg, hz, suf_addrs, ← Nat.add_assoc a 4 Z]
    by_cases h2 : s.size < a + (4 + Z + (numv s (a + 2 : Nat) 2).toNat * Z + 4 * (numv s (a + 1 : Nat) 1).toNat)
    · rw [if_pos (by omega), if_pos h2]
    · rw [if_neg (by omega), if_neg h2]

/-- What recOf says, case by case. -/
theorem rec_cases (T : ByteArray) (Z : Nat) (hZ : Z ≤ 16) :
    (T.size < 4 + Z ∧ recOf T 0 Z = (2, ⟨0, ⟨#[]⟩, []⟩, 0)) ∨
    (∃ C N : Nat, 4 + Z ≤ T.size ∧ numv T 2 2 = C ∧ byt T 1 = N ∧ C ≤ 65535 ∧ N ≤ 255 ∧ C * Z ≤ 1048560 ∧
      ((T.size < 4 + Z + C * Z + 4 * N ∧ recOf T 0 Z = (2, ⟨0, ⟨#[]⟩, []⟩, 0)) ∨
       (4 + Z + C * Z + 4 * N ≤ T.size ∧ 60 < C ∧ recOf T 0 Z = (3, ⟨0, ⟨#[]⟩, []⟩, 0)) ∨
       (4 + Z + C * Z + 4 * N ≤ T.size ∧ C ≤ 60 ∧ grpB (T.extract 4 (4 + Z)) Z = false ∧ recOf T 0 Z = (3, ⟨0, ⟨#[]⟩, []⟩, 0)) ∨
       (4 + Z + C * Z + 4 * N ≤ T.size ∧ C ≤ 60 ∧ grpB (T.extract 4 (4 + Z)) Z = true ∧ recOf T 0 Z = (0, ⟨byt T 0, T.extract 4 (4 + Z), addrsL T (4 + Z) C Z⟩, 4 + Z + C * Z + 4 * N)))) := by
  by_cases h : T.size < 4 + Z
  · exact .inl ⟨h, by unfold recOf; rw [if_pos (by omega)]⟩
  · refine .inr ?_
    have b2 := numv_le2 T 2
    have b1 := numv_le1 T 1
    obtain ⟨C, hC⟩ := Int.eq_ofNat_of_zero_le b2.1
    have hN : numv T 1 1 = (byt T 1 : Int) := by
      have := numv_byte T 1 (by omega)
      rw [byt_get T 1 (by omega)] at this
      exact this
    have h0 : numv T 0 1 = (byt T 0 : Int) := by
      have := numv_byte T 0 (by omega)
      rw [byt_get T 0 (by omega)] at this
      exact this
    rw [hN] at b1
    rw [hC] at b2
    refine ⟨C, byt T 1, by omega, hC, rfl, by omega, by omega, Nat.le_trans (Nat.mul_le_mul (show C ≤ 65535 by omega) hZ) (by omega), ?_⟩
    have e : recOf T 0 Z = if T.size < 0 + 4 + Z then (2, ⟨0, ⟨#[]⟩, []⟩, 0) else if T.size < 4 + Z + C * Z + 4 * byt T 1 then (2, ⟨0, ⟨#[]⟩, []⟩, 0) else if 60 < C ∨ grpB (T.extract 4 (4 + Z)) Z = false then (3, ⟨0, ⟨#[]⟩, []⟩, 0) else (0, ⟨byt T 0, T.extract 4 (4 + Z), addrsL T (4 + Z) C Z⟩, 4 + Z + C * Z + 4 * byt T 1) := by
      unfold recOf
      simp only [Nat.zero_add]
      rw [show ((2 : Nat) : Int) = 2 from rfl, show ((1 : Nat) : Int) = 1 from rfl, show ((0 : Nat) : Int) = 0 from rfl, hC, hN, h0]
      simp only [Int.toNat_natCast]
    rw [if_neg (by omega)] at e
    by_cases h1 : T.size < 4 + Z + C * Z + 4 * byt T 1
    · rw [if_pos h1] at e
      exact .inl ⟨h1, e⟩
    · rw [if_neg h1] at e
      by_cases h2 : 60 < C
      · rw [if_pos (.inl h2)] at e
        exact .inr (.inl ⟨by omega, h2, e⟩)
      · rcases hg : grpB (T.extract 4 (4 + Z)) Z with _ | _
        · rw [if_pos (.inr hg)] at e
          exact .inr (.inr (.inl ⟨by omega, by omega, rfl, e⟩))
        · rw [if_neg (by rw [hg]; simp; omega)] at e
          exact .inr (.inr (.inr ⟨by omega, by omega, rfl, e⟩))

theorem cells3s (w : World) (b o : Nat) (v x y z : Value) (t : TypeId) : ∀ j u, [x, y, z][j]? = some u → ((w.setCell ⟨b, o, none⟩ v).alloc (.cells #[x, y, z] t)).cell? ((⟨w.heap.size, 0, none⟩ : Addr).add j) = some u := by
  intro j u hj
  have hb : ((w.setCell ⟨b, o, none⟩ v).alloc (.cells #[x, y, z] t)).heap[w.heap.size]? = some (.cells #[x, y, z] t (0, 0)) := by
    have := heap_new (w.setCell ⟨b, o, none⟩ v) (.cells #[x, y, z] t)
    simpa using this
  have e : (⟨w.heap.size, 0, none⟩ : Addr).add j = ⟨w.heap.size, j, none⟩ := by unfold Addr.add; split <;> simp_all
  rw [e]
  exact cell_of_block hb (by simpa using hj)
theorem Box.set {w0 w : World} {xs : Array Value} {t : TypeId} (h : Box w0 w xs t) (j : Nat) (v : Value) : Box w0 (w.setCell ⟨w0.heap.size, j, none⟩ v) (xs.setIfInBounds j v) t :=
  ⟨heap_store h.1, h.2.setCell (p := ⟨w0.heap.size, j, none⟩) (Nat.le_refl _) _⟩

set_option maxHeartbeats 4000000 in
set_option maxRecDepth 100000 in
theorem rrecs_go (s : ByteArray) (n Z : Nat) (w : World) (hs : s.size ≤ 281474976710000) (hZ : Z = 4 ∨ Z = 16) (hn : n ≤ 30) :
    Calls Tryz.prog 18 #[.string s, .int .i64 n, .int .i64 Z] w (RecsPost (recsGo s Z n 0) w) := by
  have hn' : (n : Int) ≤ 30 := by omega
  have h0' : (0 : Int) ≤ (n : Int) := by omega
  have hZ16 : (Z : Int) ≤ 16 := by omega
  have hZ0 : (0 : Int) ≤ (Z : Int) := by omega
  obtain ⟨i0, hi, hz1, hz2⟩ := info_rec0
  have hz0 : i0.zero = some (.agg #[.int .i64 0, .string ⟨#[]⟩, .slice none 0 0]) := by
    have h := info_recz
    rw [hi] at h
    simpa using h
  have H0 := Lib.hid (comb_nil (recsGo s Z n 0) (recsGo_err s Z n 0))
  have HZ := Lib.hid hZ
  have hZt : (((Z : Int) == 4) = true ∧ ((Z : Int) != 4) = false) ∨ (((Z : Int) == 4) = false ∧ ((Z : Int) != 4) = true ∧ ((Z : Int) == 16) = true ∧ ((Z : Int) != 16) = false) := by
    rcases hZ with rfl | rfl
    · exact .inl ⟨rfl, rfl⟩
    · exact .inr ⟨rfl, rfl, rfl, rfl⟩
  clear hZ
  rcases hZt with ⟨z1, z2⟩ | ⟨z1, z2, z3, z4⟩
  all_goals
    go_enter Tryz.func18, Tryz.ntmps18
    go_wp2_with fail
    go_loopw [0, 8, 9, 10, 11, 12] (fun t v i _ _ _ wr => ∃ (k a : Nat) (T : ByteArray) (acc : List Rec) (xs : List Value), k ≤ n ∧ a ≤ s.size ∧ i = .int .i64 k ∧ t = .string T ∧ Hid (T = suf s a) ∧ acc.length ≤ k ∧ Hid (wr.ownsRow w.heap.size 56 3 v acc.length xs) ∧ Hid (RowsOf w.heap.size wr xs acc) ∧ Hid (comb acc (recsGo s Z (n - k) a) = recsGo s Z n 0) ∧ Hid (Below w.heap.size w wr)) (fun _ _ i _ _ _ _ => n - (intOf i).toNat)
    case atStart => exact ⟨0, 0, s, [], [], Nat.zero_le _, Nat.zero_le _, rfl, rfl, Lib.hid (suf_zero s).symm, Nat.le_refl _, Lib.hid (World.ownsRow_nil _ _ _ _), Lib.hid trivial, H0, Lib.hid (Below.refl _ _)⟩
    case round =>
      obtain ⟨k, a, T, acc, xs, hk, ha, rfl, rfl, hT, hac, hown, hrows, hcomb, hb⟩ := hrel
      by_cases hlt : k < n
      · have hlt' : (k : Int) < (n : Int) := by omega
        have hnk : n - k = (n - (k + 1)) + 1 := by omega
        rw [hnk] at hcomb
        have HBad := Lib.hid fun h => (recsGo_bad s Z (n - (k + 1)) a acc h).symm.trans hcomb.out
        have HGood := Lib.hid fun h => (recsGo_good s Z (n - (k + 1)) a acc h).symm.trans hcomb.out
        have hTz : T.size = s.size - a := by rw [hT.out, suf_size]
        have hTs : T.size ≤ 281474976710000 := by omega
        have hr := suf_rec s a Z ha
        rw [← hT.out] at hr
        rw [← hr] at HBad HGood
        have HT2 := Lib.hid hTz
        clear hnk hTz hr
        rcases rec_cases T Z (by have := HZ.out; omega) with ⟨c1, e1⟩ | ⟨C, N, c0, hC, hN, hC6, hN2, hP, ⟨c1, e1⟩ | ⟨c1, c2, e1⟩ | ⟨c1, c2, c3, e1⟩ | ⟨c1, c2, c3, e1⟩⟩
        · rw [e1] at HBad
          have HG := Lib.hid (HBad.out (by decide))
          have c1' : (T.size : Int) < 4 + (Z : Int) := by omega
          clear HGood HBad e1
          go_wp2_with fail
          go_ret2
          unfold RecsPost
          rw [← HG.out]
          exact ⟨_, rfl, RecsG.nil _ _ _, hb.out⟩
        · rw [e1] at HBad
          have HG := Lib.hid (HBad.out (by decide))
          have c0' : 4 + (Z : Int) ≤ (T.size : Int) := by omega
          have u1 : (1 : Int) < (T.size : Int) := by omega
          have u0 : (0 : Int) < (T.size : Int) := by omega
          have uN : 0 < T.size := by omega
          have hb1 : (T[1].toNat : Int) = (N : Int) := by rw [byt_get T 1 (by omega), hN]
          have hm : ((C * Z : Nat) : Int) = (C : Int) * (Z : Int) := by push_cast; rfl
          have p0 : 0 ≤ (C : Int) * (Z : Int) := by rw [← hm]; omega
          have p1 : (C : Int) * (Z : Int) ≤ 1048560 := by rw [← hm]; omega
          have hw0 : wrap64 (T[0].toNat : Int) = (byt T 0 : Int) := by rw [wrap_b, byt_get T 0 (by omega)]
          have HV := Lib.hid fun U => vat_c T 2 2 U (by omega) (by omega) (by omega)
          rw [hC] at HV
          have hC6' : (C : Int) ≤ 65535 := by omega
          have hN2' : (N : Int) ≤ 255 := by omega
          have c1' : (T.size : Int) < 4 + (Z : Int) + (C : Int) * (Z : Int) + 4 * (N : Int) := by rw [← hm]; omega
          clear HGood HBad e1 hm hC hN hP c1
          go_wp2_with fail
          refine (HV.out _).mono ?_
          rintro e w1 ⟨rfl, rfl⟩
          go_wp2_with fail
          go_ret2
          unfold RecsPost
          rw [← HG.out]
          exact ⟨_, rfl, RecsG.nil _ _ _, hb.out⟩
        · rw [e1] at HBad
          have HG := Lib.hid (HBad.out (by decide))
          have c0' : 4 + (Z : Int) ≤ (T.size : Int) := by omega
          have u1 : (1 : Int) < (T.size : Int) := by omega
          have u0 : (0 : Int) < (T.size : Int) := by omega
          have uN : 0 < T.size := by omega
          have hb1 : (T[1].toNat : Int) = (N : Int) := by rw [byt_get T 1 (by omega), hN]
          have hm : ((C * Z : Nat) : Int) = (C : Int) * (Z : Int) := by push_cast; rfl
          have p0 : 0 ≤ (C : Int) * (Z : Int) := by rw [← hm]; omega
          have p1 : (C : Int) * (Z : Int) ≤ 1048560 := by rw [← hm]; omega
          have hw0 : wrap64 (T[0].toNat : Int) = (byt T 0 : Int) := by rw [wrap_b, byt_get T 0 (by omega)]
          have HV := Lib.hid fun U => vat_c T 2 2 U (by omega) (by omega) (by omega)
          rw [hC] at HV
          have hC6' : (C : Int) ≤ 65535 := by omega
          have hN2' : (N : Int) ≤ 255 := by omega
          have c1' : 4 + (Z : Int) + (C : Int) * (Z : Int) + 4 * (N : Int) ≤ (T.size : Int) := by rw [← hm]; omega
          have c2' : (60 : Int) < (C : Int) := by omega
          have t1 : ((4 : Int) + (Z : Int)).toNat = 4 + Z := by omega
          clear HGood HBad e1 hm hC hN hP c1 c2
          go_wp2_with fail
          refine (HV.out _).mono ?_
          rintro e w1 ⟨rfl, rfl⟩
          go_wp2_with fail
          go_region
          all_goals
            go_wp2_with fail
            go_ret2
            unfold RecsPost
            rw [← HG.out]
            exact ⟨_, rfl, RecsG.nil _ _ _, (hb.out.alloc hb.out.size _).drew⟩
        · rw [e1] at HBad
          have HG := Lib.hid (HBad.out (by decide))
          have c0' : 4 + (Z : Int) ≤ (T.size : Int) := by omega
          have u1 : (1 : Int) < (T.size : Int) := by omega
          have u0 : (0 : Int) < (T.size : Int) := by omega
          have uN : 0 < T.size := by omega
          have hb1 : (T[1].toNat : Int) = (N : Int) := by rw [byt_get T 1 (by omega), hN]
          have hm : ((C * Z : Nat) : Int) = (C : Int) * (Z : Int) := by push_cast; rfl
          have p0 : 0 ≤ (C : Int) * (Z : Int) := by rw [← hm]; omega
          have p1 : (C : Int) * (Z : Int) ≤ 1048560 := by rw [← hm]; omega
          have hw0 : wrap64 (T[0].toNat : Int) = (byt T 0 : Int) := by rw [wrap_b, byt_get T 0 (by omega)]
          have HV := Lib.hid fun U => vat_c T 2 2 U (by omega) (by omega) (by omega)
          rw [hC] at HV
          have hC6' : (C : Int) ≤ 65535 := by omega
          have hN2' : (N : Int) ≤ 255 := by omega
          have c1' : 4 + (Z : Int) + (C : Int) * (Z : Int) + 4 * (N : Int) ≤ (T.size : Int) := by rw [← hm]; omega
          have d60 : decide ((60 : Int) < (C : Int)) = false := decide_eq_false (by omega)
          have t1 : ((4 : Int) + (Z : Int)).toNat = 4 + Z := by omega
          have HGr := Lib.hid fun U => rgroup_c (T.extract 4 (4 + Z)) Z U
          rw [c3] at HGr
          clear HGood HBad e1 hm hC hN hP c1 c2 c3
          go_wp2_with fail
          refine (HV.out _).mono ?_
          rintro e w1 ⟨rfl, rfl⟩
          go_wp2_with fail
          go_region
          all_goals
            go_wp2_with fail
            ((with_reducible refine (HGr.out _).mono ?_); rintro e w2 ⟨rfl, rfl⟩)
            go_wp2_with fail
            go_ret2
            unfold RecsPost
            rw [← HG.out]
            exact ⟨_, rfl, RecsG.nil _ _ _, (hb.out.alloc hb.out.size _).drew⟩
        · rw [e1] at HGood
          have HG := Lib.hid (HGood.out rfl)
          have c0' : 4 + (Z : Int) ≤ (T.size : Int) := by omega
          have u1 : (1 : Int) < (T.size : Int) := by omega
          have u0 : (0 : Int) < (T.size : Int) := by omega
          have uN : 0 < T.size := by omega
          have hb1 : (T[1].toNat : Int) = (N : Int) := by rw [byt_get T 1 (by omega), hN]
          have hm : ((C * Z : Nat) : Int) = (C : Int) * (Z : Int) := by push_cast; rfl
          have p0 : 0 ≤ (C : Int) * (Z : Int) := by rw [← hm]; omega
          have p1 : (C : Int) * (Z : Int) ≤ 1048560 := by rw [← hm]; omega
          have hw0 : wrap64 (T[0].toNat : Int) = (byt T 0 : Int) := by rw [wrap_b, byt_get T 0 (by omega)]
          have HV := Lib.hid fun U => vat_c T 2 2 U (by omega) (by omega) (by omega)
          rw [hC] at HV
          have hC6' : (C : Int) ≤ 65535 := by omega
          have hN2' : (N : Int) ≤ 255 := by omega
          have c1' : 4 + (Z : Int) + (C : Int) * (Z : Int) + 4 * (N : Int) ≤ (T.size : Int) := by rw [← hm]; omega
          have d60 : decide ((60 : Int) < (C : Int)) = false := decide_eq_false (by omega)
          have t1 : ((4 : Int) + (Z : Int)).toNat = 4 + Z := by omega
          have HGr := Lib.hid fun U => rgroup_c (T.extract 4 (4 + Z)) Z U
          rw [c3] at HGr
          have HSr := Lib.hid fun U => rsrc_c T (4 + Z) C Z U hTs hC6 (by have := HZ.out; omega) (by omega)
          rw [show ((4 + Z : Nat) : Int) = 4 + (Z : Int) from rfl] at HSr
          have HW := Lib.hid (show ((4 + Z + C * Z + 4 * N : Nat) : Int) = 4 + (Z : Int) + (C : Int) * (Z : Int) + 4 * (N : Int) by rw [← hm]; rfl)
          have t2 : (4 + (Z : Int) + (C : Int) * (Z : Int) + 4 * (N : Int)).toNat = 4 + Z + C * Z + 4 * N := by rw [← hm]; omega
          have hWle : a + (4 + Z + C * Z + 4 * N) ≤ s.size := by have := HT2.out; omega
          have hTn : Hid (T.extract (4 + Z + C * Z + 4 * N) T.size = suf s (a + (4 + Z + C * Z + 4 * N))) := Lib.hid (by rw [hT.out, suf_suf])
          generalize 4 + Z + C * Z + 4 * N = W at HG HW t2 hWle hTn
          obtain ⟨g, hg⟩ : ∃ g, T.extract 4 (4 + Z) = g := ⟨_, rfl⟩
          rw [hg] at HG HGr
          have hb0 : byt T 0 < 256 := by unfold byt; exact UInt8.toNat_lt _
          generalize byt T 0 = B0 at *
          generalize addrsL T (4 + Z) C Z = al at HG HSr
          clear HGood HBad e1 hm hC hN hP c1 c2 c3
          go_wp2_with fail
          refine (HV.out _).mono ?_
          rintro e w1 ⟨rfl, rfl⟩
          go_wp2_with fail
          go_region
          all_goals
            go_wp2_with fail
            ((with_reducible refine (HGr.out _).mono ?_); rintro e w2 ⟨rfl, rfl⟩)
            go_wp2_with fail
            have BX : Box wr (wr.alloc (.cells #[.int .i64 B0, .string g, .slice none 0 0] 56)).drew #[.int .i64 B0, .string g, .slice none 0 0] 56 := ⟨(Box.start wr _ _).1, (Box.start wr _ _).2.drew⟩
            ((with_reducible refine (HSr.out _).mono ?_); rintro e w3 ⟨v, rfl, hv, h3⟩)
            obtain ⟨p, cp, rfl⟩ := hv.slice
            have HS := Lib.hid (hv.mono BX.lt id)
            have BY := Lib.hid (BX.below h3)
            clear BX hv h3
            generalize al.length = aln at HS ⊢
            have x0 := BY.out.cell 0 rfl
            have x1 := BY.out.cell 1 rfl
            have x2 := BY.out.cell 2 rfl
            have y2 := BY.out.free 2
            have B4 := Lib.hid (BY.out.set 2 (.slice p aln cp))
            have A4 := Lib.hid (HS.out.store (j := 2) (u := .slice p aln cp) (Nat.lt_succ_self wr.heap.size))
            have hsw := hb.out.size
            have BO := Lib.hid (hb.out.trans (B4.out.2.mono hsw))
            have OW := Lib.hid (owns_below hown.out B4.out.2)
            have RW := Lib.hid (hrows.out.below B4.out.2)
            have AW := Lib.hid (A4.out.mono (Nat.le_succ_of_le hsw) id)
            have hlw := BY.out.lt
            clear hsw BY HS A4 HGr HSr HV
            rcases hkb : kindB (B0 : Int) with _ | _
            · have HG' := Lib.hid (show comb acc (recsGo s Z (n - (k + 1)) (a + W)) = recsGo s Z n 0 from by have := HG.out; simp only [hkb] at this; exact this)
              have hkn := of_decide_eq_false hkb
              clear HG hkb
              by_cases hk1 : (1 : Int) ≤ (B0 : Int)
              · have hk6 : decide ((B0 : Int) ≤ 6) = false := decide_eq_false (by omega)
                clear hkn
                go_wp2_with fail
                go_roundw
                case rel => exact ⟨k + 1, a + W, _, acc, xs, by omega, by omega, by go_num, rfl, hTn, by omega, OW, RW, HG', BO⟩
                case measure => simp [intOf]; omega
              · have hk0 : decide ((1 : Int) ≤ (B0 : Int)) = false := decide_eq_false hk1
                clear hkn hk1
                go_wp2_with fail
                go_roundw
                case rel => exact ⟨k + 1, a + W, _, acc, xs, by omega, by omega, by go_num, rfl, hTn, by omega, OW, RW, HG', BO⟩
                case measure => simp [intOf]; omega
            · have HG' := Lib.hid (show comb (acc ++ [⟨B0, g, al⟩]) (recsGo s Z (n - (k + 1)) (a + W)) = recsGo s Z n 0 from by have := HG.out; simp only [hkb] at this; exact this)
              obtain ⟨hk1, hk6⟩ := of_decide_eq_true hkb
              clear HG hkb
              go_wp2_with (at_builtin; refine wpList_append_own _ rfl _ _ 27 rfl w.heap.size 56 i0 (.agg #[.int .i64 0, .string ⟨#[]⟩, .slice none 0 0]) 3 48 Tryz.underlying27 hi hz0 hz1 hz2 rfl (by decide) _ _ _ rfl (OW.out.alloc _) ⟨w3.heap.size, 0, none⟩ 1 1 [.int .i64 B0, .string g, .slice p aln cp] rfl rfl ?c1 ?c2 ?c3 ?c4 ?c5 ?_)
              case c1 => exact cells3s _ _ _ _ _ _ _ _
              case c2 => intro u hu; simp at hu; rcases hu with rfl | rfl | rfl <;> rfl
              case c3 => unfold maxLen; omega
              case c4 => omega
              case c5 => have := BO.out.size; simp at this ⊢; omega
              intro v' w5 hown' hgrow _
              have HO2 := Lib.hid hown'
              have RW2 := Lib.hid ((((RW.out.below ((Below.refl _ _).alloc (Nat.le_refl _) _)).grown (OW.out.alloc _) (by decide) hgrow)).snoc (r := ⟨B0, g, al⟩) ((AW.out.below ((Below.refl _ _).alloc (Nat.le_refl _) _)).grown hgrow fun g hg => owned_type (OW.out.alloc _) (by decide) g hg))
              have BO2 := Lib.hid ((BO.out.alloc BO.out.size _).grown hgrow (by have := BO.out.size; simp at this ⊢; omega) (fun j hj => (OW.out.lt j hj).1))
              clear hown'
              go_wp2_with fail
              go_roundw
              case rel => exact ⟨k + 1, a + W, _, acc ++ [⟨B0, g, al⟩], _, by omega, by omega, by go_num, rfl, hTn, by simp; omega, Lib.hid (by rw [List.length_append]; exact HO2.out), RW2, HG', BO2⟩
              case measure => simp [intOf]; omega
      · obtain rfl : k = n := by omega
        have HG := Lib.hid (show recsGo s Z k 0 = (0, acc) by rw [← hcomb.out, Nat.sub_self]; unfold recsGo comb; simp)
        go_wp2_with fail
        go_ret2
        unfold RecsPost
        rw [HG.out]
        exact ⟨_, rfl, RecsG.of_owns hown.out hrows.out, hb.out⟩

set_option maxHeartbeats 1000000 in
set_option maxRecDepth 100000 in
theorem rrecs_c (s : ByteArray) (n Z : Int) (w : World) (hs : s.size ≤ 281474976710000) (n1 : -9223372036854775808 ≤ n) :
    Calls Tryz.prog 18 #[.string s, .int .i64 n, .int .i64 Z] w (RecsPost (recsI s n Z) w) := by
  by_cases h0 : n < 0
  · have V := Lib.hid (show recsI s n Z = (1, []) by unfold recsI; rw [if_pos (.inl h0)])
    go_enter Tryz.func18, Tryz.ntmps18
    go_wp2_with fail
    go_ret2
    unfold RecsPost
    rw [V.out]
    exact ⟨_, rfl, RecsG.nil _ _ _, Below.refl _ _⟩
  · have h0' : 0 ≤ n := by omega
    by_cases h4 : Z = 4 ∨ Z = 16
    · by_cases h3 : 30 < n
      · have V := Lib.hid (show recsI s n Z = (3, []) by unfold recsI; rw [if_neg (by omega), if_pos h3])
        rcases h4 with rfl | rfl
        all_goals
          have d0 : decide (n < 0) = false := decide_eq_false h0
          clear h0
          go_enter Tryz.func18, Tryz.ntmps18
          go_wp2_with fail
          go_ret2
          unfold RecsPost
          rw [V.out]
          exact ⟨_, rfl, RecsG.nil _ _ _, Below.refl _ _⟩
      · obtain ⟨N, rfl⟩ := Int.eq_ofNat_of_zero_le h0'
        obtain ⟨K, rfl⟩ := Int.eq_ofNat_of_zero_le (show 0 ≤ Z by omega)
        have V : recsI s N K = recsGo s K N 0 := by unfold recsI; rw [if_neg (by omega), if_neg h3]; rfl
        rw [V]
        exact rrecs_go s N K w hs (by omega) (by omega)
    · have V := Lib.hid (show recsI s n Z = (1, []) by unfold recsI; rw [if_pos (.inr (by omega))])
      obtain ⟨a1, a2⟩ := ne_t (show Z ≠ 4 by omega)
      obtain ⟨b1, b2⟩ := ne_t (show Z ≠ 16 by omega)
      clear h4 h0
      go_enter Tryz.func18, Tryz.ntmps18
      go_wp2_with fail
      go_ret2
      unfold RecsPost
      rw [V.out]
      exact ⟨_, rfl, RecsG.nil _ _ _, Below.refl _ _⟩

end Go.Proofs.YtnfngmclomjimaaGreat
