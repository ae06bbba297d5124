/-
  The bytes of a packet: ipv4.Encode.
-/
import Derived.Test.YtolgakgimcbkpaaV4A
import Derived.Test.YtolgakgimcbkpaaTxt
import Derived.Test.YtolgakgimcbkpaaRFill
import Derived.Test.YtolgakgimcbkpaaFillMath
namespace Go.Proofs.Ytolgakgimcbkpaa
open Go.RowKit
set_option linter.unusedVariables false
set_option linter.unusedSimpArgs false

/-- A packet's head, its sum not yet in it. -/
def headL (i t p : Int) (s d o x : ByteArray) : List UInt8 :=
  bytesOf (64 + (20 + o.size) / 4) 1 ++ [0] ++ bytesOf (20 + o.size + x.size) 2 ++ bytesOf i.toNat 2 ++ [0, 0] ++ bytesOf t.toNat 1 ++ bytesOf p.toNat 1 ++ [0, 0] ++ s.data.toList ++ d.data.toList ++ o.data.toList
/-- A packet's bytes. -/
def encVB (i t p : Int) (s d o x : ByteArray) : ByteArray := filled ⟨#[]⟩ ⟨(headL i t p s d o x).toArray⟩ 10 ++ x
/-- What Encode answers. -/
def encV (i t p : Int) (s d o x : ByteArray) : ByteArray × Int := if VOk i t p s d o x then (encVB i t p s d o x, 0) else (⟨#[]⟩, 1)

theorem headL_len (i t p : Int) (s d o x : ByteArray) (h : VOk i t p s d o x) : (headL i t p s d o x).length = 20 + o.size := by
  unfold VOk at h
  unfold headL
  simp only [List.length_append, bytesOf_length]
  have l1 : s.data.toList.length = s.size := by simp
  have l2 : d.data.toList.length = d.size := by simp
  have l3 : o.data.toList.length = o.size := by simp
  simp only [l1, l2, l3, List.length_cons, List.length_nil]
  omega

set_option maxHeartbeats 1000000 in
set_option maxRecDepth 100000 in
theorem vwrite_c (b : Nat) (l : List UInt8) (n : Int) (k : Nat) (w : World) (hk : k = 1 ∨ k = 2) (h : Bld b l w) (hl : l.length ≤ 140737488355000) (h0 : 0 ≤ n) (h1 : n ≤ 255 ∨ (k = 2 ∧ n ≤ 65535)) :
    Calls Try.prog 15 #[.int .i64 n, .int .i64 (k : Int), .pointer (some ⟨b, 0, none⟩)] w fun e w' => e = .returned (.tuple #[]) ∧ Bld b (l ++ bytesOf n.toNat k) w' ∧ Below b w w' := by
  have H1 := Lib.hid fun U => put_c n k U (by omega) (by omega)
  have hv : putSpec n k = (⟨(bytesOf n.toNat k).toArray⟩, 0) := by
    rcases hk with rfl | rfl
    · exact put1 n h0 (by omega)
    · exact put2v n h0 (by omega)
  rw [hv] at H1
  have HB := Lib.hid h
  have hz := bytes_size n.toNat k
  have HZ := Lib.hid (show (⟨(bytesOf n.toNat k).toArray⟩ : ByteArray).size ≤ 2 by omega)
  clear h hv hz hk h1
  go_enter Try.func15, Try.ntmps15
  go_wp2_with fail
  refine (H1.out _).mono ?_
  rintro e w1 ⟨rfl, h1⟩
  go_wp2_with fail
  have hb1 := HB.out.below h1
  refine (wstr_c b l _ w1 hb1 (by have := HZ.out; omega)).mono ?_
  rintro e w2 ⟨rfl, h2, h3⟩
  go_wp2_with fail
  go_end0
  exact ⟨rfl, h2, (h1.mono (Nat.le_of_lt HB.out.lt)).trans h3⟩

theorem vwrite1 (b : Nat) (l : List UInt8) (n : Int) (w : World) (h : Bld b l w) (hl : l.length ≤ 140737488355000) (h0 : 0 ≤ n) (h1 : n ≤ 255) :
    Calls Try.prog 15 #[.int .i64 n, .int .i64 1, .pointer (some ⟨b, 0, none⟩)] w fun e w' => e = .returned (.tuple #[]) ∧ Bld b (l ++ bytesOf n.toNat 1) w' ∧ Below b w w' := vwrite_c b l n 1 w (.inl rfl) h hl h0 (.inl h1)
theorem vwrite2 (b : Nat) (l : List UInt8) (n : Int) (w : World) (h : Bld b l w) (hl : l.length ≤ 140737488355000) (h0 : 0 ≤ n) (h1 : n ≤ 65535) :
    Calls Try.prog 15 #[.int .i64 n, .int .i64 2, .pointer (some ⟨b, 0, none⟩)] w fun e w' => e = .returned (.tuple #[]) ∧ Bld b (l ++ bytesOf n.toNat 2) w' ∧ Below b w w' := vwrite_c b l n 2 w (.inr rfl) h hl h0 (.inr ⟨rfl, h1⟩)

set_option maxHeartbeats 4000000 in
set_option maxRecDepth 100000 in
theorem venc_yes (i t p : Int) (s d o x : ByteArray) (w : World) (h : VOk i t p s d o x) :
    Calls Try.prog 8 #[.agg #[.int .i64 i, .int .i64 t, .int .i64 p, .string s, .string d, .string o, .string x]] w fun e w' => e = .returned (.tuple #[.string (encVB i t p s d o x), .int .i64 0]) ∧ Below w.heap.size w w' := by
  have hok : okV i t p s d o x = true := decide_eq_true h
  have hlen := headL_len i t p s d o x h
  have HH := Lib.hid (show headL i t p s d o x = [] ++ bytesOf ((64 : Int) + (20 + (o.size : Int)) / 4).toNat 1 ++ bytesOf (0 : Int).toNat 1 ++ bytesOf (20 + (o.size : Int) + (x.size : Int)).toNat 2 ++ bytesOf i.toNat 2 ++ bytesOf (0 : Int).toNat 2 ++ bytesOf t.toNat 1 ++ bytesOf p.toNat 1 ++ bytesOf (0 : Int).toNat 2 ++ s.data.toList ++ d.data.toList ++ o.data.toList from by
    have e0 : bytesOf (0 : Int).toNat 1 = [0] := by decide
    have e1 : bytesOf (0 : Int).toNat 2 = [0, 0] := by decide
    have e2 : ((64 : Int) + (20 + (o.size : Int)) / 4).toNat = 64 + (20 + o.size) / 4 := by omega
    have e3 : (20 + (o.size : Int) + (x.size : Int)).toNat = 20 + o.size + x.size := by omega
    rw [e0, e1, e2, e3]
    simp [headL])
  have hf : (filled ⟨#[]⟩ ⟨(headL i t p s d o x).toArray⟩ 10).size ≤ 60 := by
    rw [filled_size _ _ _ (by rw [ByteArray.size_mk', List.size_toArray]; unfold VOk at h; omega), ByteArray.size_mk', List.size_toArray]
    unfold VOk at h; omega
  have hfb : ¬ fillBad ⟨#[]⟩ ⟨(headL i t p s d o x).toArray⟩ (10 : Int) := by
    unfold fillBad
    rw [ByteArray.size_mk', List.size_toArray]
    have : (⟨#[]⟩ : ByteArray).size = 0 := rfl
    omega
  have HF := Lib.hid fun U => fill_c ⟨#[]⟩ ⟨(headL i t p s d o x).toArray⟩ 10 U (by decide) (by rw [ByteArray.size_mk', List.size_toArray]; unfold VOk at h; omega)
  have hv : fillSpec ⟨#[]⟩ ⟨(headL i t p s d o x).toArray⟩ 10 = (filled ⟨#[]⟩ ⟨(headL i t p s d o x).toArray⟩ 10, 0) := by unfold fillSpec; rw [if_neg hfb]; rfl
  rw [hv] at HF
  have HE := Lib.hid (show filled ⟨#[]⟩ ⟨(headL i t p s d o x).toArray⟩ 10 ++ x = encVB i t p s d o x from rfl)
  obtain ⟨F, hF⟩ : ∃ F, F = filled ⟨#[]⟩ ⟨(headL i t p s d o x).toArray⟩ 10 := ⟨_, rfl⟩
  rw [← hF] at HF HE hf
  obtain ⟨E, hE⟩ : ∃ E, E = encVB i t p s d o x := ⟨_, rfl⟩
  rw [← hE] at HE ⊢
  obtain ⟨L, hL⟩ : ∃ L, L = headL i t p s d o x := ⟨_, rfl⟩
  rw [← hL] at HF HH hlen
  unfold VOk at h
  obtain ⟨i0, i1, t0, t1, p0, p1, zs, zd, zo, zo4, zx⟩ := h
  have HM := Lib.hid fun U => vmay_c i t p s d o x U (by omega) (by omega) (by omega) (by omega)
  rw [hok] at HM
  have KS := Lib.hid (show s.data.toList.length = 4 by simpa using zs)
  have KD := Lib.hid (show d.data.toList.length = 4 by simpa using zd)
  have KO := Lib.hid (show o.data.toList.length ≤ 40 by simpa using zo)
  have j1 : s.size ≤ 4 := by omega
  have j2 : d.size ≤ 4 := by omega
  have j3 : x.size ≤ 65515 := by omega
  clear hok hfb hv hF hE hL zs zd zo4 hlen
  go_enter Try.func8, Try.ntmps8
  go_wp2_with fail
  refine (HM.out _).mono ?_
  rintro e w1 ⟨rfl, h1⟩
  obtain ⟨hc1, hf1⟩ := below_cells h1
  have g1 : w.heap.size < w1.heap.size := by have := h1.size; simp at this; omega
  go_wp2_with fail
  have B0 := Bld.fresh w1
  refine (vwrite1 w1.heap.size [] _ _ B0 (by simp) (by omega) (by omega)).mono ?_
  rintro e w2 ⟨rfl, B1, h2⟩
  obtain ⟨hc2, hf2⟩ := below_cells h2
  go_wp2_with fail
  refine (vwrite1 w1.heap.size _ _ _ B1 (by simp [bytesOf_length]) (by omega) (by omega)).mono ?_
  rintro e w3 ⟨rfl, B2, h3⟩
  obtain ⟨hc3, hf3⟩ := below_cells h3
  go_wp2_with fail
  refine (vwrite2 w1.heap.size _ _ _ B2 (by simp [bytesOf_length]) (by omega) (by omega)).mono ?_
  rintro e w4 ⟨rfl, B3, h4⟩
  obtain ⟨hc4, hf4⟩ := below_cells h4
  go_wp2_with fail
  refine (vwrite2 w1.heap.size _ _ _ B3 (by simp [bytesOf_length]) (by omega) (by omega)).mono ?_
  rintro e w5 ⟨rfl, B4, h5⟩
  obtain ⟨hc5, hf5⟩ := below_cells h5
  go_wp2_with fail
  refine (vwrite2 w1.heap.size _ _ _ B4 (by simp [bytesOf_length]) (by omega) (by omega)).mono ?_
  rintro e w6 ⟨rfl, B5, h6⟩
  obtain ⟨hc6, hf6⟩ := below_cells h6
  go_wp2_with fail
  refine (vwrite1 w1.heap.size _ _ _ B5 (by simp [bytesOf_length]) (by omega) (by omega)).mono ?_
  rintro e w7 ⟨rfl, B6, h7⟩
  obtain ⟨hc7, hf7⟩ := below_cells h7
  go_wp2_with fail
  refine (vwrite1 w1.heap.size _ _ _ B6 (by simp [bytesOf_length]) (by omega) (by omega)).mono ?_
  rintro e w8 ⟨rfl, B7, h8⟩
  obtain ⟨hc8, hf8⟩ := below_cells h8
  go_wp2_with fail
  refine (vwrite2 w1.heap.size _ _ _ B7 (by simp [bytesOf_length]) (by omega) (by omega)).mono ?_
  rintro e w9 ⟨rfl, B8, h9⟩
  obtain ⟨hc9, hf9⟩ := below_cells h9
  go_wp2_with fail
  refine (wstr_c w1.heap.size _ s _ B8 (by simp [bytesOf_length]; omega)).mono ?_
  rintro e w10 ⟨rfl, B9, h10⟩
  obtain ⟨hc10, hf10⟩ := below_cells h10
  go_wp2_with fail
  refine (wstr_c w1.heap.size _ d _ B9 (by have := KS.out; simp [bytesOf_length]; omega)).mono ?_
  rintro e w11 ⟨rfl, B10, h11⟩
  obtain ⟨hc11, hf11⟩ := below_cells h11
  go_wp2_with fail
  refine (wstr_c w1.heap.size _ o _ B10 (by have := KS.out; have := KD.out; simp [bytesOf_length]; omega)).mono ?_
  rintro e w12 ⟨rfl, B11, h12⟩
  obtain ⟨hc12, hf12⟩ := below_cells h12
  have B12 : Bld w1.heap.size L w12 := by rw [HH.out]; exact B11
  clear B0 B1 B2 B3 B4 B5 B6 B7 B8 B9 B10 B11
  go_wp2_with fail
  refine (vbstr_c w1.heap.size L _ B12 (by rw [HH.out]; simp only [List.length_append, bytesOf_length]; omega)).mono ?_
  rintro e w13 ⟨rfl, h13⟩
  obtain ⟨hc13, hf13⟩ := below_cells h13
  go_wp2_with fail
  refine (HF.out _).mono ?_
  rintro e w14 ⟨rfl, h14⟩
  have g2 : w1.heap.size ≤ w13.heap.size := by
    have := h2.size; have := h3.size; have := h4.size; have := h5.size; have := h6.size; have := h7.size; have := h8.size; have := h9.size; have := h10.size; have := h11.size; have := h12.size; have := h13.size
    simp at *; omega
  obtain ⟨hc14, hf14⟩ := below_cells (h14.mono g2)
  go_wp2_with fail
  go_ret2
  refine ⟨ret_sv HE.out, ?_⟩
  exact vbelow h1 ((((((((((((h2.trans h3).trans h4).trans h5).trans h6).trans h7).trans h8).trans h9).trans h10).trans h11).trans h12).trans h13).trans (h14.mono g2))

theorem venc_no (i t p : Int) (s d o x : ByteArray) (w : World) (hs : s.size ≤ 140737488351232) (hd : d.size ≤ 140737488351232) (ho : o.size ≤ 140737488351232) (hx : x.size ≤ 140737488351232) (h : ¬ VOk i t p s d o x) :
    Calls Try.prog 8 #[.agg #[.int .i64 i, .int .i64 t, .int .i64 p, .string s, .string d, .string o, .string x]] w fun e w' => e = .returned (.tuple #[.string ⟨#[]⟩, .int .i64 1]) ∧ Below w.heap.size w w' := by
  have hok : okV i t p s d o x = false := decide_eq_false h
  have HM := Lib.hid fun U => vmay_c i t p s d o x U hs hd ho hx
  rw [hok] at HM
  clear hok h
  go_enter Try.func8, Try.ntmps8
  go_wp2_with fail
  refine (HM.out _).mono ?_
  rintro e w1 ⟨rfl, h1⟩
  go_wp2_with fail
  go_ret2
  exact ⟨rfl, vboxed h1⟩

theorem venc_c (i t p : Int) (s d o x : ByteArray) (w : World) (hs : s.size ≤ 140737488351232) (hd : d.size ≤ 140737488351232) (ho : o.size ≤ 140737488351232) (hx : x.size ≤ 140737488351232) :
    Calls Try.prog 8 #[.agg #[.int .i64 i, .int .i64 t, .int .i64 p, .string s, .string d, .string o, .string x]] w fun e w' => e = .returned (.tuple #[.string (encV i t p s d o x).1, .int .i64 (encV i t p s d o x).2]) ∧ Below w.heap.size w w' := by
  by_cases h : VOk i t p s d o x
  · have hv : encV i t p s d o x = (encVB i t p s d o x, 0) := if_pos h
    rw [hv]
    exact venc_yes i t p s d o x w h
  · have hv : encV i t p s d o x = (⟨#[]⟩, 1) := if_neg h
    rw [hv]
    exact venc_no i t p s d o x w hs hd ho hx h

end Go.Proofs.Ytolgakgimcbkpaa
