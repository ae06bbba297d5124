/-
  The bytes of a message: bpdu.Encode.
-/
import Derived.Test.YtcahhkmbigjhlaaBpA
import Derived.Test.YtcahhkmbigjhlaaBldK
import Derived.Test.YtcahhkmbigjhlaaOctW
namespace Go.Proofs.Ytcahhkmbigjhlaa
open Go.RowKit
set_option linter.unusedVariables false
set_option linter.unusedSimpArgs false

theorem put4v (n : Int) (h0 : 0 ≤ n) (h1 : n ≤ 4294967295) : putSpec n 4 = (⟨(bytesOf n.toNat 4).toArray⟩, 0) := by
  obtain ⟨N, rfl⟩ := Int.eq_ofNat_of_zero_le h0
  exact put_ok N 4 (by omega) (by omega) (by omega)

theorem put_len (n k : Int) : (putSpec n k).1.data.toList.length ≤ 4 := by
  unfold putSpec
  split
  · exact Nat.zero_le _
  · show (bytesOf n.toNat k.toNat).length ≤ 4
    rw [bytesOf_length]; omega
theorem put_err (n k : Int) : (putSpec n k).2 = 0 ∨ (putSpec n k).2 = 1 := by
  unfold putSpec
  split
  · exact .inr rfl
  · exact .inl rfl

theorem ret_of {v V : Value} (h : V = v) : Ending.returned v = .returned V := by rw [h]

/-- The last error that there was. -/
def fo (f e : Int) : Int := if e = 0 then f else e

/-- A message in its box, the text and the fault behind it. -/
def EncS (w0 : World) (P : Nat) (vs : Array Value) (l : List UInt8) (m : Nat) (f : Int) (w : World) : Prop :=
  Bld (P + 1) l w ∧ w.heap[P + 1 + 1]? = some (.cells #[.int .i64 f] 27 (0, 0)) ∧ w.heap[P]? = some (.cells vs 26 (0, 0)) ∧ l.length ≤ m ∧ Below P w0 w

theorem EncS.below {w0 w w' : World} {P m : Nat} {vs : Array Value} {l : List UInt8} {f : Int} (h : EncS w0 P vs l m f w) (k : Below w.heap.size w w') : EncS w0 P vs l m f w' := by
  obtain ⟨h1, h2, h3, h4, h5⟩ := h
  exact ⟨h1.below k, below_block k (lt_of_block h2) h2, below_block k (lt_of_block h3) h3, h4, h5.trans (k.mono (Nat.le_of_lt (lt_of_block h3)))⟩
theorem EncS.wrote {w0 w w' : World} {P m : Nat} {vs : Array Value} {l s : List UInt8} {f : Int} (n : Nat) (h : EncS w0 P vs l m f w) (hs : s.length ≤ n) (b : Bld (P + 1) (l ++ s) w') (k : Below (P + 1) w w') (o : KeptO (P + 1) w w') : EncS w0 P vs (l ++ s) (m + n) f w' := by
  obtain ⟨h1, h2, h3, h4, h5⟩ := h
  exact ⟨b, o _ _ _ _ (by omega) (by decide) h2, o _ _ _ _ (by omega) (by decide) h3, by rw [List.length_append]; omega, h5.trans (k.mono (by omega))⟩
theorem EncS.fault {w0 w : World} {P m : Nat} {vs : Array Value} {l : List UInt8} {f : Int} (e : Int) (h : EncS w0 P vs l m f w) : EncS w0 P vs l m e (w.setCell ⟨P + 1 + 1, 0, none⟩ (.int .i64 e)) := by
  obtain ⟨h1, h2, h3, h4, h5⟩ := h
  refine ⟨?_, heap_store h2, heap_store_other h3 (by omega), h4, h5.setCell (p := ⟨P + 1 + 1, 0, none⟩) (by show P ≤ P + 1 + 1; omega) _⟩
  exact h1.far (by omega) h2 (by decide)

set_option maxHeartbeats 2000000 in
set_option maxRecDepth 100000 in
theorem bwrite_c (w0 : World) (P m : Nat) (vs : Array Value) (l : List UInt8) (f n k : Int) (w : World) (h : EncS w0 P vs l m f w) (hm : m ≤ 1000) (n1 : -9223372036854775808 ≤ n) (n2 : n ≤ 9223372036854775807) :
    Calls Try.prog 23 #[.int .i64 n, .int .i64 k, .pointer (some ⟨P + 1 + 1, 0, none⟩), .pointer (some ⟨P + 1, 0, none⟩)] w fun e w' => e = .returned (.tuple #[]) ∧ EncS w0 P vs (l ++ (putSpec n k).1.data.toList) (m + 4) (fo f (putSpec n k).2) w' := by
  have H1 := Lib.hid fun U => put_c n k U n1 n2
  have hl := put_len n k
  have he := put_err n k
  obtain ⟨X, hX⟩ : ∃ X, X = (putSpec n k).1 := ⟨_, rfl⟩
  obtain ⟨e, hE⟩ : ∃ e, e = (putSpec n k).2 := ⟨_, rfl⟩
  rw [← hX, ← hE] at H1 ⊢
  rw [← hX] at hl
  rw [← hE] at he
  clear hX hE
  have hz := vlen X
  have HS := Lib.hid h
  clear h
  rcases he with rfl | rfl
  · rw [show fo f 0 = f from rfl]
    go_enter Try.func23, Try.ntmps23
    go_wp2_with fail
    refine (H1.out _).mono ?_
    rintro e w1 ⟨rfl, h1⟩
    have E1 := Lib.hid (HS.out.below h1)
    go_wp2_with fail
    refine (wstr_k (P + 1) l X w1 E1.out.1 (by have := E1.out.2.2.2.1; omega)).mono ?_
    rintro e w2 ⟨rfl, b2, h2, o2⟩
    go_wp2_with fail
    go_end0
    exact ⟨rfl, E1.out.wrote 4 hl b2 h2 o2⟩
  · rw [show fo f 1 = 1 from rfl]
    go_enter Try.func23, Try.ntmps23
    go_wp2_with fail
    refine (H1.out _).mono ?_
    rintro e w1 ⟨rfl, h1⟩
    have E1 := Lib.hid (HS.out.below h1)
    have cf := cell_of_block (j := 0) E1.out.2.1 rfl
    have ff := free_of_block (j := 0) E1.out.2.1
    go_wp2_with fail
    have E2 := Lib.hid (E1.out.fault 1)
    refine (wstr_k (P + 1) l X _ E2.out.1 (by have := E2.out.2.2.2.1; omega)).mono ?_
    rintro e w2 ⟨rfl, b2, h2, o2⟩
    go_wp2_with fail
    go_end0
    exact ⟨rfl, E2.out.wrote 4 hl b2 h2 o2⟩

theorem EncS.cells {w0 w : World} {P m : Nat} {r c b p a : Int} {ch le fw : Bool} {l : List UInt8} {f : Int}
    (h : EncS w0 P #[.int .u64 r, .int .i64 c, .int .u64 b, .int .i64 p, .int .i64 a, .bool ch, .bool le, .bool fw] l m f w) :
    w.cell? ⟨P, 0, none⟩ = some (.int .u64 r) ∧ w.cell? ⟨P, 1, none⟩ = some (.int .i64 c) ∧ w.cell? ⟨P, 2, none⟩ = some (.int .u64 b) ∧ w.cell? ⟨P, 3, none⟩ = some (.int .i64 p) ∧ w.cell? ⟨P, 4, none⟩ = some (.int .i64 a) ∧ w.cell? ⟨P, 5, none⟩ = some (.bool ch) ∧ w.cell? ⟨P, 6, none⟩ = some (.bool le) ∧ w.cell? ⟨P, 7, none⟩ = some (.bool fw) ∧ w.cell? ⟨P + 1 + 1, 0, none⟩ = some (.int .i64 f) := by
  obtain ⟨h1, h2, h3, h4, h5⟩ := h
  exact ⟨cell_of_block h3 rfl, cell_of_block h3 rfl, cell_of_block h3 rfl, cell_of_block h3 rfl, cell_of_block h3 rfl, cell_of_block h3 rfl, cell_of_block h3 rfl, cell_of_block h3 rfl, cell_of_block h2 rfl⟩

theorem EncS.le {w0 w : World} {P m m' : Nat} {vs : Array Value} {l : List UInt8} {f : Int} (h : EncS w0 P vs l m f w) (hm : m ≤ m') : EncS w0 P vs l m' f w :=
  ⟨h.1, h.2.1, h.2.2.1, Nat.le_trans h.2.2.2.1 hm, h.2.2.2.2⟩

theorem bstr_k (w0 : World) (P m : Nat) (vs : Array Value) (l : List UInt8) (f : Int) (s : ByteArray) (n : Nat) (w : World) (h : EncS w0 P vs l m f w) (hm : m ≤ 1000) (hs : s.size ≤ n) (hn : n ≤ 1000) :
    Calls Try.prog 25 #[.pointer (some ⟨P + 1, 0, none⟩), .string s] w fun e w' => e = .returned (.tuple #[.int .i64 s.size, .nilIface]) ∧ EncS w0 P vs (l ++ s.data.toList) (m + n) f w' :=
  (wstr_k (P + 1) l s w h.1 (by have := h.2.2.2.1; omega)).mono fun _ _ g => ⟨g.1, h.wrote n (by rw [vlen]; exact hs) g.2.1 g.2.2.1 g.2.2.2⟩

/-- What stands behind Port after j of four numbers. -/
def numsL (A : List UInt8) : Nat → List UInt8
  | 0 => []
  | 1 => A ++ [0]
  | 2 => A ++ [0] ++ [20] ++ [0]
  | 3 => A ++ [0] ++ [20] ++ [0] ++ [2] ++ [0]
  | _ => A ++ [0] ++ [20] ++ [0] ++ [2] ++ [0] ++ [15] ++ [0]
def numsF (f e : Int) : Nat → Int
  | 0 => f
  | _ => fo f e

theorem put20 : putSpec 20 1 = (⟨#[20]⟩, 0) := by rfl
theorem put2 : putSpec 2 1 = (⟨#[2]⟩, 0) := by rfl
theorem put15 : putSpec 15 1 = (⟨#[15]⟩, 0) := by rfl
theorem put0 : putSpec 0 1 = (⟨#[0]⟩, 0) := by rfl

set_option maxHeartbeats 4000000 in
set_option maxRecDepth 100000 in
theorem encB_walk (r c b p a : Int) (ch le fw : Bool) (w : World) (r0 : 0 ≤ r) (c0 : -9223372036854775808 ≤ c) (c1 : c ≤ 9223372036854775807) (b0 : 0 ≤ b) (p0 : -9223372036854775808 ≤ p) (p1 : p ≤ 9223372036854775807) (a0 : -9223372036854775808 ≤ a) (a1 : a ≤ 9223372036854775807)
    (L : List UInt8) (hL : L = [] ++ frontB ++ (putSpec (flagB ch le fw : Int) 1).1.data.toList ++ bytesOf r.toNat 8 ++ (putSpec c 4).1.data.toList ++ bytesOf b.toNat 8 ++ (putSpec p 2).1.data.toList ++ numsL (putSpec a 1).1.data.toList 4 ++ [0])
    (f : Int) (hf : f = fo (fo (fo (fo 0 (putSpec (flagB ch le fw : Int) 1).2) (putSpec c 4).2) (putSpec p 2).2) (putSpec a 1).2)
    (V : Value) (hV1 : f = 0 → V = .tuple #[.string ⟨L.toArray⟩, .int .i64 0]) (hV2 : f ≠ 0 → V = .tuple #[.string ⟨#[]⟩, .int .i64 f]) :
    Calls Try.prog 12 #[.agg #[.int .u64 r, .int .i64 c, .int .u64 b, .int .i64 p, .int .i64 a, .bool ch, .bool le, .bool fw]] w fun e w' => e = .returned V ∧ Below w.heap.size w w' := by
  have HL := Lib.hid hL
  have Hf := Lib.hid hf
  have HV1 := Lib.hid hV1
  have HV2 := Lib.hid hV2
  clear hL hf hV1 hV2
  have fl := flagB_lt ch le fw
  have HG := Lib.hid fun U => flags_c r c b p a ch le fw U
  obtain ⟨G, hG⟩ : ∃ G : Nat, G = flagB ch le fw := ⟨_, rfl⟩
  rw [← hG] at HG HL Hf fl
  clear hG
  have R8 := Lib.hid fun U => eight_c r U r0
  have B8 := Lib.hid fun U => eight_c b U b0
  have zr := bytes_size r.toNat 8
  have zb := bytes_size b.toNat 8
  have HR := Lib.hid (show (⟨(bytesOf r.toNat 8).toArray⟩ : ByteArray).data.toList = bytesOf r.toNat 8 from rfl)
  have HB := Lib.hid (show (⟨(bytesOf b.toNat 8).toArray⟩ : ByteArray).data.toList = bytesOf b.toNat 8 from rfl)
  obtain ⟨X, hX⟩ : ∃ X : ByteArray, X = ⟨(bytesOf r.toNat 8).toArray⟩ := ⟨_, rfl⟩
  obtain ⟨Y, hY⟩ : ∃ Y : ByteArray, Y = ⟨(bytesOf b.toNat 8).toArray⟩ := ⟨_, rfl⟩
  rw [← hX] at R8 zr HR
  rw [← hY] at B8 zb HB
  have zX := Lib.hid zr
  have zY := Lib.hid zb
  clear hX hY zr zb
  have ix0 : ∀ U : World, (Instr.index 62 (.agg #[.int .i64 a, .int .i64 20, .int .i64 2, .int .i64 15]) (.int .i64 0)).run Try.prog U = .ok (.int .i64 a) U := fun U => by simp [Instr.index, run_underlying Try.underlying62, asIntOf, go_sem]
  have ix1 : ∀ U : World, (Instr.index 62 (.agg #[.int .i64 a, .int .i64 20, .int .i64 2, .int .i64 15]) (.int .i64 1)).run Try.prog U = .ok (.int .i64 20) U := fun U => by simp [Instr.index, run_underlying Try.underlying62, asIntOf, go_sem]
  have ix2 : ∀ U : World, (Instr.index 62 (.agg #[.int .i64 a, .int .i64 20, .int .i64 2, .int .i64 15]) (.int .i64 2)).run Try.prog U = .ok (.int .i64 2) U := fun U => by simp [Instr.index, run_underlying Try.underlying62, asIntOf, go_sem]
  have ix3 : ∀ U : World, (Instr.index 62 (.agg #[.int .i64 a, .int .i64 20, .int .i64 2, .int .i64 15]) (.int .i64 3)).run Try.prog U = .ok (.int .i64 15) U := fun U => by simp [Instr.index, run_underlying Try.underlying62, asIntOf, go_sem]
  go_enter Try.func12, Try.ntmps12
  go_wp2_with fail
  have E0 : EncS w w.heap.size #[.int .u64 r, .int .i64 c, .int .u64 b, .int .i64 p, .int .i64 a, .bool ch, .bool le, .bool fw] [] 0 0 (((w.alloc (.cells #[.int .u64 r, .int .i64 c, .int .u64 b, .int .i64 p, .int .i64 a, .bool ch, .bool le, .bool fw] 26)).alloc (.cells #[.pointer none, .slice none 0 0] 53)).alloc (.cells #[.int .i64 0] 27)) := by
    refine ⟨?_, ?_, ?_, Nat.le_refl _, (((Below.refl _ w).alloc (Nat.le_refl _) _).alloc (by simp) _).alloc (by simp; omega) _⟩
    · have := (Bld.fresh (w.alloc (.cells #[.int .u64 r, .int .i64 c, .int .u64 b, .int .i64 p, .int .i64 a, .bool ch, .bool le, .bool fw] 26))).alloc (.cells #[.int .i64 0] 27)
      simpa using this
    · simpa using heap_new ((w.alloc (.cells #[.int .u64 r, .int .i64 c, .int .u64 b, .int .i64 p, .int .i64 a, .bool ch, .bool le, .bool fw] 26)).alloc (.cells #[.pointer none, .slice none 0 0] 53)) (.cells #[.int .i64 0] 27)
    · exact heap_old (heap_old (heap_new _ _))
  refine (bstr_k w w.heap.size 0 _ [] 0 ⟨#[66, 66, 3, 0, 0, 2, 2]⟩ 8 _ E0 (by omega) (by decide) (by omega)).mono ?_
  clear E0
  rintro e w1 ⟨rfl, E1⟩
  have H1 := Lib.hid E1
  obtain ⟨d0, d1, d2, d3, d4, d5, d6, d7, d8⟩ := E1.cells
  clear E1
  go_wp2_with fail
  refine (HG.out _).mono ?_
  rintro e w2 ⟨rfl, h2⟩
  have E2 := H1.out.below h2
  clear d0 d1 d2 d3 d4 d5 d6 d7 d8 h2
  go_wp2_with fail
  refine (bwrite_c w w.heap.size _ _ _ _ (G : Int) 1 _ E2 (by omega) (by omega) (by omega)).mono ?_
  clear E2 H1
  rintro e w3 ⟨rfl, E3⟩
  have H3 := Lib.hid E3
  obtain ⟨d0, d1, d2, d3, d4, d5, d6, d7, d8⟩ := E3.cells
  clear E3
  go_wp2_with fail
  refine (R8.out _).mono ?_
  rintro e w4 ⟨rfl, h4⟩
  have E4 := H3.out.below h4
  clear d0 d1 d2 d3 d4 d5 d6 d7 d8 h4
  go_wp2_with fail
  refine (bstr_k w w.heap.size _ _ _ _ X 8 _ E4 (by omega) (by have := zX.out; omega) (by omega)).mono ?_
  clear E4 H3
  rintro e w5 ⟨rfl, E5⟩
  have H5 := Lib.hid E5
  obtain ⟨d0, d1, d2, d3, d4, d5, d6, d7, d8⟩ := E5.cells
  clear E5
  go_wp2_with fail
  refine (bwrite_c w w.heap.size _ _ _ _ c 4 _ H5.out (by omega) c0 c1).mono ?_
  clear H5 d0 d1 d2 d3 d4 d5 d6 d7 d8
  rintro e w6 ⟨rfl, E6⟩
  have H6 := Lib.hid E6
  obtain ⟨d0, d1, d2, d3, d4, d5, d6, d7, d8⟩ := E6.cells
  clear E6
  go_wp2_with fail
  refine (B8.out _).mono ?_
  rintro e w7 ⟨rfl, h7⟩
  have E7 := H6.out.below h7
  clear d0 d1 d2 d3 d4 d5 d6 d7 d8 h7
  go_wp2_with fail
  refine (bstr_k w w.heap.size _ _ _ _ Y 8 _ E7 (by omega) (by have := zY.out; omega) (by omega)).mono ?_
  clear E7 H6
  rintro e w8 ⟨rfl, E8⟩
  have H8 := Lib.hid E8
  obtain ⟨d0, d1, d2, d3, d4, d5, d6, d7, d8⟩ := E8.cells
  clear E8
  go_wp2_with fail
  refine (bwrite_c w w.heap.size _ _ _ _ p 2 _ H8.out (by omega) p0 p1).mono ?_
  clear H8 d0 d1 d2 d3 d4 d5 d6 d7 d8
  rintro e w9 ⟨rfl, E9⟩
  rw [HR.out, HB.out] at E9
  obtain ⟨L9, hL9⟩ : ∃ L9, L9 = [] ++ frontB ++ (putSpec (G : Int) 1).1.data.toList ++ bytesOf r.toNat 8 ++ (putSpec c 4).1.data.toList ++ bytesOf b.toNat 8 ++ (putSpec p 2).1.data.toList := ⟨_, rfl⟩
  obtain ⟨f9, hf9⟩ : ∃ f9, f9 = fo (fo (fo 0 (putSpec (G : Int) 1).2) (putSpec c 4).2) (putSpec p 2).2 := ⟨_, rfl⟩
  rw [show ([] ++ (⟨#[66, 66, 3, 0, 0, 2, 2]⟩ : ByteArray).data.toList : List UInt8) = [] ++ frontB from rfl, ← hL9, ← hf9] at E9
  have HL2 := Lib.hid (show L = L9 ++ numsL (putSpec a 1).1.data.toList 4 ++ [0] by rw [HL.out, hL9])
  have Hf2 := Lib.hid (show f = numsF f9 (putSpec a 1).2 4 by rw [Hf.out, hf9]; rfl)
  clear HL Hf hL9 hf9 R8 B8 HG HR HB zX zY
  obtain ⟨A, hA⟩ : ∃ A, A = (putSpec a 1).1.data.toList := ⟨_, rfl⟩
  obtain ⟨ea, hea⟩ : ∃ ea, ea = (putSpec a 1).2 := ⟨_, rfl⟩
  have HA := Lib.hid hA
  have HE := Lib.hid hea
  rw [← hA] at HL2
  rw [← hea] at Hf2
  clear hA hea
  have H9 := Lib.hid E9
  obtain ⟨d0, d1, d2, d3, d4, d5, d6, d7, d8⟩ := E9.cells
  clear E9
  go_wp2_with fail
  go_loopw [38] (fun i wr => ∃ j : Nat, j ≤ 4 ∧ i = .int .i64 (j : Int) ∧ EncS w w.heap.size #[.int .u64 r, .int .i64 c, .int .u64 b, .int .i64 p, .int .i64 a, .bool ch, .bool le, .bool fw] (L9 ++ numsL A j) (100 + 8 * j) (numsF f9 ea j) wr)
    (fun i _ => 4 - (intOf i).toNat)
  case atStart =>
    refine ⟨0, by omega, rfl, ?_⟩
    rw [show numsL A 0 = [] from rfl, List.append_nil]
    exact H9.out.le (by omega)
  case round =>
    obtain ⟨j, hj, rfl, hE⟩ := hrel
    clear H9 d0 d1 d2 d3 d4 d5 d6 d7 d8
    by_cases hlt : j < 4
    · obtain rfl | rfl | rfl | rfl : j = 0 ∨ j = 1 ∨ j = 2 ∨ j = 3 := by omega
      · have HJ := Lib.hid hE
        clear hE
        go_wp2_with fail
        refine (bwrite_c w w.heap.size _ _ _ _ a 1 _ HJ.out (by omega) (by omega) (by omega)).mono ?_
        clear HJ
        rintro e wa ⟨rfl, EA⟩
        have HJ := Lib.hid EA
        clear EA
        go_wp2_with fail
        refine (bwrite_c w w.heap.size _ _ _ _ 0 1 _ HJ.out (by omega) (by omega) (by omega)).mono ?_
        clear HJ
        rintro e wb ⟨rfl, EB⟩
        have e : L9 ++ numsL A 0 ++ (putSpec a 1).1.data.toList ++ (putSpec 0 1).1.data.toList = L9 ++ numsL A 1 := by rw [put0, ← HA.out]; simp [numsL]
        have ef : fo (fo (numsF f9 ea 0) (putSpec a 1).2) (putSpec 0 1).2 = numsF f9 ea 1 := by rw [put0, ← HE.out]; rfl
        rw [e, ef] at EB
        have HJ := Lib.hid EB
        clear EB e ef
        go_wp2_with fail
        go_roundw
        case rel => exact ⟨1, by omega, by go_num, HJ.out.le (by omega)⟩
        case measure => simp [intOf]
      · have HJ := Lib.hid hE
        clear hE
        go_wp2_with fail
        refine (bwrite_c w w.heap.size _ _ _ _ 20 1 _ HJ.out (by omega) (by omega) (by omega)).mono ?_
        clear HJ
        rintro e wa ⟨rfl, EA⟩
        have HJ := Lib.hid EA
        clear EA
        go_wp2_with fail
        refine (bwrite_c w w.heap.size _ _ _ _ 0 1 _ HJ.out (by omega) (by omega) (by omega)).mono ?_
        clear HJ
        rintro e wb ⟨rfl, EB⟩
        have e : L9 ++ numsL A 1 ++ (putSpec 20 1).1.data.toList ++ (putSpec 0 1).1.data.toList = L9 ++ numsL A 2 := by rw [put20, put0]; simp [numsL]
        have ef : fo (fo (numsF f9 ea 1) (putSpec 20 1).2) (putSpec 0 1).2 = numsF f9 ea 2 := by rw [put20, put0]; rfl
        rw [e, ef] at EB
        have HJ := Lib.hid EB
        clear EB e ef
        go_wp2_with fail
        go_roundw
        case rel => exact ⟨2, by omega, by go_num, HJ.out.le (by omega)⟩
        case measure => simp [intOf]
      · have HJ := Lib.hid hE
        clear hE
        go_wp2_with fail
        refine (bwrite_c w w.heap.size _ _ _ _ 2 1 _ HJ.out (by omega) (by omega) (by omega)).mono ?_
        clear HJ
        rintro e wa ⟨rfl, EA⟩
        have HJ := Lib.hid EA
        clear EA
        go_wp2_with fail
        refine (bwrite_c w w.heap.size _ _ _ _ 0 1 _ HJ.out (by omega) (by omega) (by omega)).mono ?_
        clear HJ
        rintro e wb ⟨rfl, EB⟩
        have e : L9 ++ numsL A 2 ++ (putSpec 2 1).1.data.toList ++ (putSpec 0 1).1.data.toList = L9 ++ numsL A 3 := by rw [put2, put0]; simp [numsL]
        have ef : fo (fo (numsF f9 ea 2) (putSpec 2 1).2) (putSpec 0 1).2 = numsF f9 ea 3 := by rw [put2, put0]; rfl
        rw [e, ef] at EB
        have HJ := Lib.hid EB
        clear EB e ef
        go_wp2_with fail
        go_roundw
        case rel => exact ⟨3, by omega, by go_num, HJ.out.le (by omega)⟩
        case measure => simp [intOf]
      · have HJ := Lib.hid hE
        clear hE
        go_wp2_with fail
        refine (bwrite_c w w.heap.size _ _ _ _ 15 1 _ HJ.out (by omega) (by omega) (by omega)).mono ?_
        clear HJ
        rintro e wa ⟨rfl, EA⟩
        have HJ := Lib.hid EA
        clear EA
        go_wp2_with fail
        refine (bwrite_c w w.heap.size _ _ _ _ 0 1 _ HJ.out (by omega) (by omega) (by omega)).mono ?_
        clear HJ
        rintro e wb ⟨rfl, EB⟩
        have e : L9 ++ numsL A 3 ++ (putSpec 15 1).1.data.toList ++ (putSpec 0 1).1.data.toList = L9 ++ numsL A 4 := by rw [put15, put0]; simp [numsL]
        have ef : fo (fo (numsF f9 ea 3) (putSpec 15 1).2) (putSpec 0 1).2 = numsF f9 ea 4 := by rw [put15, put0]; rfl
        rw [e, ef] at EB
        have HJ := Lib.hid EB
        clear EB e ef
        go_wp2_with fail
        go_roundw
        case rel => exact ⟨4, by omega, by go_num, HJ.out.le (by omega)⟩
        case measure => simp [intOf]
    · obtain rfl : j = 4 := by omega
      have HJ := Lib.hid hE
      clear hE
      go_wp2_with fail
      refine (bwrite_c w w.heap.size _ _ _ _ 0 1 _ HJ.out (by omega) (by omega) (by omega)).mono ?_
      clear HJ
      rintro e wa ⟨rfl, EA⟩
      rw [put0, show fo (numsF f9 ea 4) 0 = numsF f9 ea 4 from rfl, ← Hf2.out, show ((⟨#[0]⟩ : ByteArray).data.toList) = [0] from rfl, ← HL2.out] at EA
      have HJ := Lib.hid EA
      obtain ⟨d0, d1, d2, d3, d4, d5, d6, d7, d8⟩ := EA.cells
      clear EA
      by_cases h : f = 0
      · have HV := Lib.hid (HV1.out h)
        obtain ⟨t1, t2⟩ := eq_t h
        clear h HV1 HV2
        go_wp2_with fail
        refine (vbstr_c (w.heap.size + 1) L _ HJ.out.1 (by rw [HL2.out]; simp only [List.length_append, List.length_cons, List.length_nil]; omega)).mono ?_
        rintro e wb ⟨rfl, hb⟩
        go_wp2_with fail
        go_ret2
        exact ⟨ret_of HV.out, HJ.out.2.2.2.2.trans (hb.mono (by omega))⟩
      · have HV := Lib.hid (HV2.out h)
        obtain ⟨t1, t2⟩ := ne_t h
        clear h HV1 HV2
        go_wp2_with fail
        go_region
        all_goals
          go_wp2_with fail
          go_ret2
          exact ⟨ret_of HV.out, HJ.out.2.2.2.2.drew⟩

theorem encB_fault (c p a : Int) (G : Nat) (fl : G < 256) : fo (fo (fo (fo 0 (putSpec (G : Int) 1).2) (putSpec c 4).2) (putSpec p 2).2) (putSpec a 1).2 = if OkB c p a then 0 else 1 := by
  have e1 : (putSpec (G : Int) 1).2 = 0 := by rw [put1 (G : Int) (by omega) (by omega)]
  rw [e1]
  have e2 : ∀ x, fo 0 x = x := fun x => by unfold fo; split <;> simp_all
  rw [e2 0]
  by_cases hc : 0 ≤ c ∧ c ≤ 4294967295
  · rw [put4v c hc.1 hc.2]
    by_cases hp : 0 ≤ p ∧ p ≤ 65535
    · rw [put2v p hp.1 hp.2]
      by_cases ha : 0 ≤ a ∧ a ≤ 255
      · rw [put1 a ha.1 ha.2, if_pos (show OkB c p a from ⟨hc.1, hc.2, hp.1, hp.2, ha.1, ha.2⟩)]; rfl
      · rw [put_no a 1 (by show _ ∨ _ ∨ _ ∨ ((256 : Nat) : Int) ≤ a; omega), if_neg (fun h : OkB c p a => by unfold OkB at h; omega)]; rfl
    · rw [put_no p 2 (by show _ ∨ _ ∨ _ ∨ ((65536 : Nat) : Int) ≤ p; omega), if_neg (fun h : OkB c p a => by unfold OkB at h; omega)]
      show fo (fo (fo 0 0) 1) _ = 1
      rcases put_err a 1 with h | h <;> rw [h] <;> rfl
  · rw [put_no c 4 (by show _ ∨ _ ∨ _ ∨ ((4294967296 : Nat) : Int) ≤ c; omega), if_neg (fun h : OkB c p a => by unfold OkB at h; omega)]
    show fo (fo (fo 0 1) _) _ = 1
    rcases put_err p 2 with h | h <;> rcases put_err a 1 with g | g <;> rw [h, g] <;> rfl

theorem encB_c (r c b p a : Int) (ch le fw : Bool) (w : World) (r0 : 0 ≤ r) (r1 : r ≤ 18446744073709551615) (c0 : -9223372036854775808 ≤ c) (c1 : c ≤ 9223372036854775807) (b0 : 0 ≤ b) (b1 : b ≤ 18446744073709551615) (p0 : -9223372036854775808 ≤ p) (p1 : p ≤ 9223372036854775807) (a0 : -9223372036854775808 ≤ a) (a1 : a ≤ 9223372036854775807) :
    Calls Try.prog 12 #[.agg #[.int .u64 r, .int .i64 c, .int .u64 b, .int .i64 p, .int .i64 a, .bool ch, .bool le, .bool fw]] w fun e w' => e = .returned (.tuple #[.string (encB r c b p a ch le fw).1, .int .i64 (encB r c b p a ch le fw).2]) ∧ Below w.heap.size w w' := by
  have hl := flagB_lt ch le fw
  have hft := encB_fault c p a _ hl
  have H := fun V => encB_walk r c b p a ch le fw w r0 c0 c1 b0 p0 p1 a0 a1 _ rfl _ rfl V
  rw [hft] at H
  unfold encB
  by_cases h : OkB c p a
  · rw [if_pos h] at H ⊢
    unfold OkB at h
    rw [put4v c h.1 h.2.1, put2v p h.2.2.1 h.2.2.2.1, put1 a h.2.2.2.2.1 h.2.2.2.2.2, put1 (flagB ch le fw : Int) (by omega) (by omega)] at H
    have e : ([] ++ frontB ++ (⟨(bytesOf (flagB ch le fw : Int).toNat 1).toArray⟩ : ByteArray).data.toList ++ bytesOf r.toNat 8 ++ (⟨(bytesOf c.toNat 4).toArray⟩ : ByteArray).data.toList ++ bytesOf b.toNat 8 ++ (⟨(bytesOf p.toNat 2).toArray⟩ : ByteArray).data.toList ++ numsL (⟨(bytesOf a.toNat 1).toArray⟩ : ByteArray).data.toList 4 ++ [0] : List UInt8) = encBL r c b p a ch le fw := by
      simp [encBL, backB, numsL]
    rw [e] at H
    exact H _ (fun _ => rfl) (fun g => absurd rfl g)
  · rw [if_neg h] at H ⊢
    exact H _ (fun g => absurd g (by decide)) (fun _ => rfl)

end Go.Proofs.Ytcahhkmbigjhlaa
