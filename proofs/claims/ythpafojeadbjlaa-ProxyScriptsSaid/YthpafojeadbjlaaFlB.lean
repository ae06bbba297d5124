/-
  Filters: filter.merge, with the closures of join and of without. Contracts over the translated program.
-/
import Derived.Test.YthpafojeadbjlaaFlA
import Derived.BigQuiet
import Derived.Deep.QuietTactic
import Derived.Deep.Cut
namespace Go.Proofs.Ythpafojeadbjlaa
open Go.RowKit
set_option linter.unusedVariables false

/-- A list of texts whose slice has room for it. -/
def AC (w : World) (p : Option Addr) (c : Nat) (l : List ByteArray) : Prop := l.length ≤ c ∧ AddrsAt w (.slice p l.length c) l
theorem AC.below {w w' : World} {p : Option Addr} {c : Nat} {l : List ByteArray} (h : AC w p c l) (k : Below w.heap.size w w') : AC w' p c l := ⟨h.1, h.2.below k⟩
theorem AC.cons {w : World} {p : Option Addr} {c : Nat} {x : ByteArray} {t : List ByteArray} (h : AC w p c (x :: t)) :
    ∃ b off, p = some ⟨b, off, none⟩ ∧ w.cell? ⟨b, off, none⟩ = some (.string x) ∧ ((c = 1 ∧ t = [] ∧ AC w p 0 t) ∨ (¬ c = 1 ∧ AC w (some ⟨b, off + 1, none⟩) (c - 1) t)) := by
  obtain ⟨hc, p', cap', b, off, hv, hp, hcell⟩ := h
  cases hv
  obtain ⟨rfl, -⟩ := hp (by simp)
  refine ⟨b, off, rfl, by have := hcell 0 x (by simp); simpa using this, ?_⟩
  simp only [List.length_cons] at hc
  by_cases h1 : c = 1
  · have ht : t = [] := List.eq_nil_of_length_eq_zero (by omega)
    subst ht
    exact .inl ⟨h1, rfl, Nat.le_refl _, AddrsG.empty _ _ _ _ _⟩
  · refine .inr ⟨h1, by omega, _, _, b, off + 1, rfl, fun _ => ⟨rfl, Nat.zero_le _, fun h => by cases h⟩, fun j s hj => ?_⟩
    have := hcell (j + 1) s (by simpa using hj)
    rw [show off + 1 + j = off + (j + 1) from by omega]
    exact this

theorem leq_of {x y : ByteArray} {r : Bool} (h : (!sl y x) = r) (t : TypeId) : binOp .leq t (.string x) (.string y) = pure (.bool r) := by
  have e : (Op.bytesLess x.toList y.toList || x.toList == y.toList) = !sl y x := by
    rcases h1 : sl y x with _ | _
    · rcases h2 : sl x y with _ | _
      · obtain rfl := sl_tri h2 h1
        simp
      · unfold sl at h2
        rw [h2]
        rfl
    · have h2 := sl_asym h1
      have h3 := sl_ne h1
      unfold sl at h2
      rw [h2]
      have : x.toList ≠ y.toList := fun e => h3 (ba_ext (by rw [← Lib.toList_data, ← Lib.toList_data, e]))
      simp [this]
  rw [← h, ← e]
  simp [binOp, Op.stringOp]

theorem mgo_len (st : Bool → Bool → Bool) : ∀ a b : List ByteArray, (mgo st a b).length ≤ a.length + b.length
  | [], [] => by simp [mgo]
  | x :: a, [] => by
    have := mgo_len st a []
    unfold mgo
    split <;> simp only [List.length_append, List.length_cons, List.length_nil] at * <;> omega
  | [], y :: b => by
    have := mgo_len st [] b
    unfold mgo
    split <;> simp only [List.length_append, List.length_cons, List.length_nil] at * <;> omega
  | x :: a, y :: b => by
    have h1 := mgo_len st a (y :: b)
    have h2 := mgo_len st (x :: a) b
    have h3 := mgo_len st a b
    unfold mgo
    split
    · split <;> simp only [List.length_append, List.length_cons, List.length_nil] at * <;> omega
    · split
      · split <;> simp only [List.length_append, List.length_cons, List.length_nil] at * <;> omega
      · split <;> simp only [List.length_append, List.length_cons, List.length_nil] at * <;> omega
termination_by a b => a.length + b.length

theorem infoAd : (Try.prog.info? 35).map (fun i => (i.zero, i.size, i.bytes)) = some (some (.string ⟨#[]⟩), 1, 16) := by kernel_rfl
theorem cells1a (w : World) (x : Value) (t : TypeId) : ∀ j u, [x][j]? = some u → (w.alloc (.cells #[x] t)).cell? ((⟨w.heap.size, 0, none⟩ : Addr).add j) = some u := by
  intro j u hj
  have e : (⟨w.heap.size, 0, none⟩ : Addr).add j = ⟨w.heap.size, j, none⟩ := by unfold Addr.add; split <;> simp_all
  rw [e]
  exact cell_of_block (heap_new _ _) (by simpa using hj)
/-- What merge answers. -/
def MPost (l : List ByteArray) (w : World) (e : Ending) (w' : World) : Prop := ∃ v, e = .returned v ∧ AddrsG w.heap.size true w' v l ∧ Below w.heap.size w w'

theorem run_tail (b o m d : Nat) (U : World) : (Instr.slice 26 (.slice (some ⟨b, o, none⟩) (m + 1) d) (some (.int .i64 1)) none none).run Try.prog U = .ok (.slice (if d = 1 then some ⟨b, o, none⟩ else some ⟨b, o + 1, none⟩) m (d - 1)) U := by
  have h := run_slice_l (P := Try.prog) (w := U) 26 (some ⟨b, o, none⟩) (m + 1) d (by rw [show Try.prog.elem 26 = 35 from by kernel_rfl]; exact Try.underlying26) .i64 1 (by omega) (by omega)
  rw [h, show Try.prog.elem 26 = 35 from by kernel_rfl, Try.sizeOf35]
  simp [Result.andThen, sliced, Addr.add]
theorem run_tail2 (b o m d : Nat) (U : World) : (Instr.sliceAt 26 (.slice (some ⟨b, o, none⟩) (m + 1) d) (some (.int .i64 1)) none none).run Try.prog U = .ok (.slice (if d = 1 then some ⟨b, o, none⟩ else some ⟨b, o + 1, none⟩) m (d - 1)) U :=
  (run_sliceAt_slice (P := Try.prog) (w := U) 26 (.slice (some ⟨b, o, none⟩) (m + 1) d) (some (.int .i64 1)) none none (by rw [show Try.prog.elem 26 = 35 from by kernel_rfl]; exact Try.underlying26)).trans (run_tail b o m d U)
theorem AC.cons2 {w : World} {p : Option Addr} {c : Nat} {x : ByteArray} {t : List ByteArray} (h : AC w p c (x :: t)) :
    ∃ b off q, p = some ⟨b, off, none⟩ ∧ w.cell? ⟨b, off, none⟩ = some (.string x) ∧ (∀ m U, (Instr.slice 26 (.slice (some ⟨b, off, none⟩) (m + 1) c) (some (.int .i64 1)) none none).run Try.prog U = .ok (.slice q m (c - 1)) U) ∧ (∀ m U, (Instr.sliceAt 26 (.slice (some ⟨b, off, none⟩) (m + 1) c) (some (.int .i64 1)) none none).run Try.prog U = .ok (.slice q m (c - 1)) U) ∧ AC w q (c - 1) t := by
  obtain ⟨b, off, h1, h2, h3⟩ := h.cons
  refine ⟨b, off, if c = 1 then some ⟨b, off, none⟩ else some ⟨b, off + 1, none⟩, h1, h2, fun m U => run_tail b off m c U, fun m U => run_tail2 b off m c U, ?_⟩
  rcases h3 with ⟨rfl, rfl, h4⟩ | ⟨hc, h4⟩
  · rw [if_pos rfl, ← h1]; exact h4
  · rw [if_neg hc]; exact h4
theorem AC.mono0 {w : World} {p : Option Addr} {c : Nat} {l : List ByteArray} (h : AC w p c l) : AC w p c l := h
theorem iow_below {w w' : World} {base e size n : Nat} {v : Value} {xs : List Value} (h : w.ownsRow base e size v n xs) (k : Below w.heap.size w w') : w'.ownsRow base e size v n xs := owns_below h k

theorem mgo_x (st : Bool → Bool → Bool) (x : ByteArray) (a : List ByteArray) : mgo st (x :: a) [] = (if st true false then [x] else []) ++ mgo st a [] := by rw [mgo]
theorem mgo_y (st : Bool → Bool → Bool) (y : ByteArray) (b : List ByteArray) : mgo st [] (y :: b) = (if st false true then [y] else []) ++ mgo st [] b := by rw [mgo]
theorem mgo_lt (st : Bool → Bool → Bool) (x y : ByteArray) (a b : List ByteArray) (h : sl x y = true) : mgo st (x :: a) (y :: b) = (if st true false then [x] else []) ++ mgo st a (y :: b) := by rw [mgo, if_pos h]
theorem mgo_gt (st : Bool → Bool → Bool) (x y : ByteArray) (a b : List ByteArray) (h : sl x y = false) (k : sl y x = true) : mgo st (x :: a) (y :: b) = (if st false true then [y] else []) ++ mgo st (x :: a) b := by rw [mgo, if_neg (by simp [h]), if_pos k]
theorem mgo_eq (st : Bool → Bool → Bool) (x : ByteArray) (a b : List ByteArray) : mgo st (x :: a) (x :: b) = (if st true true then [x] else []) ++ mgo st a b := by rw [mgo, if_neg (by simp [sl_irrefl]), if_neg (by simp [sl_irrefl])]

set_option maxHeartbeats 16000000 in
set_option maxRecDepth 100000 in
theorem mergew_c (pa pb : Option Addr) (ca cb : Nat) (A B : List ByteArray) (st : Bool → Bool → Bool) (w : World) (hA : A.length ≤ 1000000) (hB : B.length ≤ 1000000) (ha : AC w pa ca A) (hb : AC w pb cb B)
    (hst : ∀ i j U, Below w.heap.size w U → Calls Try.prog 77 #[.bool i, .bool j] U fun e w' => e = .returned (.bool (st i j)) ∧ Below U.heap.size U w') :
    Calls Try.prog 74 #[.slice pa A.length ca, .slice pb B.length cb, .func (.func 77) #[] #[]] w (MPost (mgo st A B) w) := by
  have HS := Lib.hid hst
  obtain ⟨i0, hi, hz0, hz1, hz2⟩ := info_parts infoAd
  have hT := mgo_len st A B
  have hTT : (mgo st A B).length ≤ 2000000 := by omega
  unfold MPost
  generalize hR : mgo st A B = R at hTT ⊢
  have HR := Lib.hid hR
  have HA := Lib.hid ha
  have HB := Lib.hid hb
  clear hst hT hR ha hb
  go_enter Try.func74, Try.ntmps74
  go_wp2_with fail
  go_loopw [0, 1, 7, 8, 9, 10] (fun a b o _ _ _ wr => ∃ (qa qb : Option Addr) (da db na nb : Nat) (la lb acc : List ByteArray), a = .slice qa na da ∧ b = .slice qb nb db ∧ na = la.length ∧ nb = lb.length ∧ na ≤ 1000000 ∧ nb ≤ 1000000 ∧ Hid (AC w qa da la) ∧ Hid (AC w qb db lb) ∧ Hid (acc ++ mgo st la lb = R) ∧ Hid (wr.ownsRow w.heap.size 35 1 o acc.length (acc.map Value.string)) ∧ Hid (Below w.heap.size w wr)) (fun a b _ _ _ _ _ => (match a with | .slice _ n _ => n | _ => 0) + (match b with | .slice _ n _ => n | _ => 0))
  case atStart => exact ⟨pa, pb, ca, cb, _, _, A, B, [], rfl, rfl, rfl, rfl, hA, hB, HA, HB, HR, Lib.hid (World.ownsRow_nil _ _ _ _), Lib.hid (Below.refl _ _)⟩
  case round =>
    clear HA HB HR hA hB
    obtain ⟨qa, qb, da, db, na, nb, la, lb, acc, rfl, rfl, hna, hnb, hla, hlb, HA, HB, HR, OW, K⟩ := hrel
    have hal : Hid (acc.length ≤ 2000000) := Lib.hid (by have h := congrArg List.length HR.out; simp only [List.length_append] at h; omega)
    have HD := Lib.hid fun i j n => HS.out i j (wr.drewN n) (below_drewN K.out n)
    rcases la with _ | ⟨x, ta⟩
    · obtain rfl : na = 0 := by simpa using hna
      clear hna
      rcases lb with _ | ⟨y, tb⟩
      · obtain rfl : nb = 0 := by simpa using hnb
        clear hnb
        have HE := Lib.hid (show acc = R by have h := HR.out; rw [mgo, List.append_nil] at h; exact h)
        clear HR HD HA HB hal
        go_wp2_with fail
        go_ret
        obtain rfl := HE.out
        exact ⟨_, rfl, AddrsG.of_owns OW.out, K.out⟩
      · obtain ⟨b2, o2, qb2, rfl, y2, rb1, rb2, HB1⟩ := HB.out.cons2
        have x2 := cell_below K.out y2
        have HE := Lib.hid (mgo_y st y tb)
        clear y2
        obtain ⟨mb, rfl⟩ : ∃ m, nb = m + 1 := ⟨tb.length, by simpa using hnb⟩
        have hmb := Lib.hid (show mb = tb.length by simpa using hnb)
        have eb0 : (((mb : Int) + 1) == 0) = false := (ne_t (by omega)).1
        have eb1 : decide ((0 : Int) < (mb : Int) + 1) = true := decide_eq_true (by omega)
        have eb2 : decide (0 < mb + 1) = true := decide_eq_true (by omega)
        have eb3 : (0 : Int) < (mb : Int) + 1 := by omega
        clear hnb
        have HDx := Lib.hid (HD.out false true)
        clear HD
        have BN := Lib.hid HB1
        clear HB1
        rcases hs : st false true with _ | _
        · have HR2 := Lib.hid (show acc ++ mgo st [] tb = R by have h := HR.out; rw [HE.out, hs] at h; simpa using h)
          rw [hs] at HDx
          clear hs HE HR
          go_wp2_with fail
          go_quiet (fail)
          go_wp2_with fail
          go_quiet (fail)
          go_wp2_with fail
          go_quiet (fail)
          go_wp2_with fail
          refine (HDx.out _).mono ?_
          rintro e w3 ⟨rfl, h3⟩
          have D3 := Lib.hid (show Below wr.heap.size wr w3 from (below_drewN (Below.refl wr.heap.size wr) _).trans h3)
          have O3 := Lib.hid (iow_below OW.out D3.out)
          have K3 := Lib.hid (K.out.trans (D3.out.mono K.out.size))
          clear h3 D3
          have O9 := O3
          have K9 := K3
          go_wp2_with fail
          go_roundw
          case rel => exact ⟨_, _, _, _, _, _, [], tb, acc, rfl, rfl, (by first | rfl | exact hma.out | (simp only [List.length_cons]; have := hma.out; omega)), (by first | rfl | exact hmb.out | (simp only [List.length_cons]; have := hmb.out; omega)), by omega, by omega, HA, BN, HR2, O9, K9⟩
          case measure => simp; try omega
        · have HR2 := Lib.hid (show (acc ++ [y]) ++ mgo st [] tb = R by have h := HR.out; rw [HE.out, hs] at h; simpa using h)
          rw [hs] at HDx
          clear hs HE HR
          go_wp2_with fail
          go_quiet (fail)
          go_wp2_with fail
          go_quiet (fail)
          go_wp2_with fail
          go_quiet (fail)
          go_wp2_with fail
          refine (HDx.out _).mono ?_
          rintro e w3 ⟨rfl, h3⟩
          have D3 := Lib.hid (show Below wr.heap.size wr w3 from (below_drewN (Below.refl wr.heap.size wr) _).trans h3)
          have O3 := Lib.hid (iow_below OW.out D3.out)
          have K3 := Lib.hid (K.out.trans (D3.out.mono K.out.size))
          clear h3 D3
          go_wp2_with (at_builtin; refine wpList_append_own _ rfl _ _ 26 rfl w.heap.size 35 i0 (.string ⟨#[]⟩) 1 16 Try.underlying26 hi hz0 hz1 hz2 rfl (by decide) _ _ _ rfl (O3.out.alloc _) ⟨w3.heap.size, 0, none⟩ 1 1 [.string y] rfl rfl ?d1 ?d2 ?d3 ?d4 ?d5 ?_)
          case d1 => exact cells1a _ _ _
          case d2 => intro u hu; simp at hu; subst hu; rfl
          case d3 => unfold maxLen; have := hal.out; omega
          case d4 => have := hal.out; omega
          case d5 => have := K3.out.size; simp at this ⊢; omega
          intro v9 w7 hown7 hg7 _
          have O9 := Lib.hid (show w7.ownsRow w.heap.size 35 1 v9 (acc ++ [y]).length ((acc ++ [y]).map Value.string) by rw [List.length_append, List.map_append]; exact hown7)
          have K9 := Lib.hid ((K3.out.alloc K3.out.size _).grown hg7 (by have := K3.out.size; simp at this ⊢; omega) (fun j hj => (O3.out.lt j hj).1))
          clear hown7 hg7
          go_wp2_with fail
          go_roundw
          case rel => exact ⟨_, _, _, _, _, _, [], tb, (acc ++ [y]), rfl, rfl, (by first | rfl | exact hma.out | (simp only [List.length_cons]; have := hma.out; omega)), (by first | rfl | exact hmb.out | (simp only [List.length_cons]; have := hmb.out; omega)), by omega, by omega, HA, BN, HR2, O9, K9⟩
          case measure => simp; try omega
    · rcases lb with _ | ⟨y, tb⟩
      · obtain rfl : nb = 0 := by simpa using hnb
        clear hnb
        obtain ⟨b1, o1, qa2, rfl, y1, ra1, ra2, HA1⟩ := HA.out.cons2
        have x1 := cell_below K.out y1
        have HE := Lib.hid (mgo_x st x ta)
        clear y1
        obtain ⟨ma, rfl⟩ : ∃ m, na = m + 1 := ⟨ta.length, by simpa using hna⟩
        have hma := Lib.hid (show ma = ta.length by simpa using hna)
        have ea0 : (((ma : Int) + 1) == 0) = false := (ne_t (by omega)).1
        have ea1 : decide ((0 : Int) < (ma : Int) + 1) = true := decide_eq_true (by omega)
        have ea2 : decide (0 < ma + 1) = true := decide_eq_true (by omega)
        have ea3 : (0 : Int) < (ma : Int) + 1 := by omega
        clear hna
        have HDx := Lib.hid (HD.out true false)
        clear HD
        have AN := Lib.hid HA1
        clear HA1
        rcases hs : st true false with _ | _
        · have HR2 := Lib.hid (show acc ++ mgo st ta [] = R by have h := HR.out; rw [HE.out, hs] at h; simpa using h)
          rw [hs] at HDx
          clear hs HE HR
          go_wp2_with fail
          go_quiet (fail)
          go_wp2_with fail
          go_quiet (fail)
          go_wp2_with fail
          go_quiet (fail)
          go_wp2_with fail
          refine (HDx.out _).mono ?_
          rintro e w3 ⟨rfl, h3⟩
          have D3 := Lib.hid (show Below wr.heap.size wr w3 from (below_drewN (Below.refl wr.heap.size wr) _).trans h3)
          have O3 := Lib.hid (iow_below OW.out D3.out)
          have K3 := Lib.hid (K.out.trans (D3.out.mono K.out.size))
          clear h3 D3 x1
          have O9 := O3
          have K9 := K3
          go_wp2_with fail
          go_roundw
          case rel => exact ⟨_, _, _, _, _, _, ta, [], acc, rfl, rfl, (by first | rfl | exact hma.out | (simp only [List.length_cons]; have := hma.out; omega)), (by first | rfl | exact hmb.out | (simp only [List.length_cons]; have := hmb.out; omega)), by omega, by omega, AN, HB, HR2, O9, K9⟩
          case measure => simp; try omega
        · have HR2 := Lib.hid (show (acc ++ [x]) ++ mgo st ta [] = R by have h := HR.out; rw [HE.out, hs] at h; simpa using h)
          rw [hs] at HDx
          clear hs HE HR
          go_wp2_with fail
          go_quiet (fail)
          go_wp2_with fail
          go_quiet (fail)
          go_wp2_with fail
          go_quiet (fail)
          go_wp2_with fail
          refine (HDx.out _).mono ?_
          rintro e w3 ⟨rfl, h3⟩
          have D3 := Lib.hid (show Below wr.heap.size wr w3 from (below_drewN (Below.refl wr.heap.size wr) _).trans h3)
          have O3 := Lib.hid (iow_below OW.out D3.out)
          have K3 := Lib.hid (K.out.trans (D3.out.mono K.out.size))
          clear h3 D3 x1
          go_wp2_with (at_builtin; refine wpList_append_own _ rfl _ _ 26 rfl w.heap.size 35 i0 (.string ⟨#[]⟩) 1 16 Try.underlying26 hi hz0 hz1 hz2 rfl (by decide) _ _ _ rfl (O3.out.alloc _) ⟨w3.heap.size, 0, none⟩ 1 1 [.string x] rfl rfl ?d1 ?d2 ?d3 ?d4 ?d5 ?_)
          case d1 => exact cells1a _ _ _
          case d2 => intro u hu; simp at hu; subst hu; rfl
          case d3 => unfold maxLen; have := hal.out; omega
          case d4 => have := hal.out; omega
          case d5 => have := K3.out.size; simp at this ⊢; omega
          intro v9 w7 hown7 hg7 _
          have O9 := Lib.hid (show w7.ownsRow w.heap.size 35 1 v9 (acc ++ [x]).length ((acc ++ [x]).map Value.string) by rw [List.length_append, List.map_append]; exact hown7)
          have K9 := Lib.hid ((K3.out.alloc K3.out.size _).grown hg7 (by have := K3.out.size; simp at this ⊢; omega) (fun j hj => (O3.out.lt j hj).1))
          clear hown7 hg7
          go_wp2_with fail
          go_roundw
          case rel => exact ⟨_, _, _, _, _, _, ta, [], (acc ++ [x]), rfl, rfl, (by first | rfl | exact hma.out | (simp only [List.length_cons]; have := hma.out; omega)), (by first | rfl | exact hmb.out | (simp only [List.length_cons]; have := hmb.out; omega)), by omega, by omega, AN, HB, HR2, O9, K9⟩
          case measure => simp; try omega
      · obtain ⟨b1, o1, qa2, rfl, y1, ra1, ra2, HA1⟩ := HA.out.cons2
        obtain ⟨b2, o2, qb2, rfl, y2, rb1, rb2, HB1⟩ := HB.out.cons2
        have x1 := cell_below K.out y1
        have x2 := cell_below K.out y2
        clear y1 y2
        rcases h1 : sl x y with _ | _
        · rcases h2 : sl y x with _ | _
          · obtain rfl := sl_tri h1 h2
            have k1 := fun t => leq_of (x := x) (y := x) (r := true) (by rw [h1]; rfl) t
            have HE := Lib.hid (mgo_eq st x ta tb)
            clear h1 h2
            obtain ⟨ma, rfl⟩ : ∃ m, na = m + 1 := ⟨ta.length, by simpa using hna⟩
            have hma := Lib.hid (show ma = ta.length by simpa using hna)
            have ea0 : (((ma : Int) + 1) == 0) = false := (ne_t (by omega)).1
            have ea1 : decide ((0 : Int) < (ma : Int) + 1) = true := decide_eq_true (by omega)
            have ea2 : decide (0 < ma + 1) = true := decide_eq_true (by omega)
            have ea3 : (0 : Int) < (ma : Int) + 1 := by omega
            clear hna
            obtain ⟨mb, rfl⟩ : ∃ m, nb = m + 1 := ⟨tb.length, by simpa using hnb⟩
            have hmb := Lib.hid (show mb = tb.length by simpa using hnb)
            have eb0 : (((mb : Int) + 1) == 0) = false := (ne_t (by omega)).1
            have eb1 : decide ((0 : Int) < (mb : Int) + 1) = true := decide_eq_true (by omega)
            have eb2 : decide (0 < mb + 1) = true := decide_eq_true (by omega)
            have eb3 : (0 : Int) < (mb : Int) + 1 := by omega
            clear hnb
            have HDx := Lib.hid (HD.out true true)
            clear HD
            have AN := Lib.hid HA1
            clear HA1
            have BN := Lib.hid HB1
            clear HB1
            rcases hs : st true true with _ | _
            · have HR2 := Lib.hid (show acc ++ mgo st ta tb = R by have h := HR.out; rw [HE.out, hs] at h; simpa using h)
              rw [hs] at HDx
              clear hs HE HR
              go_wp2_with fail
              go_quiet (fail)
              go_wp2_with fail
              go_quiet (fail)
              go_wp2_with fail
              go_quiet (fail)
              go_wp2_with fail
              go_quiet (fail)
              go_wp2_with fail
              refine (HDx.out _).mono ?_
              rintro e w3 ⟨rfl, h3⟩
              have D3 := Lib.hid (show Below wr.heap.size wr w3 from (below_drewN (Below.refl wr.heap.size wr) _).trans h3)
              have O3 := Lib.hid (iow_below OW.out D3.out)
              have K3 := Lib.hid (K.out.trans (D3.out.mono K.out.size))
              clear h3 D3
              have O9 := O3
              have K9 := K3
              go_wp2_with fail
              go_roundw
              case rel => exact ⟨_, _, _, _, _, _, ta, tb, acc, rfl, rfl, (by first | rfl | exact hma.out | (simp only [List.length_cons]; have := hma.out; omega)), (by first | rfl | exact hmb.out | (simp only [List.length_cons]; have := hmb.out; omega)), by omega, by omega, AN, BN, HR2, O9, K9⟩
              case measure => simp; try omega
            · have HR2 := Lib.hid (show (acc ++ [x]) ++ mgo st ta tb = R by have h := HR.out; rw [HE.out, hs] at h; simpa using h)
              rw [hs] at HDx
              clear hs HE HR
              go_wp2_with fail
              go_quiet (fail)
              go_wp2_with fail
              go_quiet (fail)
              go_wp2_with fail
              go_quiet (fail)
              go_wp2_with fail
              go_quiet (fail)
              go_wp2_with fail
              refine (HDx.out _).mono ?_
              rintro e w3 ⟨rfl, h3⟩
              have D3 := Lib.hid (show Below wr.heap.size wr w3 from (below_drewN (Below.refl wr.heap.size wr) _).trans h3)
              have O3 := Lib.hid (iow_below OW.out D3.out)
              have K3 := Lib.hid (K.out.trans (D3.out.mono K.out.size))
              clear h3 D3
              go_wp2_with (at_builtin; refine wpList_append_own _ rfl _ _ 26 rfl w.heap.size 35 i0 (.string ⟨#[]⟩) 1 16 Try.underlying26 hi hz0 hz1 hz2 rfl (by decide) _ _ _ rfl (O3.out.alloc _) ⟨w3.heap.size, 0, none⟩ 1 1 [.string x] rfl rfl ?d1 ?d2 ?d3 ?d4 ?d5 ?_)
              case d1 => exact cells1a _ _ _
              case d2 => intro u hu; simp at hu; subst hu; rfl
              case d3 => unfold maxLen; have := hal.out; omega
              case d4 => have := hal.out; omega
              case d5 => have := K3.out.size; simp at this ⊢; omega
              intro v9 w7 hown7 hg7 _
              have O9 := Lib.hid (show w7.ownsRow w.heap.size 35 1 v9 (acc ++ [x]).length ((acc ++ [x]).map Value.string) by rw [List.length_append, List.map_append]; exact hown7)
              have K9 := Lib.hid ((K3.out.alloc K3.out.size _).grown hg7 (by have := K3.out.size; simp at this ⊢; omega) (fun j hj => (O3.out.lt j hj).1))
              clear hown7 hg7
              go_wp2_with fail
              go_roundw
              case rel => exact ⟨_, _, _, _, _, _, ta, tb, (acc ++ [x]), rfl, rfl, (by first | rfl | exact hma.out | (simp only [List.length_cons]; have := hma.out; omega)), (by first | rfl | exact hmb.out | (simp only [List.length_cons]; have := hmb.out; omega)), by omega, by omega, AN, BN, HR2, O9, K9⟩
              case measure => simp; try omega
          · have k1 := fun t => leq_of (x := x) (y := y) (r := false) (by rw [h2]; rfl) t
            have k2 := fun t => leq_of (x := y) (y := x) (r := true) (by rw [h1]; rfl) t
            have HE := Lib.hid (mgo_gt st x y ta tb h1 h2)
            clear h1 h2
            obtain ⟨ma, rfl⟩ : ∃ m, na = m + 1 := ⟨ta.length, by simpa using hna⟩
            have hma := Lib.hid (show ma = ta.length by simpa using hna)
            have ea0 : (((ma : Int) + 1) == 0) = false := (ne_t (by omega)).1
            have ea1 : decide ((0 : Int) < (ma : Int) + 1) = true := decide_eq_true (by omega)
            have ea2 : decide (0 < ma + 1) = true := decide_eq_true (by omega)
            have ea3 : (0 : Int) < (ma : Int) + 1 := by omega
            clear hna
            obtain ⟨mb, rfl⟩ : ∃ m, nb = m + 1 := ⟨tb.length, by simpa using hnb⟩
            have hmb := Lib.hid (show mb = tb.length by simpa using hnb)
            have eb0 : (((mb : Int) + 1) == 0) = false := (ne_t (by omega)).1
            have eb1 : decide ((0 : Int) < (mb : Int) + 1) = true := decide_eq_true (by omega)
            have eb2 : decide (0 < mb + 1) = true := decide_eq_true (by omega)
            have eb3 : (0 : Int) < (mb : Int) + 1 := by omega
            clear hnb
            have HDx := Lib.hid (HD.out false true)
            clear HD
            have BN := Lib.hid HB1
            clear HB1
            rcases hs : st false true with _ | _
            · have HR2 := Lib.hid (show acc ++ mgo st (x :: ta) tb = R by have h := HR.out; rw [HE.out, hs] at h; simpa using h)
              rw [hs] at HDx
              clear hs HE HR
              go_wp2_with fail
              go_quiet (fail)
              go_wp2_with fail
              go_quiet (fail)
              go_wp2_with fail
              go_quiet (fail)
              go_wp2_with fail
              refine (HDx.out _).mono ?_
              rintro e w3 ⟨rfl, h3⟩
              have D3 := Lib.hid (show Below wr.heap.size wr w3 from (below_drewN (Below.refl wr.heap.size wr) _).trans h3)
              have O3 := Lib.hid (iow_below OW.out D3.out)
              have K3 := Lib.hid (K.out.trans (D3.out.mono K.out.size))
              clear h3 D3
              have O9 := O3
              have K9 := K3
              go_wp2_with fail
              go_roundw
              case rel => exact ⟨_, _, _, _, _, _, (x :: ta), tb, acc, rfl, rfl, (by first | rfl | exact hma.out | (simp only [List.length_cons]; have := hma.out; omega)), (by first | rfl | exact hmb.out | (simp only [List.length_cons]; have := hmb.out; omega)), by omega, by omega, HA, BN, HR2, O9, K9⟩
              case measure => simp; try omega
            · have HR2 := Lib.hid (show (acc ++ [y]) ++ mgo st (x :: ta) tb = R by have h := HR.out; rw [HE.out, hs] at h; simpa using h)
              rw [hs] at HDx
              clear hs HE HR
              go_wp2_with fail
              go_quiet (fail)
              go_wp2_with fail
              go_quiet (fail)
              go_wp2_with fail
              go_quiet (fail)
              go_wp2_with fail
              refine (HDx.out _).mono ?_
              rintro e w3 ⟨rfl, h3⟩
              have D3 := Lib.hid (show Below wr.heap.size wr w3 from (below_drewN (Below.refl wr.heap.size wr) _).trans h3)
              have O3 := Lib.hid (iow_below OW.out D3.out)
              have K3 := Lib.hid (K.out.trans (D3.out.mono K.out.size))
              clear h3 D3
              go_wp2_with (at_builtin; refine wpList_append_own _ rfl _ _ 26 rfl w.heap.size 35 i0 (.string ⟨#[]⟩) 1 16 Try.underlying26 hi hz0 hz1 hz2 rfl (by decide) _ _ _ rfl (O3.out.alloc _) ⟨w3.heap.size, 0, none⟩ 1 1 [.string y] rfl rfl ?d1 ?d2 ?d3 ?d4 ?d5 ?_)
              case d1 => exact cells1a _ _ _
              case d2 => intro u hu; simp at hu; subst hu; rfl
              case d3 => unfold maxLen; have := hal.out; omega
              case d4 => have := hal.out; omega
              case d5 => have := K3.out.size; simp at this ⊢; omega
              intro v9 w7 hown7 hg7 _
              have O9 := Lib.hid (show w7.ownsRow w.heap.size 35 1 v9 (acc ++ [y]).length ((acc ++ [y]).map Value.string) by rw [List.length_append, List.map_append]; exact hown7)
              have K9 := Lib.hid ((K3.out.alloc K3.out.size _).grown hg7 (by have := K3.out.size; simp at this ⊢; omega) (fun j hj => (O3.out.lt j hj).1))
              clear hown7 hg7
              go_wp2_with fail
              go_roundw
              case rel => exact ⟨_, _, _, _, _, _, (x :: ta), tb, (acc ++ [y]), rfl, rfl, (by first | rfl | exact hma.out | (simp only [List.length_cons]; have := hma.out; omega)), (by first | rfl | exact hmb.out | (simp only [List.length_cons]; have := hmb.out; omega)), by omega, by omega, HA, BN, HR2, O9, K9⟩
              case measure => simp; try omega
        · have h2 := sl_asym h1
          have k1 := fun t => leq_of (x := x) (y := y) (r := true) (by rw [h2]; rfl) t
          have k2 := fun t => leq_of (x := y) (y := x) (r := false) (by rw [h1]; rfl) t
          have HE := Lib.hid (mgo_lt st x y ta tb h1)
          clear h1 h2
          obtain ⟨ma, rfl⟩ : ∃ m, na = m + 1 := ⟨ta.length, by simpa using hna⟩
          have hma := Lib.hid (show ma = ta.length by simpa using hna)
          have ea0 : (((ma : Int) + 1) == 0) = false := (ne_t (by omega)).1
          have ea1 : decide ((0 : Int) < (ma : Int) + 1) = true := decide_eq_true (by omega)
          have ea2 : decide (0 < ma + 1) = true := decide_eq_true (by omega)
          have ea3 : (0 : Int) < (ma : Int) + 1 := by omega
          clear hna
          obtain ⟨mb, rfl⟩ : ∃ m, nb = m + 1 := ⟨tb.length, by simpa using hnb⟩
          have hmb := Lib.hid (show mb = tb.length by simpa using hnb)
          have eb0 : (((mb : Int) + 1) == 0) = false := (ne_t (by omega)).1
          have eb1 : decide ((0 : Int) < (mb : Int) + 1) = true := decide_eq_true (by omega)
          have eb2 : decide (0 < mb + 1) = true := decide_eq_true (by omega)
          have eb3 : (0 : Int) < (mb : Int) + 1 := by omega
          clear hnb
          have HDx := Lib.hid (HD.out true false)
          clear HD
          have AN := Lib.hid HA1
          clear HA1
          rcases hs : st true false with _ | _
          · have HR2 := Lib.hid (show acc ++ mgo st ta (y :: tb) = R by have h := HR.out; rw [HE.out, hs] at h; simpa using h)
            rw [hs] at HDx
            clear hs HE HR
            go_wp2_with fail
            go_quiet (fail)
            go_wp2_with fail
            go_quiet (fail)
            go_wp2_with fail
            go_quiet (fail)
            go_wp2_with fail
            refine (HDx.out _).mono ?_
            rintro e w3 ⟨rfl, h3⟩
            have D3 := Lib.hid (show Below wr.heap.size wr w3 from (below_drewN (Below.refl wr.heap.size wr) _).trans h3)
            have O3 := Lib.hid (iow_below OW.out D3.out)
            have K3 := Lib.hid (K.out.trans (D3.out.mono K.out.size))
            clear h3 D3
            have O9 := O3
            have K9 := K3
            go_wp2_with fail
            go_roundw
            case rel => exact ⟨_, _, _, _, _, _, ta, (y :: tb), acc, rfl, rfl, (by first | rfl | exact hma.out | (simp only [List.length_cons]; have := hma.out; omega)), (by first | rfl | exact hmb.out | (simp only [List.length_cons]; have := hmb.out; omega)), by omega, by omega, AN, HB, HR2, O9, K9⟩
            case measure => simp; try omega
          · have HR2 := Lib.hid (show (acc ++ [x]) ++ mgo st ta (y :: tb) = R by have h := HR.out; rw [HE.out, hs] at h; simpa using h)
            rw [hs] at HDx
            clear hs HE HR
            go_wp2_with fail
            go_quiet (fail)
            go_wp2_with fail
            go_quiet (fail)
            go_wp2_with fail
            go_quiet (fail)
            go_wp2_with fail
            refine (HDx.out _).mono ?_
            rintro e w3 ⟨rfl, h3⟩
            have D3 := Lib.hid (show Below wr.heap.size wr w3 from (below_drewN (Below.refl wr.heap.size wr) _).trans h3)
            have O3 := Lib.hid (iow_below OW.out D3.out)
            have K3 := Lib.hid (K.out.trans (D3.out.mono K.out.size))
            clear h3 D3
            go_wp2_with (at_builtin; refine wpList_append_own _ rfl _ _ 26 rfl w.heap.size 35 i0 (.string ⟨#[]⟩) 1 16 Try.underlying26 hi hz0 hz1 hz2 rfl (by decide) _ _ _ rfl (O3.out.alloc _) ⟨w3.heap.size, 0, none⟩ 1 1 [.string x] rfl rfl ?d1 ?d2 ?d3 ?d4 ?d5 ?_)
            case d1 => exact cells1a _ _ _
            case d2 => intro u hu; simp at hu; subst hu; rfl
            case d3 => unfold maxLen; have := hal.out; omega
            case d4 => have := hal.out; omega
            case d5 => have := K3.out.size; simp at this ⊢; omega
            intro v9 w7 hown7 hg7 _
            have O9 := Lib.hid (show w7.ownsRow w.heap.size 35 1 v9 (acc ++ [x]).length ((acc ++ [x]).map Value.string) by rw [List.length_append, List.map_append]; exact hown7)
            have K9 := Lib.hid ((K3.out.alloc K3.out.size _).grown hg7 (by have := K3.out.size; simp at this ⊢; omega) (fun j hj => (O3.out.lt j hj).1))
            clear hown7 hg7
            go_wp2_with fail
            go_roundw
            case rel => exact ⟨_, _, _, _, _, _, ta, (y :: tb), (acc ++ [x]), rfl, rfl, (by first | rfl | exact hma.out | (simp only [List.length_cons]; have := hma.out; omega)), (by first | rfl | exact hmb.out | (simp only [List.length_cons]; have := hmb.out; omega)), by omega, by omega, AN, HB, HR2, O9, K9⟩
            case measure => simp; try omega

end Go.Proofs.Ythpafojeadbjlaa
