/-
  Writing records: igmp.sourcesMayBe, recordMayBe, the writer's record, Body. Contracts over the translated program.
  Writing records: igmp.Body. A contract over the translated program.
-/
import Derived.Test.YtniahpbjfpmmhaaGreatIgXY
import Derived.Test.YtniahpbjfpmmhaaGreatIgC
namespace Go.Proofs.YtniahpbjfpmmhaaGreat
open Go.RowKit
set_option linter.unusedVariables false

def srcsB (L : List ByteArray) (size : Int) : Bool := L.all (fun a => decide ((a.size : Int) = size)) && decide (L.length ≤ 60)
def recB (r : Rec) (size : Int) : Bool := kindB r.kind && grpB r.group size && srcsB r.srcs size
def recL (r : Rec) : List UInt8 := bytesOf r.kind.toNat 1 ++ bytesOf 0 1 ++ bytesOf r.srcs.length 2 ++ r.group.data.toList ++ flatL r.srcs
/-- What Body answers. -/
def bodyI (L : List Rec) (size : Int) : Int × ByteArray :=
  if sizeB size = false ∨ 30 < L.length then (1, ⟨#[]⟩) else if L.all (fun r => recB r size) then (0, ⟨(L.flatMap recL).toArray⟩) else (1, ⟨#[]⟩)

set_option maxHeartbeats 1000000 in
set_option maxRecDepth 100000 in
theorem srcmay_c (v : Value) (L : List ByteArray) (size : Int) (w : World) (hl : L.length ≤ 9223372036854775807) (ha : AddrsAt w v L) :
    Calls Tryz.prog 106 #[v, .int .i64 size] w fun e w' => e = .returned (.bool (srcsB L size)) ∧ w = w' := by
  obtain ⟨p, cap, b, off, rfl, hp, hc⟩ := ha
  have HP := Lib.hid hp
  have HC := Lib.hid hc
  clear hp hc
  go_enter Tryz.func106, Tryz.ntmps106
  go_wp2_with fail
  go_loop [6, 9] (fun _ i => ∃ k : Nat, k ≤ L.length ∧ i = .int .i64 k ∧ Hid ((L.take k).all (fun a => decide ((a.size : Int) = size)) = true)) (fun _ i => L.length - (intOf i).toNat)
  case atStart => exact ⟨0, Nat.zero_le _, rfl, Lib.hid rfl⟩
  case round =>
    obtain ⟨k, hk, rfl, hall⟩ := hrel
    by_cases hlt : k < L.length
    · have hne : L ≠ [] := by rintro rfl; simp at hlt
      obtain ⟨rfl, -⟩ := HP.out hne
      have x1 := HC.out k _ (List.getElem?_eq_getElem hlt)
      have hT := Lib.hid (List.take_succ_eq_append_getElem hlt)
      have hM := Lib.hid (List.getElem_mem hlt)
      generalize L[k] = a at x1 hT hM
      have hlt' : (k : Int) < (L.length : Int) := by omega
      clear hne
      by_cases hz : (a.size : Int) = size
      · obtain ⟨q1, q2⟩ := eq_t hz
        have hA2 := Lib.hid (show (L.take (k + 1)).all (fun a => decide ((a.size : Int) = size)) = true by rw [hT.out, List.all_append, hall.out]; simp [hz])
        clear hz
        go_wp2_with fail
        go_round
        case rel => exact ⟨k + 1, by omega, by go_num, hA2⟩
        case measure => simp [intOf]; omega
      · obtain ⟨q1, q2⟩ := ne_t hz
        have V := Lib.hid (show srcsB L size = false by
          unfold srcsB
          have : L.all (fun a => decide ((a.size : Int) = size)) = false := by
            rw [List.all_eq_false]
            exact ⟨a, hM.out, by simpa using hz⟩
          rw [this]; rfl)
        clear hz
        go_wp2_with fail
        go_ret
        exact ⟨by rw [V.out]; rfl, rfl⟩
    · obtain rfl : k = L.length := by omega
      have V := Lib.hid (show srcsB L size = decide ((L.length : Int) ≤ 60) by
        have h := hall.out
        rw [List.take_length] at h
        unfold srcsB
        rw [h, Bool.true_and, Bool.eq_iff_iff, decide_eq_true_iff, decide_eq_true_iff]
        omega)
      clear hlt
      go_wp2_with fail
      go_ret
      exact ⟨by rw [V.out]; rfl, rfl⟩

set_option maxHeartbeats 1000000 in
set_option maxRecDepth 100000 in
theorem recmay_c (r : Rec) (vs : Value) (size : Int) (w : World) (hl : r.srcs.length ≤ 9223372036854775807) (ha : AddrsAt w vs r.srcs) :
    Calls Tryz.prog 94 #[.agg #[.int .i64 r.kind, .string r.group, vs], .int .i64 size] w fun e w' => e = .returned (.bool (recB r size)) ∧ Below w.heap.size w w' := by
  obtain ⟨kd, g, L⟩ := r
  simp only at hl ha ⊢
  have H1 := Lib.hid fun U => iskind_c kd U
  have H2 := Lib.hid fun U => isgroup_c g size U
  have H3 := Lib.hid fun U (h : AddrsAt U vs L) => srcmay_c vs L size U hl h
  have V := Lib.hid (show recB ⟨kd, g, L⟩ size = (kindB kd && grpB g size && srcsB L size) from rfl)
  generalize recB ⟨kd, g, L⟩ size = rb at *
  generalize kindB kd = b1 at *
  generalize grpB g size = b2 at *
  generalize srcsB L size = b3 at *
  obtain ⟨p, cp, rfl⟩ := ha.slice
  have HA := Lib.hid ha
  generalize L.length = n at HA H3
  clear ha hl
  go_enter Tryz.func94, Tryz.ntmps94
  go_wp2_with fail
  ((with_reducible refine (H1.out _).mono ?_); rintro e w1 ⟨rfl, rfl⟩)
  have B := Lib.hid (Box.start w #[.int .i64 kd, .string g, .slice p n cp] 36)
  cases b1
  · go_wp2_with fail
    go_ret
    exact ⟨by rw [V.out]; rfl, B.out.2⟩
  · go_wp2_with fail
    ((with_reducible refine (H2.out _).mono ?_); rintro e w2 ⟨rfl, h2⟩)
    replace B := Lib.hid (B.out.below h2)
    have c2 := B.out.cell 2 rfl
    clear h2
    cases b2
    · go_wp2_with fail
      go_ret
      exact ⟨by rw [V.out]; rfl, B.out.2⟩
    · have HA2 := HA.out.below B.out.2
      go_wp2_with fail
      ((with_reducible refine (H3.out _ HA2).mono ?_); rintro e w3 ⟨rfl, rfl⟩)
      go_wp2_with fail
      go_ret
      exact ⟨by rw [V.out]; rfl, B.out.2⟩

set_option maxHeartbeats 1000000 in
set_option maxRecDepth 100000 in
theorem wrec_c (b : Nat) (l : List UInt8) (r : Rec) (vs : Value) (w : World) (h : Wr.Bld b l w) (ha : AddrsW b w vs r.srcs) (hk : 0 ≤ r.kind ∧ r.kind ≤ 255) (hn : r.srcs.length ≤ 60) (hg : r.group.size ≤ 16) (hf : (flatL r.srcs).length ≤ 960) (hl : l.length ≤ 1000000) :
    Calls Tryz.prog 95 #[.pointer (some ⟨b, 0, none⟩), .agg #[.int .i64 r.kind, .string r.group, vs]] w (WPost b (l ++ recL r) w) := by
  obtain ⟨kd, g, L⟩ := r
  simp only at hk hn hg hf ha ⊢
  obtain ⟨K, rfl⟩ := Int.eq_ofNat_of_zero_le hk.1
  have P1 := Lib.hid (put_n K 1 (by omega) (by omega) (by omega))
  have P2 := Lib.hid (put_n 0 1 (by omega) (by omega) (by omega))
  have P3 := Lib.hid (put_n L.length 2 (by omega) (by omega) (by omega))
  have Z1 := bytesOf_length K 1
  have Z2 := bytesOf_length 0 1
  have Z3 := bytesOf_length L.length 2
  have ZG := vlen g
  have V := Lib.hid (show l ++ recL ⟨(K : Int), g, L⟩ = l ++ bytesOf K 1 ++ bytesOf 0 1 ++ bytesOf L.length 2 ++ flatL [g] ++ flatL L by
    unfold recL
    simp only [Int.toNat_natCast, List.append_assoc]
    simp [flatL])
  rw [V.out]
  clear V
  have HB := Lib.hid h
  have HA := Lib.hid ha
  obtain ⟨p, cap, blk, off, rfl, -⟩ := ha
  have hn' : (L.length : Int) ≤ 60 := by omega
  clear h
  go_enter Tryz.func95, Tryz.ntmps95
  go_wp2_with fail
  have Wf := Lib.hid (WF.start (xs := #[.int .i64 K, .string g, .slice p L.length cap]) (t := 36) HB.out)
  replace HA := Lib.hid (HA.out.keep Wf.out.2.1 Wf.out.2.2.1)
  refine (wnum_c b _ K 1 _ Wf.out.1 (by omega) (by omega) (by omega)).mono ?_
  rintro e w2 ⟨rfl, b2, h2, o2⟩
  rw [show ((1 : Int)) = ((1 : Nat) : Int) from rfl, P1.out] at b2
  replace Wf := Lib.hid (Wf.out.wrote (by decide) b2 h2 o2)
  replace HA := Lib.hid (HA.out.keep h2 o2)
  clear b2 h2 o2
  go_wp2_with fail
  refine (wnum_c b _ 0 1 w2 Wf.out.1 (by simp only [List.length_append]; omega) (by omega) (by omega)).mono ?_
  rintro e w3 ⟨rfl, b2, h2, o2⟩
  rw [show ((1 : Int)) = ((1 : Nat) : Int) from rfl, show (0 : Int) = ((0 : Nat) : Int) from rfl, P2.out] at b2
  replace Wf := Lib.hid (Wf.out.wrote (by decide) b2 h2 o2)
  replace HA := Lib.hid (HA.out.keep h2 o2)
  clear b2 h2 o2
  have c2 := Wf.out.cell 2 rfl
  go_wp2_with fail
  refine (wnum_c b _ L.length 2 w3 Wf.out.1 (by simp only [List.length_append]; omega) (by omega) (by omega)).mono ?_
  rintro e w4 ⟨rfl, b2, h2, o2⟩
  rw [show ((2 : Int)) = ((2 : Nat) : Int) from rfl, P3.out] at b2
  replace Wf := Lib.hid (Wf.out.wrote (by decide) b2 h2 o2)
  replace HA := Lib.hid (HA.out.keep h2 o2)
  clear b2 h2 o2 c2
  have c1 := Wf.out.cell 1 rfl
  go_wp2_with fail
  have BA := Wf.out.1.lt
  have Ha := AddrsW.one b w4 g BA
  have hal : Below w4.heap.size w4 (w4.alloc (.cells #[.string g] 22)) := (Below.refl _ w4).alloc (Nat.le_refl _) _
  replace Wf := Lib.hid (Wf.out.below hal)
  replace HA := Lib.hid (HA.out.keep (hal.mono (Nat.le_of_lt BA)) (Wr.KeptO.of_below hal))
  refine (waddrs_c b _ _ [g] _ Wf.out.1 Ha (by simp) (by simp only [List.length_append, flatL, List.flatMap_cons, List.flatMap_nil, List.append_nil]; omega)).mono ?_
  rintro e w5 ⟨rfl, b2, h2, o2⟩
  replace Wf := Lib.hid (Wf.out.wrote (by decide) b2 h2 o2)
  replace HA := Lib.hid (HA.out.keep h2 o2)
  clear c1 b2 h2 o2 Ha hal
  have c2 := Wf.out.cell 2 rfl
  go_wp2_with fail
  refine (waddrs_c b _ _ L _ Wf.out.1 HA.out (by omega) (by simp only [List.length_append, flatL, List.flatMap_cons, List.flatMap_nil, List.append_nil] at hf ⊢; omega)).mono ?_
  rintro e w6 ⟨rfl, b2, h2, o2⟩
  replace Wf := Lib.hid (Wf.out.wrote (by decide) b2 h2 o2)
  go_wp2_with fail
  go_end0
  exact ⟨rfl, Wf.out.1, Wf.out.2.1, Wf.out.2.2.1⟩

theorem lib_empty (b : Nat) (w : World) (h0 : w.heap[b]? = some (.cells #[.pointer none, .slice none 0 0] 114 (0, 0))) :
    Calls Tryz.prog 10 #[.pointer (some ⟨b, 0, none⟩)] w fun e w' => e = .returned (.string ⟨#[]⟩) ∧ Below w.heap.size w w' := by
  have c1 : w.drew.cell? ⟨b, 1, none⟩ = some (.slice none 0 0) := cell_of_block (w := w.drew) h0 rfl
  have c1' : w.cell? ⟨b, 1, none⟩ = some (.slice none 0 0) := cell_of_block h0 rfl
  have hSD : ∀ U : World, (Builtin.unsafeSliceData_ #[42] 60 #[.slice none 0 0]).run Tryz.prog U = .ok (.pointer none) U := fun U => Lib.run_unsafeSliceData_nil _ _ _ _ _
  have hUS : ∀ U : World, (Builtin.unsafeString_ #[60, 3] 9 #[.pointer none, .int .i64 0]).run Tryz.prog U = .ok (.string .empty) U := fun U => Lib.run_unsafeString_none _ _ _ _ _
  go_enter Tryz.func10, Tryz.ntmps10
  go_wp2
  go_region
  all_goals (go_wp2; go_ret; exact ⟨rfl, (Below.refl _ w).drew⟩)

theorem flat_take_rec (L : List Rec) (k : Nat) (h : k < L.length) : (L.take (k + 1)).flatMap recL = (L.take k).flatMap recL ++ recL L[k] := by
  rw [List.take_succ_eq_append_getElem h, List.flatMap_append]
  simp
theorem srcs_flat (L : List ByteArray) (size : Int) (h : srcsB L size = true) (hs : size ≤ 16) : (flatL L).length ≤ 960 ∧ L.length ≤ 60 := by
  unfold srcsB at h
  rw [Bool.and_eq_true, decide_eq_true_iff, List.all_eq_true] at h
  obtain ⟨h1, h2⟩ := h
  refine ⟨?_, h2⟩
  have : ∀ M : List ByteArray, (∀ a ∈ M, a.size ≤ 16) → (flatL M).length ≤ 16 * M.length := by
    intro M
    induction M with
    | nil => intro _; simp [flatL]
    | cons a M ih =>
      intro h
      have h3 := ih fun x hx => h x (List.mem_cons_of_mem _ hx)
      have h4 := h a (List.mem_cons_self ..)
      have h5 := vlen a
      unfold flatL at h3 ⊢
      rw [List.flatMap_cons, List.length_append, List.length_cons]
      omega
  have h3 := this L fun a ha => by have := of_decide_eq_true (h1 a ha); omega
  omega
theorem rec_len (r : Rec) (size : Int) (h : recB r size = true) (hs : size ≤ 16) : (recL r).length ≤ 1000 ∧ (0 ≤ r.kind ∧ r.kind ≤ 255) ∧ r.srcs.length ≤ 60 ∧ r.group.size ≤ 16 ∧ (flatL r.srcs).length ≤ 960 := by
  unfold recB at h
  rw [Bool.and_eq_true, Bool.and_eq_true] at h
  obtain ⟨⟨h1, h2⟩, h3⟩ := h
  have k := of_decide_eq_true h1
  obtain ⟨f1, f2⟩ := srcs_flat r.srcs size h3 hs
  have hg : r.group.size ≤ 16 := by
    unfold grpB at h2
    rw [Bool.and_eq_true, decide_eq_true_iff] at h2
    omega
  refine ⟨?_, by omega, f2, hg, f1⟩
  have := vlen r.group
  unfold recL
  simp only [List.length_append, bytesOf_length]
  omega
theorem recs_len (size : Int) (hs : size ≤ 16) : ∀ L : List Rec, (∀ r ∈ L, recB r size = true) → (L.flatMap recL).length ≤ 1000 * L.length
  | [], _ => by simp
  | r :: L, h => by
    have h1 := recs_len size hs L fun x hx => h x (List.mem_cons_of_mem _ hx)
    have h2 := (rec_len r size (h r (List.mem_cons_self ..)) hs).1
    rw [List.flatMap_cons, List.length_append, List.length_cons]
    omega
theorem AddrsW.of_at {b : Nat} {w0 w : World} {v : Value} {L : List ByteArray} (h : AddrsAt w0 v L) (k : Below w0.heap.size w0 w) (hb : w0.heap.size ≤ b) : AddrsW b w v L := by
  obtain ⟨p, cap, blk, off, hv, hp, hc⟩ := h
  refine ⟨p, cap, blk, off, hv, fun hL => ⟨(hp hL).1, .inl ?_⟩, fun j s hj => cell_below k (hc j s hj)⟩
  cases L with
  | nil => exact absurd rfl hL
  | cons a L => exact Nat.lt_of_lt_of_le (cell_lt' (hc 0 a rfl)) hb

/-- What Body answers in memory. -/
def BodyPost (t : Int × ByteArray) (w : World) (e : Ending) (w' : World) : Prop := e = .returned (.tuple #[.string t.2, .int .i64 t.1]) ∧ Below w.heap.size w w'

/-- A fresh writer that has written nothing. -/
def Fresh (b : Nat) (w : World) : Prop := w.heap[b]? = some (.cells #[.pointer none, .slice none 0 0] 114 (0, 0))

set_option maxHeartbeats 2000000 in
set_option maxRecDepth 100000 in
theorem body_go (v : Value) (L : List Rec) (size : Int) (w : World) (hz : sizeB size = true) (hL : L.length ≤ 30) (hs : ∀ r ∈ L, r.srcs.length ≤ 9223372036854775807) (ha : RecsAt w v L) :
    Calls Tryz.prog 78 #[v, .int .i64 size] w (BodyPost (bodyI L size) w) := by
  have HZ := Lib.hid fun U => issize_c size U
  rw [hz] at HZ
  have hz16 : size ≤ 16 := by have := of_decide_eq_true hz; omega
  have HR := Lib.hid ha
  obtain ⟨p, cap, b, off, rfl, hp, hc⟩ := ha
  have HP := Lib.hid hp
  have HC := Lib.hid hc
  have HS := Lib.hid hs
  have hL' : (L.length : Int) ≤ 30 := by omega
  have VN := Lib.hid fun (h : L.all (fun r => recB r size) = false) => show bodyI L size = (1, ⟨#[]⟩) from by unfold bodyI; rw [if_neg (by rw [hz]; simp; omega), if_neg (by rw [h]; simp)]
  have VY := Lib.hid fun (h : L.all (fun r => recB r size) = true) => show bodyI L size = (0, ⟨(L.flatMap recL).toArray⟩) from by unfold bodyI; rw [if_neg (by rw [hz]; simp; omega), if_pos h]
  clear hp hc hs hz
  go_enter Tryz.func78, Tryz.ntmps78
  go_wp2_with fail
  ((with_reducible refine (HZ.out _).mono ?_); rintro e w1 ⟨rfl, rfl⟩)
  go_wp2_with fail
  go_loopw [8, 19] (fun _ i wr => ∃ k : Nat, k ≤ L.length ∧ i = .int .i64 k ∧ Hid (∀ r ∈ L.take k, recB r size = true) ∧ Hid (Wr.Bld w.heap.size ((L.take k).flatMap recL) wr) ∧ Hid (Below w.heap.size w wr) ∧ Hid (k = 0 → Fresh w.heap.size wr)) (fun _ i _ => L.length - (intOf i).toNat)
  case atStart => exact ⟨0, Nat.zero_le _, rfl, Lib.hid (fun r hr => by simp at hr), Lib.hid (by rw [List.take_zero]; exact Wr.Bld.fresh w), Lib.hid ((Below.refl _ w).alloc (Nat.le_refl _) _), Lib.hid (fun _ => heap_new _ _)⟩
  case round =>
    obtain ⟨k, hk, rfl, hall, hB, hD, hF⟩ := hrel
    by_cases hlt : k < L.length
    · have hne : L ≠ [] := by rintro rfl; simp at hlt
      obtain ⟨rfl, -⟩ := HP.out hne
      obtain ⟨x0, x1, vs, x2, xa⟩ := HC.out k _ (List.getElem?_eq_getElem hlt)
      have hT := Lib.hid (flat_take_rec L k hlt)
      have hTk := Lib.hid (List.take_succ_eq_append_getElem hlt)
      have hM := Lib.hid (List.getElem_mem hlt)
      have hsr := HS.out _ (List.getElem_mem hlt)
      generalize L[k] = r at x0 x1 x2 xa hT hTk hM hsr
      have y0 := cell_below hD.out x0
      have y1 := cell_below hD.out x1
      have y2 := cell_below hD.out x2
      obtain ⟨q, cq, rfl⟩ := xa.slice
      have XA := Lib.hid xa
      have hlt' : (k : Int) < (L.length : Int) := by omega
      have HM := Lib.hid fun U h => recmay_c r (.slice q r.srcs.length cq) size U hsr h
      have hbl := hB.out.lt
      clear x0 x1 x2 xa hne hsr
      rcases hrb : recB r size with _ | _
      · have V := Lib.hid (VN.out (by rw [List.all_eq_false]; exact ⟨r, hM.out, by rw [hrb]; simp⟩))
        rw [hrb] at HM
        clear hrb hM
        go_wp2_with fail
        have X1 : Box wr (wr.alloc (.cells #[.int .i64 r.kind, .string r.group, .slice q r.srcs.length cq] 36)) #[.int .i64 r.kind, .string r.group, .slice q r.srcs.length cq] 36 := Box.start _ _ _
        have XA2 := (XA.out.below hD.out).below X1.2
        ((with_reducible refine (HM.out _ XA2).mono ?_); rintro e w2 ⟨rfl, h2⟩)
        have D2 := Lib.hid (hD.out.trans ((X1.below h2).2.mono hD.out.size))
        clear X1 XA2 h2
        go_wp2_with fail
        go_ret2
        unfold BodyPost
        rw [V.out]
        exact ⟨rfl, D2.out⟩
      · have hall2 := Lib.hid (show ∀ x ∈ L.take (k + 1), recB x size = true by
          rw [hTk.out]
          intro x hx
          rcases List.mem_append.1 hx with h | h
          · exact hall.out x h
          · rw [List.mem_singleton.1 h]; exact hrb)
        obtain ⟨r1, r2, r3, r4, r5⟩ := rec_len r size hrb hz16
        have hlen := recs_len size hz16 (L.take k) hall.out
        have hlk : (L.take k).length ≤ 30 := by rw [List.length_take]; omega
        rw [hrb] at HM
        have HWr := Lib.hid fun U h1 h2 => wrec_c w.heap.size ((L.take k).flatMap recL) r (.slice q r.srcs.length cq) U h1 h2 r2 r3 r4 r5 (by omega)
        clear hrb hM r1 r2 r3 r4 r5 hlen hlk
        go_wp2_with fail
        have X1 : Box wr (wr.alloc (.cells #[.int .i64 r.kind, .string r.group, .slice q r.srcs.length cq] 36)) #[.int .i64 r.kind, .string r.group, .slice q r.srcs.length cq] 36 := Box.start _ _ _
        have XA2 := (XA.out.below hD.out).below X1.2
        ((with_reducible refine (HM.out _ XA2).mono ?_); rintro e w2 ⟨rfl, h2⟩)
        have X2 := Lib.hid (X1.below h2)
        have B2 := Lib.hid (hB.out.below X2.out.2)
        have D2 := Lib.hid (hD.out.trans (X2.out.2.mono hD.out.size))
        have AW := AddrsW.of_at XA.out D2.out (Nat.le_refl _)
        have z0 := X2.out.cell 0 rfl
        have z1 := X2.out.cell 1 rfl
        have z2 := X2.out.cell 2 rfl
        clear X1 XA2 h2 y0 y1 y2
        go_wp2_with fail
        ((with_reducible refine (HWr.out _ B2.out AW).mono ?_); rintro e w3 ⟨rfl, b3, h3, o3⟩)
        have B3 := Lib.hid (show Wr.Bld w.heap.size ((L.take (k + 1)).flatMap recL) w3 by rw [hT.out]; exact b3)
        have D3 := Lib.hid (D2.out.trans h3)
        clear b3 h3 o3 AW z0 z1 z2
        go_wp2_with fail
        go_roundw
        case rel => exact ⟨k + 1, by omega, by go_num, hall2, B3, D3, Lib.hid (fun h => by omega)⟩
        case measure => simp [intOf]; omega
    · obtain rfl : k = L.length := by omega
      have V := Lib.hid (VY.out (by
        rw [List.all_eq_true]
        have h := hall.out
        rw [List.take_length] at h
        exact h))
      have B := hB.out
      rw [List.take_length] at B
      have BL := Lib.hid B
      clear B hlt
      by_cases h0 : L = []
      · subst h0
        have F0 := hF.out rfl
        go_wp2_with fail
        refine (lib_empty _ _ F0).mono ?_
        rintro e w2 ⟨rfl, h2⟩
        go_wp2_with fail
        go_ret2
        unfold BodyPost
        rw [V.out]
        exact ⟨rfl, hD.out.trans (h2.mono hD.out.size)⟩
      · have hne : L.flatMap recL ≠ [] := by
          cases L with
          | nil => exact absurd rfl h0
          | cons r L =>
            intro h
            have := congrArg List.length h
            rw [List.flatMap_cons, List.length_append] at this
            unfold recL at this
            simp only [List.length_append, bytesOf_length, List.length_nil] at this
            omega
        have HN := Lib.hid hne
        clear h0 hne
        go_wp2_with fail
        refine (Wr.bstr_some _ _ _ BL.out HN.out).mono ?_
        rintro e w2 ⟨rfl, b2, h2⟩
        go_wp2_with fail
        go_ret2
        unfold BodyPost
        rw [V.out]
        exact ⟨rfl, hD.out.trans h2⟩

end Go.Proofs.YtniahpbjfpmmhaaGreat
