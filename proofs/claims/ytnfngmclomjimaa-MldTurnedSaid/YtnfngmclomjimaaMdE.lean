/-
  Writing group messages of IPv6: the writer's telling and message; ahead, Encode. Contracts over the translated program.
-/
import Derived.Test.YtnfngmclomjimaaMdC
import Derived.Deep.Cut
namespace Go.Proofs.Ytnfngmclomjimaa
open Go.RowKit
set_option linter.unusedVariables false

def tellOK (k v : Int) (g : ByteArray) (L : List Rec) : Bool := if k = 2 ∧ v = 2 then rec6OK g L else oneOK v g L.length
def tellL (k v : Int) (g : ByteArray) (L : List Rec) : List UInt8 := if k = 2 ∧ v = 2 then rec6L L else one6L (if k = 2 then 131 else 132) g

set_option maxHeartbeats 2000000 in
set_option maxRecDepth 100000 in
theorem tellingw (b : Nat) (ok : Bool) (k v : Int) (g : ByteArray) (mx : Int) (q : Bool) (rob ev : Int) (p : Option Addr) (n cp : Nat) (vr : Value) (L : List Rec) (w00 w : World) (h : MQ b ok [] w) (hL : L.length ≤ 65535) (hs : ∀ r ∈ L, r.srcs.length ≤ 9223372036854775807) (ha : RecsAt w00 vr L) (hD : Below w00.heap.size w00 w) (hb : w00.heap.size ≤ b) :
    Calls Try.prog 23 #[.pointer (some ⟨b, 0, none⟩), .agg #[.int .i64 k, .int .i64 v, .string g, .int .i64 mx, .bool q, .int .i64 rob, .int .i64 ev, .slice p n cp, vr]] w (MPost b (ok && tellOK k v g L) (tellL k v g L) w) := by
  have HR := Lib.hid fun U h (k' : Below b w U) => recordsw b ok k v g mx q rob ev p n cp vr L w00 U h hL hs ha (hD.trans (k'.mono hb)) hb
  obtain ⟨pr, cr, rfl⟩ := ha.slice
  have HO := Lib.hid fun c U h hc => onew b ok k v g mx q rob ev p n cp pr L.length cr c U h hc
  have HG := Lib.hid (MG.start #[.int .i64 k, .int .i64 v, .string g, .int .i64 mx, .bool q, .int .i64 rob, .int .i64 ev, .slice p n cp, .slice pr L.length cr] h)
  clear h ha hD hs
  by_cases hk : k = 2
  · obtain ⟨a1, a2⟩ := eq_t hk
    by_cases hv : v = 2
    · obtain ⟨b1, b2⟩ := eq_t hv
      have E1 := Lib.hid (show tellOK k v g L = rec6OK g L from if_pos ⟨hk, hv⟩)
      have E2 := Lib.hid (show tellL k v g L = rec6L L from if_pos ⟨hk, hv⟩)
      clear hk hv HO
      go_enter Try.func23, Try.ntmps23
      go_wp2_with fail
      refine (HR.out _ HG.out.1.1 HG.out.1.2.1).mono ?_
      rintro e w1 ⟨rfl, h1⟩
      replace HG := Lib.hid (HG.out.then h1)
      clear h1
      go_wp2_with fail
      go_end0
      exact ⟨rfl, HG.out.1.cast (by rw [E1.out]) (fun _ => by rw [E2.out])⟩
    · obtain ⟨b1, b2⟩ := ne_t hv
      have E1 := Lib.hid (show tellOK k v g L = oneOK v g L.length from if_neg fun h => hv h.2)
      have E2 := Lib.hid (show tellL k v g L = one6L 131 g by unfold tellL; rw [if_neg fun h => hv h.2, if_pos hk])
      clear hk hv HR
      have HO1 := Lib.hid fun U h => HO.out 131 U h (by omega)
      clear HO
      go_enter Try.func23, Try.ntmps23
      go_wp2_with fail
      refine (HO1.out _ HG.out.1.1).mono ?_
      rintro e w1 ⟨rfl, h1⟩
      replace HG := Lib.hid (HG.out.then h1)
      clear h1
      go_wp2_with fail
      go_end0
      exact ⟨rfl, HG.out.1.cast (by rw [E1.out]) (fun _ => by rw [E2.out])⟩
  · obtain ⟨a1, a2⟩ := ne_t hk
    have E1 := Lib.hid (show tellOK k v g L = oneOK v g L.length from if_neg fun h => hk h.1)
    have E2 := Lib.hid (show tellL k v g L = one6L 132 g by unfold tellL; rw [if_neg fun h => hk h.1, if_neg hk])
    clear hk HR
    have HO1 := Lib.hid fun U h => HO.out 132 U h (by omega)
    clear HO
    go_enter Try.func23, Try.ntmps23
    go_wp2_with fail
    refine (HO1.out _ HG.out.1.1).mono ?_
    rintro e w1 ⟨rfl, h1⟩
    replace HG := Lib.hid (HG.out.then h1)
    clear h1
    go_wp2_with fail
    go_end0
    exact ⟨rfl, HG.out.1.cast (by rw [E1.out]) (fun _ => by rw [E2.out])⟩

/-- May a message be written? -/
def mayD (m : Msg) : Bool :=
  if m.kind = 1 then decide (m.recs.length = 0) && (if m.version = 2 then q2OK m.group m.max m.robust m.every m.srcs else q1OK m.version m.group m.max m.quiet m.robust m.every m.srcs.length)
  else if m.kind = 2 ∨ m.kind = 3 then (decide (m.max = 0) && !detB6 m.quiet m.robust m.every m.srcs.length) && tellOK m.kind m.version m.group m.recs
  else false
/-- Its bytes, the sum 0. -/
def msgD (m : Msg) : List UInt8 :=
  if m.kind = 1 then (if m.version = 2 then q2L m.group m.max m.quiet m.robust m.every m.srcs else q1L m.group m.max)
  else tellL m.kind m.version m.group m.recs

set_option maxHeartbeats 2000000 in
set_option maxRecDepth 100000 in
theorem messagew (b : Nat) (m : Msg) (vs vr : Value) (w00 w : World) (h : MQ b true [] w) (hn : m.srcs.length ≤ 65535) (hL : m.recs.length ≤ 65535) (hs : ∀ r ∈ m.recs, r.srcs.length ≤ 9223372036854775807) (ha : AddrsAt w00 vs m.srcs) (hr : RecsAt w00 vr m.recs) (hD : Below w00.heap.size w00 w) (hb : w00.heap.size ≤ b)
    (r1 : -9223372036854775808 ≤ m.robust) (r2 : m.robust ≤ 9223372036854775807) (m1 : -9223372036854775808 ≤ m.max) (m2 : m.max ≤ 9223372036854775807) (hev : m.every ≤ 9223372036854775807) :
    Calls Try.prog 11 #[.pointer (some ⟨b, 0, none⟩), m.val vs vr] w (MPost b (mayD m) (msgD m) w) := by
  obtain ⟨k, v, g, mx, q, rob, ev, ss, L⟩ := m
  simp only [Msg.val] at *
  obtain ⟨p, cp, rfl⟩ := ha.slice
  obtain ⟨pr, cr, rfl⟩ := hr.slice
  have HG := Lib.hid (MG.start #[.int .i64 k, .int .i64 v, .string g, .int .i64 mx, .bool q, .int .i64 rob, .int .i64 ev, .slice p ss.length cp, .slice pr L.length cr] h)
  by_cases hk1 : k = 1
  · obtain ⟨a1, a2⟩ := eq_t hk1
    obtain ⟨T, hT⟩ : ∃ T, T = decide (L.length = 0) := ⟨_, rfl⟩
    have hn1 : ((L.length : Int) == 0) = T := by
      rw [hT]
      by_cases h : L.length = 0
      · simp [h]
      · simp [h]
    have HM := Lib.hid fun U h => mayw b true [] T U h
    by_cases hv : v = 2
    · subst hv
      have HQ := Lib.hid fun U h (k' : Below b w U) => queryw2 b (true && T) k g mx q rob ev (.slice p ss.length cp) ss pr L.length cr w00 U h ha (hD.trans (k'.mono hb)) hb r1 r2 m2 hev hn
      have E1 := Lib.hid (show mayD ⟨k, 2, g, mx, q, rob, ev, ss, L⟩ = (T && q2OK g mx rob ev ss) by unfold mayD; simp only; rw [if_pos hk1, if_pos trivial, hT])
      have E2 := Lib.hid (show msgD ⟨k, 2, g, mx, q, rob, ev, ss, L⟩ = q2L g mx q rob ev ss by unfold msgD; simp only; rw [if_pos hk1, if_pos trivial])
      clear h ha hr hD hs hk1 hT
      go_enter Try.func11, Try.ntmps11
      go_wp2_with fail
      refine (HM.out _ HG.out.1.1).mono ?_
      rintro e w1 ⟨rfl, h1⟩
      replace HG := Lib.hid (HG.out.then h1)
      clear h1
      have c0 := HG.out.cell 0 rfl
      have c1 := HG.out.cell 1 rfl
      have c2 := HG.out.cell 2 rfl
      have c3 := HG.out.cell 3 rfl
      have c4 := HG.out.cell 4 rfl
      have c5 := HG.out.cell 5 rfl
      have c6 := HG.out.cell 6 rfl
      have c7 := HG.out.cell 7 rfl
      have c8 := HG.out.cell 8 rfl
      go_wp2_with fail
      refine (HQ.out _ HG.out.1.1 HG.out.1.2.1).mono ?_
      rintro e w2 ⟨rfl, h1⟩
      replace HG := Lib.hid (HG.out.then h1)
      clear h1 c0 c1 c2 c3 c4 c5 c6 c7 c8
      go_wp2_with fail
      go_end0
      exact ⟨rfl, HG.out.1.cast (by rw [E1.out, Bool.true_and]) (fun _ => by rw [E2.out])⟩
    · have HQ := Lib.hid fun U h => queryw1 b (true && T) k v g mx q rob ev p ss.length cp pr L.length cr U h hv m1 m2
      have E1 := Lib.hid (show mayD ⟨k, v, g, mx, q, rob, ev, ss, L⟩ = (T && q1OK v g mx q rob ev ss.length) by unfold mayD; simp only; rw [if_pos hk1, if_neg hv, hT])
      have E2 := Lib.hid (show msgD ⟨k, v, g, mx, q, rob, ev, ss, L⟩ = q1L g mx by unfold msgD; simp only; rw [if_pos hk1, if_neg hv])
      clear h ha hr hD hs hk1 hT
      go_enter Try.func11, Try.ntmps11
      go_wp2_with fail
      refine (HM.out _ HG.out.1.1).mono ?_
      rintro e w1 ⟨rfl, h1⟩
      replace HG := Lib.hid (HG.out.then h1)
      clear h1
      have c0 := HG.out.cell 0 rfl
      have c1 := HG.out.cell 1 rfl
      have c2 := HG.out.cell 2 rfl
      have c3 := HG.out.cell 3 rfl
      have c4 := HG.out.cell 4 rfl
      have c5 := HG.out.cell 5 rfl
      have c6 := HG.out.cell 6 rfl
      have c7 := HG.out.cell 7 rfl
      have c8 := HG.out.cell 8 rfl
      go_wp2_with fail
      refine (HQ.out _ HG.out.1.1).mono ?_
      rintro e w2 ⟨rfl, h1⟩
      replace HG := Lib.hid (HG.out.then h1)
      clear h1 c0 c1 c2 c3 c4 c5 c6 c7 c8
      go_wp2_with fail
      go_end0
      exact ⟨rfl, HG.out.1.cast (by rw [E1.out, Bool.true_and]) (fun _ => by rw [E2.out])⟩
  · obtain ⟨a1, a2⟩ := ne_t hk1
    by_cases hk : k = 2 ∨ k = 3
    · have HI := Lib.hid fun U => misdet_c k v g mx q rob ev p ss.length cp pr L.length cr U
      obtain ⟨T, hT⟩ : ∃ T, T = (decide (mx = 0) && !detB6 q rob ev ss.length) := ⟨_, rfl⟩
      have HM := Lib.hid fun U h => mayw b true [] T U h
      have HTl := Lib.hid fun U h (k' : Below b w U) => tellingw b (true && T) k v g mx q rob ev p ss.length cp (.slice pr L.length cr) L w00 U h hL hs hr (hD.trans (k'.mono hb)) hb
      have E1 := Lib.hid (show mayD ⟨k, v, g, mx, q, rob, ev, ss, L⟩ = (T && tellOK k v g L) by unfold mayD; simp only; rw [if_neg hk1, if_pos hk, hT])
      have E2 := Lib.hid (show msgD ⟨k, v, g, mx, q, rob, ev, ss, L⟩ = tellL k v g L by unfold msgD; simp only; rw [if_neg hk1])
      have hkt : (k == 2) = true ∨ ((k == 2) = false ∧ (k == 3) = true) := by
        rcases hk with rfl | rfl
        · exact .inl rfl
        · exact .inr ⟨rfl, rfl⟩
      have hmt : ((mx == 0) = true ∧ decide (mx = 0) = true) ∨ ((mx == 0) = false ∧ decide (mx = 0) = false) := by
        by_cases h : mx = 0
        · exact .inl ⟨by simp [h], by simp [h]⟩
        · exact .inr ⟨by simp [h], by simp [h]⟩
      clear h ha hr hD hs hk hk1
      generalize mayD ⟨k, v, g, mx, q, rob, ev, ss, L⟩ = MD at *
      generalize msgD ⟨k, v, g, mx, q, rob, ev, ss, L⟩ = ML at *
      generalize detB6 q rob ev ss.length = DB at *
      rcases hkt with k2 | ⟨k2, k3⟩ <;> rcases hmt with ⟨x1, x2⟩ | ⟨x1, x2⟩
      all_goals
        rw [x2] at hT
        clear x2
      case inl.inl =>
        obtain rfl : T = !DB := by rw [hT]; rfl
        clear hT
        go_enter Try.func11, Try.ntmps11
        go_wp2_with fail
        ((with_reducible refine (HI.out _).mono ?_); rintro e w0 ⟨rfl, h1⟩)
        replace HG := Lib.hid (HG.out.below h1)
        clear h1
        go_wp2_with fail
        refine (HM.out _ HG.out.1.1).mono ?_
        rintro e w1 ⟨rfl, h1⟩
        replace HG := Lib.hid (HG.out.then h1)
        clear h1
        have c0 := HG.out.cell 0 rfl
        have c1 := HG.out.cell 1 rfl
        have c2 := HG.out.cell 2 rfl
        have c3 := HG.out.cell 3 rfl
        have c4 := HG.out.cell 4 rfl
        have c5 := HG.out.cell 5 rfl
        have c6 := HG.out.cell 6 rfl
        have c7 := HG.out.cell 7 rfl
        have c8 := HG.out.cell 8 rfl
        go_wp2_with fail
        refine (HTl.out _ HG.out.1.1 HG.out.1.2.1).mono ?_
        rintro e w2 ⟨rfl, h1⟩
        replace HG := Lib.hid (HG.out.then h1)
        clear h1 c0 c1 c2 c3 c4 c5 c6 c7 c8
        go_wp2_with fail
        go_end0
        exact ⟨rfl, HG.out.1.cast (by rw [E1.out, Bool.true_and]) (fun _ => by rw [E2.out])⟩
      case inr.inl =>
        obtain rfl : T = !DB := by rw [hT]; rfl
        clear hT
        go_enter Try.func11, Try.ntmps11
        go_wp2_with fail
        ((with_reducible refine (HI.out _).mono ?_); rintro e w0 ⟨rfl, h1⟩)
        replace HG := Lib.hid (HG.out.below h1)
        clear h1
        go_wp2_with fail
        refine (HM.out _ HG.out.1.1).mono ?_
        rintro e w1 ⟨rfl, h1⟩
        replace HG := Lib.hid (HG.out.then h1)
        clear h1
        have c0 := HG.out.cell 0 rfl
        have c1 := HG.out.cell 1 rfl
        have c2 := HG.out.cell 2 rfl
        have c3 := HG.out.cell 3 rfl
        have c4 := HG.out.cell 4 rfl
        have c5 := HG.out.cell 5 rfl
        have c6 := HG.out.cell 6 rfl
        have c7 := HG.out.cell 7 rfl
        have c8 := HG.out.cell 8 rfl
        go_wp2_with fail
        refine (HTl.out _ HG.out.1.1 HG.out.1.2.1).mono ?_
        rintro e w2 ⟨rfl, h1⟩
        replace HG := Lib.hid (HG.out.then h1)
        clear h1 c0 c1 c2 c3 c4 c5 c6 c7 c8
        go_wp2_with fail
        go_end0
        exact ⟨rfl, HG.out.1.cast (by rw [E1.out, Bool.true_and]) (fun _ => by rw [E2.out])⟩
      all_goals
        obtain rfl : T = false := by rw [hT]; rfl
        clear hT
        go_enter Try.func11, Try.ntmps11
        go_wp2_with fail
        refine (HM.out _ HG.out.1.1).mono ?_
        rintro e w1 ⟨rfl, h1⟩
        replace HG := Lib.hid (HG.out.then h1)
        clear h1
        have c0 := HG.out.cell 0 rfl
        have c1 := HG.out.cell 1 rfl
        have c2 := HG.out.cell 2 rfl
        have c3 := HG.out.cell 3 rfl
        have c4 := HG.out.cell 4 rfl
        have c5 := HG.out.cell 5 rfl
        have c6 := HG.out.cell 6 rfl
        have c7 := HG.out.cell 7 rfl
        have c8 := HG.out.cell 8 rfl
        go_wp2_with fail
        refine (HTl.out _ HG.out.1.1 HG.out.1.2.1).mono ?_
        rintro e w2 ⟨rfl, h1⟩
        replace HG := Lib.hid (HG.out.then h1)
        clear h1 c0 c1 c2 c3 c4 c5 c6 c7 c8
        go_wp2_with fail
        go_end0
        exact ⟨rfl, HG.out.1.cast (by rw [E1.out]; simp) (fun _ => by rw [E2.out])⟩
    · obtain ⟨b1, b2⟩ := ne_t (show k ≠ 2 by omega)
      obtain ⟨d1, d2⟩ := ne_t (show k ≠ 3 by omega)
      have HK := Lib.hid fun U h => keepw b true [] 1 U h (.inr rfl)
      have E1 := Lib.hid (show mayD ⟨k, v, g, mx, q, rob, ev, ss, L⟩ = false by unfold mayD; simp only; rw [if_neg hk1, if_neg hk])
      clear h ha hr hD hs hk hk1
      go_enter Try.func11, Try.ntmps11
      go_wp2_with fail
      refine (HK.out _ HG.out.1.1).mono ?_
      rintro e w1 ⟨rfl, h1⟩
      replace HG := Lib.hid (HG.out.then h1)
      clear h1
      go_wp2_with fail
      go_end0
      exact ⟨rfl, HG.out.1.cast (by rw [E1.out]; simp) (fun h => by rw [E1.out] at h; cases h)⟩

/-- What stands ahead of a message of n bytes in its sum. -/
def aheadI (src dst : ByteArray) (n : Int) : ByteArray × Int := if src.size ≠ 16 then (⟨#[]⟩, 1) else pseudoSpec src dst n 58

set_option maxHeartbeats 1000000 in
set_option maxRecDepth 100000 in
theorem ahead_c (src dst : ByteArray) (n : Int) (w : World) :
    Calls Try.prog 13 #[.string src, .string dst, .int .i64 n] w fun e w' => e = .returned (.tuple #[.string (aheadI src dst n).1, .int .i64 (aheadI src dst n).2]) ∧ Below w.heap.size w w' := by
  by_cases h : src.size = 16
  · obtain ⟨a1, a2⟩ := eq_t (show (src.size : Int) = 16 by omega)
    have V := Lib.hid (show aheadI src dst n = pseudoSpec src dst n 58 from if_neg fun h' => h' h)
    have HP := Lib.hid fun U => pseudo_c src dst n 58 U (by omega) (by omega)
    clear h
    go_enter Try.func13, Try.ntmps13
    go_wp2_with fail
    ((with_reducible refine (HP.out _).mono ?_); rintro e w1 ⟨rfl, h1⟩)
    go_wp2_with fail
    go_ret2
    exact ⟨by rw [V.out]; rfl, h1⟩
  · obtain ⟨a1, a2⟩ := ne_t (show (src.size : Int) ≠ 16 by omega)
    have V := Lib.hid (show aheadI src dst n = (⟨#[]⟩, 1) from if_pos h)
    clear h
    go_enter Try.func13, Try.ntmps13
    go_wp2_with fail
    go_ret2
    exact ⟨by rw [V.out]; rfl, Below.refl _ _⟩

set_option maxHeartbeats 1000000 in
set_option maxRecDepth 100000 in
theorem keepc (b : Nat) (ok : Bool) (p v : Value) (e : Int) (w : World) (h : w.heap[b]? = some (.cells #[.int .i64 (okI ok), p, v] 49 (0, 0))) (he : e = 0 ∨ e = 1) :
    Calls Try.prog 14 #[.pointer (some ⟨b, 0, none⟩), .int .i64 e] w fun r w' => r = .returned (.tuple #[]) ∧ w'.heap[b]? = some (.cells #[.int .i64 (okI (ok && decide (e = 0))), p, v] 49 (0, 0)) ∧ Below b w w' := by
  have HH := Lib.hid h
  have c0 : w.cell? ⟨b, 0, none⟩ = some (.int .i64 (okI ok)) := cell_of_block h rfl
  have f0 : w.frozen? ⟨b, 0, none⟩ = false := free_of_block h
  clear h
  cases ok
  · rw [show okI false = 1 from rfl] at c0
    go_enter Try.func14, Try.ntmps14
    go_wp2_with fail
    go_end0
    exact ⟨rfl, HH.out, Below.refl _ _⟩
  · rw [show okI true = 0 from rfl] at c0
    have HR := Lib.hid fun x => heap_store (j := 0) (v := .int .i64 x) HH.out
    rcases he with rfl | rfl
    all_goals
      go_enter Try.func14, Try.ntmps14
      go_wp2_with fail
      go_end0
      exact ⟨rfl, HR.out _, (Below.refl b w).setCell (p := ⟨b, 0, none⟩) (Nat.le_refl _) _⟩

theorem det_len (q : Bool) (rob ev : Int) (ss : List ByteArray) (h : detOK rob ev ss = true) : (detL q rob ev ss).length ≤ 1000 := by
  unfold detOK at h
  simp only [Bool.and_eq_true, decide_eq_true_iff] at h
  have h1 := all16_len ss h.2
  have h2 := h.1.2
  unfold detL
  simp only [List.length_append, bytesOf_length, codeL_len]
  omega

theorem msgD_len (m : Msg) (h : mayD m = true) : 8 ≤ (msgD m).length ∧ (msgD m).length ≤ 40000 := by
  obtain ⟨k, v, g, mx, q, rob, ev, ss, L⟩ := m
  unfold mayD at h
  unfold msgD
  simp only at h ⊢
  by_cases h1 : k = 1
  · rw [if_pos h1] at h ⊢
    rw [Bool.and_eq_true] at h
    have h2 := h.2
    by_cases hv : v = 2
    · rw [if_pos hv] at h2 ⊢
      unfold q2OK at h2
      rw [Bool.and_eq_true, Bool.and_eq_true] at h2
      have hg := (grp6_all h2.1.2).2
      have hg2 := vlen (grp6 g)
      have hd := det_len q rob ev ss h2.2
      unfold q2L
      simp only [List.length_append, bytesOf_length, codeL_len]
      omega
    · rw [if_neg hv] at h2 ⊢
      unfold q1OK at h2
      rw [Bool.and_eq_true] at h2
      have hg := (grp6_all h2.2).2
      have hg2 := vlen (grp6 g)
      have hz := wput_len mx 2
      unfold q1L
      simp only [List.length_append, bytesOf_length]
      omega
  · rw [if_neg h1] at h ⊢
    by_cases h2 : k = 2 ∨ k = 3
    · rw [if_pos h2, Bool.and_eq_true] at h
      have h3 := h.2
      unfold tellOK at h3
      unfold tellL
      by_cases h4 : k = 2 ∧ v = 2
      · rw [if_pos h4] at h3 ⊢
        unfold rec6OK at h3
        rw [Bool.and_eq_true, decide_eq_true_iff, decide_eq_true_iff] at h3
        obtain ⟨e1, e2, e3, e4⟩ := body_size L h3.2
        unfold rec6L
        rw [e1]
        simp only [List.length_append, bytesOf_length]
        omega
      · rw [if_neg h4] at h3 ⊢
        unfold oneOK at h3
        simp only [Bool.and_eq_true] at h3
        have hg := (grp16 h3.1.2).2
        have hg2 := vlen g
        unfold one6L
        simp only [List.length_append, bytesOf_length]
        omega
    · rw [if_neg h2] at h
      simp at h

theorem pseudo_err (src dst : ByteArray) (n p : Int) : (pseudoSpec src dst n p).2 = 0 ∨ (pseudoSpec src dst n p).2 = 1 := by
  unfold pseudoSpec
  split
  · exact .inr rfl
  · split <;> exact .inl rfl
theorem ahead_err (src dst : ByteArray) (n : Int) : (aheadI src dst n).2 = 0 ∨ (aheadI src dst n).2 = 1 := by
  unfold aheadI
  split
  · exact .inr rfl
  · exact pseudo_err _ _ _ _
theorem ahead_size (src dst : ByteArray) (n : Int) : (aheadI src dst n).1.size ≤ 100 := by
  unfold aheadI
  split
  · decide
  · next h =>
    unfold pseudoSpec
    split
    · decide
    · next h2 =>
      split
      · next h3 => omega
      · simp only [ByteArray.size_append, ByteArray.size_mk', List.size_toArray, bytesOf_length]
        have e : (⟨#[0, 0, 0]⟩ : ByteArray).size = 3 := rfl
        simp only [List.length_cons, List.length_nil]
        omega

/-- What Encode answers. -/
def encD (src dst : ByteArray) (m : Msg) : ByteArray × Int :=
  if mayD m = true ∧ (aheadI src dst (msgD m).length).2 = 0 then fillSpec (aheadI src dst (msgD m).length).1 ⟨(msgD m).toArray⟩ 2 else (⟨#[]⟩, 1)

set_option maxHeartbeats 2000000 in
set_option maxRecDepth 100000 in
theorem menc_c (src dst : ByteArray) (m : Msg) (vs vr : Value) (w : World) (hn : m.srcs.length ≤ 65535) (hL : m.recs.length ≤ 65535) (hs : ∀ r ∈ m.recs, r.srcs.length ≤ 9223372036854775807) (ha : AddrsAt w vs m.srcs) (hr : RecsAt w vr m.recs)
    (r1 : -9223372036854775808 ≤ m.robust) (r2 : m.robust ≤ 9223372036854775807) (m1 : -9223372036854775808 ≤ m.max) (m2 : m.max ≤ 9223372036854775807) (hev : m.every ≤ 9223372036854775807) :
    Calls Try.prog 8 #[.string src, .string dst, m.val vs vr] w fun e w' => e = .returned (.tuple #[.string (encD src dst m).1, .int .i64 (encD src dst m).2]) ∧ Below w.heap.size w w' := by
  have HW := Lib.hid fun b U h h1 h2 => messagew b m vs vr w U h hn hL hs ha hr h1 h2 r1 r2 m1 m2 hev
  have HLn := Lib.hid (msgD_len m)
  have HE := Lib.hid (show encD src dst m = if mayD m = true ∧ (aheadI src dst (msgD m).length).2 = 0 then fillSpec (aheadI src dst (msgD m).length).1 ⟨(msgD m).toArray⟩ 2 else (⟨#[]⟩, 1) from rfl)
  have HAh := Lib.hid fun n U => ahead_c src dst n U
  have HAe := Lib.hid fun n => ahead_err src dst n
  have HAz := Lib.hid fun n => ahead_size src dst n
  obtain ⟨k, v, g, mx, q, rob, ev, ss, L⟩ := m
  simp only [Msg.val] at HW ⊢
  obtain ⟨p, cp, rfl⟩ := ha.slice
  obtain ⟨pr, cr, rfl⟩ := hr.slice
  generalize encD src dst ⟨k, v, g, mx, q, rob, ev, ss, L⟩ = ED at *
  generalize mayD ⟨k, v, g, mx, q, rob, ev, ss, L⟩ = MD at *
  generalize msgD ⟨k, v, g, mx, q, rob, ev, ss, L⟩ = ML at *
  clear ha hr hs hn hL r1 r2 m1 m2 hev
  have B0 := Lib.hid (Box.start w #[.int .i64 k, .int .i64 v, .string g, .int .i64 mx, .bool q, .int .i64 rob, .int .i64 ev, .slice p ss.length cp, .slice pr L.length cr] 28)
  go_enter Try.func8, Try.ntmps8
  go_upto_region 2 with fail
  have hsz : (w.alloc (.cells #[.int .i64 k, .int .i64 v, .string g, .int .i64 mx, .bool q, .int .i64 rob, .int .i64 ev, .slice p ss.length cp, .slice pr L.length cr] 28)).heap.size = w.heap.size + 1 := by simp
  generalize w.alloc (.cells #[.int .i64 k, .int .i64 v, .string g, .int .i64 mx, .bool q, .int .i64 rob, .int .i64 ev, .slice p ss.length cp, .slice pr L.length cr] 28) = wa at B0 hsz ⊢
  have hlt := B0.out.lt
  have hb1 : Below wa.heap.size wa (wa.alloc (.cells #[.int .i64 0, .pointer none, .slice none 0 0] 49)) := (Below.refl _ wa).alloc (Nat.le_refl _) _
  have B1 := Lib.hid (B0.out.belowP hlt hb1)
  have HQ : MQ wa.heap.size true [] (wa.alloc (.cells #[.int .i64 0, .pointer none, .slice none 0 0] 49)) := ⟨[], Wm.Bld.fresh wa, fun _ => rfl⟩
  have WB := Lib.hid HQ
  clear hb1 HQ B0
  rw [hsz] at WB hlt
  generalize wa.alloc (.cells #[.int .i64 0, .pointer none, .slice none 0 0] 49) = wb at B1 WB ⊢
  clear hsz
  generalize w.heap.size + 1 = P at WB hlt ⊢
  have c0 := B1.out.cell 0 rfl
  have c1 := B1.out.cell 1 rfl
  have c2 := B1.out.cell 2 rfl
  have c3 := B1.out.cell 3 rfl
  have c4 := B1.out.cell 4 rfl
  have c5 := B1.out.cell 5 rfl
  have c6 := B1.out.cell 6 rfl
  have c7 := B1.out.cell 7 rfl
  have c8 := B1.out.cell 8 rfl
  go_wp2_with fail
  refine (HW.out _ _ WB.out B1.out.2 (Nat.le_of_lt hlt)).mono ?_
  rintro e w2 ⟨rfl, h1⟩
  obtain ⟨⟨l', hB, hl⟩, h2, -⟩ := h1
  have D2 := Lib.hid (B1.out.belowP hlt h2).2
  have HB := Lib.hid hB
  have HL := Lib.hid hl
  clear h2 hB hl c0 c1 c2 c3 c4 c5 c6 c7 c8 WB B1
  go_wp2_with fail
  refine (Wm.bstr_c _ _ l' w2 HB.out).mono ?_
  rintro e w3 ⟨rfl, hk, h3⟩
  obtain ⟨p0, v0, -, hb0, -⟩ := HB.out
  have C3 := Lib.hid (hk.trans hb0)
  have D3 := Lib.hid (D2.out.trans (h3.mono (Nat.le_of_lt hlt)))
  clear hk h3 HB D2 hb0
  have hz3 := lt_of_block C3.out
  have HA1 := Lib.hid (HAh.out (l'.length : Int))
  have HEr := Lib.hid (HAe.out (l'.length : Int))
  have HEz := HAz.out (l'.length : Int)
  have HSz : (⟨l'.toArray⟩ : ByteArray).size = l'.length := by rw [ByteArray.size_mk', List.size_toArray]
  obtain ⟨AE, hAE⟩ : ∃ AE, AE = (aheadI src dst (l'.length : Int)).2 := ⟨_, rfl⟩
  obtain ⟨AS, hAS⟩ : ∃ AS, AS = (aheadI src dst (l'.length : Int)).1 := ⟨_, rfl⟩
  rw [← hAE, ← hAS] at HA1
  rw [← hAE] at HEr
  rw [← hAS] at HEz
  have HK := Lib.hid fun U c => keepc P MD p0 v0 AE U c HEr.out
  -- what is to be answered
  have HNo := Lib.hid (show (MD && decide (AE = 0)) = false → ED = (⟨#[]⟩, 1) from fun h => by
    rw [HE.out, if_neg]
    rintro ⟨h1, h2⟩
    subst h1
    obtain rfl := HL.out rfl
    rw [hAE, h2] at h
    simp at h)
  have HYes := Lib.hid (show (MD && decide (AE = 0)) = true → ED = fillSpec AS ⟨l'.toArray⟩ 2 ∧ l'.length ≤ 40000 from fun h => by
    rw [Bool.and_eq_true, decide_eq_true_iff] at h
    obtain ⟨rfl, h2⟩ := h
    obtain rfl := HL.out rfl
    rw [hAE] at h2
    exact ⟨by rw [HE.out, if_pos ⟨rfl, h2⟩, hAS], (HLn.out rfl).2⟩)
  have HF := Lib.hid fun U (h : l'.length ≤ 40000) => fill_c AS ⟨l'.toArray⟩ 2 U (by omega) (by rw [HSz]; omega)
  generalize (⟨l'.toArray⟩ : ByteArray) = S at *
  clear HE HAh HAe HAz HLn HL HEz hAE hAS
  go_wp2_with fail
  ((with_reducible refine (HA1.out _).mono ?_); rintro e w4 ⟨rfl, h4⟩)
  have C4 := Lib.hid (below_block h4 hz3 C3.out)
  have D4 := Lib.hid (D3.out.trans (h4.mono D3.out.size))
  clear h4 C3 D3 HA1
  go_wp2_with fail
  refine (HK.out _ C4.out).mono ?_
  rintro e w5 ⟨rfl, C5', h5⟩
  have D5 := Lib.hid (D4.out.trans (h5.mono (Nat.le_of_lt hlt)))
  have C5 : w5.cell? ⟨P, 0, none⟩ = some (.int .i64 (okI (MD && decide (AE = 0)))) := cell_of_block C5' rfl
  clear h5 C4 D4 HK C5'
  generalize (MD && decide (AE = 0)) = fin at *
  cases fin
  · have V := HNo.out rfl
    subst V
    rw [show okI false = 1 from rfl] at C5
    clear HNo HYes
    go_wp2_with fail
    first
      | (go_ret2; first | exact ⟨rfl, D5.out⟩ | exact ⟨rfl, D5.out.drew⟩)
      | (go_region
         all_goals (go_wp2; go_ret2; first | exact ⟨rfl, D5.out⟩ | exact ⟨rfl, D5.out.drew⟩))
  · obtain ⟨rfl, hz⟩ := HYes.out rfl
    have HF1 := Lib.hid fun U => HF.out U hz
    rw [show okI true = 0 from rfl] at C5
    clear HNo HYes HF
    go_wp2_with fail
    ((with_reducible refine (HF1.out _).mono ?_); rintro e w6 ⟨rfl, h6⟩)
    go_wp2_with fail
    go_ret2
    exact ⟨rfl, D5.out.trans (h6.mono D5.out.size)⟩

end Go.Proofs.Ytnfngmclomjimaa
