/-
  'group.Apply'. A contract over the translated program.
-/
import Derived.Test.YtceilgeefegbmaaGrO
namespace Go.Proofs.Ytceilgeefegbmaa
open Go Go.Maps Go.WideMaps
open Go.RowKit
set_option linter.unusedVariables false
set_option linter.unusedSimpArgs false

theorem Apart.of_ok {s : St} (h : okS s = true) : Apart s.src := up_nodup ((upB_iff _).1 ((ok_iff s).1 h).2.2.2.2)
theorem exc_apart {R : List Tm} (h : Apart R) (tl : List ByteArray) (f : Int) : Apart (excA R tl f) ∧ Apart (excR R tl f) := ⟨h.putA _, (h.putA _).delA _⟩
theorem exc_sz {R : List Tm} (h : SzR R) {tl : List ByteArray} (hs : ∀ s ∈ tl, s.size ≤ maxLen) (f : Int) : SzR (excA R tl f) ∧ SzR (excR R tl f) := by
  have h1 : SzR (excA R tl f) := h.putA _ (fun s hm => hs s (List.mem_filter.1 hm).1)
  exact ⟨h1, h1.delA _⟩
theorem exc_len (R : List Tm) (tl : List ByteArray) (f : Int) : (excA R tl f).length ≤ R.length + tl.length ∧ (excR R tl f).length ≤ R.length + tl.length := by
  have h1 : (excA R tl f).length ≤ R.length + tl.length := by
    have h1 := putA_len f (tl.filter fun s => !(look R s).isSome) R
    have h2 := List.length_filter_le (fun s => !(look R s).isSome) tl
    unfold excA
    omega
  exact ⟨h1, Nat.le_trans (delA_len _ _) h1⟩
/-- What a record makes of a change: no source twice, none too long, not too many. -/
theorem fol_ok {ex : Bool} {tm : Int} {R : List Tm} {kd : Int} {tl : List ByteArray} {e : Int} (h : Apart R) (hz : SzR R) (hs : ∀ s ∈ tl, s.size ≤ maxLen) :
    Apart (folP ex tm R kd tl e).src ∧ SzR (folP ex tm R kd tl e).src ∧ (folP ex tm R kd tl e).src.length ≤ R.length + tl.length ∧ (folP ex tm R kd tl e).al.length ≤ R.length + tl.length ∧ ∀ s ∈ (folP ex tm R kd tl e).al, s.size ≤ maxLen := by
  unfold folP
  have hk := keys_len h
  split
  · refine ⟨h.putA _, hz.putA _ hs, putA_len _ _ _, ?_, fun s hm => hz.keys s (List.mem_filter.1 (List.mem_filter.1 hm).1).1⟩
    have h1 := List.length_filter_le (fun s => !hasS tl s) ((keysR R).filter fun s => decide (0 < getR R s))
    have h2 := List.length_filter_le (fun s => decide (0 < getR R s)) (keysR R)
    show (((keysR R).filter fun s => decide (0 < getR R s)).filter fun s => !hasS tl s).length ≤ _
    omega
  · split
    · exact ⟨h.putA _, hz.putA _ hs, putA_len _ _ _, Nat.zero_le _, fun s hm => by cases hm⟩
    · split
      · refine ⟨(exc_apart h tl _).2, (exc_sz hz hs _).2, (exc_len R tl _).2, ?_, fun s hm => hs s (List.mem_filter.1 hm).1⟩
        have := List.length_filter_le (fun s => decide (0 < getR (excR R tl tm) s)) tl
        show (tl.filter fun s => decide (0 < getR (excR R tl tm) s)).length ≤ _
        omega
      · split
        · exact ⟨(exc_apart h tl _).2, (exc_sz hz hs _).2, (exc_len R tl _).2, Nat.zero_le _, fun s hm => by cases hm⟩
        · refine ⟨?_, ?_, ?_, ?_, fun s hm => hs s (List.mem_filter.1 hm).1⟩
          · show Apart (if ex then excA R tl tm else R)
            cases ex
            · exact h
            · exact (exc_apart h tl _).1
          · show SzR (if ex then excA R tl tm else R)
            cases ex
            · exact hz
            · exact (exc_sz hz hs _).1
          · show (if ex then excA R tl tm else R).length ≤ _
            cases ex
            · exact Nat.le_add_right _ _
            · exact (exc_len R tl _).1
          · have := List.length_filter_le (fun s => decide (0 < getR (if ex then excA R tl tm else R) s)) tl
            show (tl.filter fun s => decide (0 < getR (if ex then excA R tl tm else R) s)).length ≤ _
            omega
theorem follow_c {w : World} {c mb : Nat} {ex : Bool} {tm : Int} {tv : Value} {R : List Tm} (h : Ch w c mb ex tm tv false (.slice none 0 0) (mk R)) (hR : Apart R) (hz : SzR R) (tl : List ByteArray) (hta : AddrsG 0 true w tv tl) (hu : Up tl) (hs : ∀ s ∈ tl, s.size ≤ maxLen) (hn : R.length + tl.length ≤ 1000) (kd end_ : Int) (k1 : 1 ≤ kd) (k2 : kd ≤ 6) :
    Calls Try.prog 31 #[.pointer (some ⟨c, 0, none⟩), .int .i64 kd, .int .i64 end_] w (FoPost w c mb tv (folP ex tm R kd tl end_)) := by
  have : kd = 1 ∨ kd = 2 ∨ kd = 3 ∨ kd = 4 ∨ kd = 5 ∨ kd = 6 := by omega
  rcases this with rfl | rfl | rfl | rfl | rfl | rfl
  · exact fol1_c h hR hz tl hta hu hs hn end_
  · exact fol2_c h hR hz tl hta hu hs hn end_
  · exact fol3_c h hR hz tl hta hu hs hn end_
  · exact fol4_c h hR hz tl hta hu hs hn end_
  · exact fol5_c h hR hz tl hta hu hs hn end_
  · cases ex
    · exact fol6b_c h hR hz tl hta hu hs hn end_
    · exact fol6a_c h hR hz tl hta hu hs hn end_

/-- What Apply answers. -/
structure Ap where
  st : St
  is : Bool
  ag : Bool
  al : List ByteArray
  er : Int
def noA (e : Int) : Ap := ⟨noS, false, false, [], e⟩
def hurP (C : Cg) (till : Int) : Cg := ⟨C.ex, if C.ag then min C.tm till else C.tm, hurA C.src C.al till, C.ag, C.al⟩
def recT (kd : Int) (rs : List ByteArray) : Bool := decide (1 ≤ kd) && decide (kd ≤ 6) && decide (rs.length ≤ 60)
def endA (C : Cg) : Ap := if 60 < C.src.length then noA 1 else ⟨⟨C.ex, C.tm, staR C.src⟩, C.ex || decide (0 < (staR C.src).length), C.ag, C.al, 0⟩
def appS (s : St) (kd : Int) (rs : List ByteArray) (now m l : Int) : Ap :=
  if okS s = false then noA 3 else if (mayT m l now && recT kd rs) = false then noA 1
  else endA (hurP (folP s.ex s.tm s.src kd (ris rs) (now + m)) (now + l))
def appP (s : St) (is : Bool) (kd : Int) (rs : List ByteArray) (now m l : Int) : Ap := appS (if is then s else noS) kd rs now m l
def ApPost (a : Ap) (w : World) (e : Ending) (w' : World) : Prop := ∃ vs va, e = .returned (.tuple #[.agg #[.bool a.st.ex, .int .i64 a.st.tm, vs], .bool a.is, .agg #[.bool a.ag, va], .int .i64 a.er]) ∧ RowsAt 2 cellsTm w' vs a.st.src ∧ AddrsAt w' va a.al ∧ Below w.heap.size w w'

set_option maxHeartbeats 16000000 in
set_option maxRecDepth 100000 in
theorem applyT_c (ex : Bool) (tm : Int) (v : Value) (sl : List Tm) (kd : Int) (gp : ByteArray) (rv : Value) (rs : List ByteArray) (now m l : Int) (w : World) (hl : sl.length ≤ 1000000) (h : RowsAt 2 cellsTm w v sl) (hs : ∀ x ∈ sl, x.1.size ≤ maxLen) (hrl : rs.length ≤ 1000000) (hra : AddrsAt w rv rs) (hrs : ∀ s ∈ rs, s.size ≤ maxLen) :
    Calls Try.prog 20 #[.agg #[.bool ex, .int .i64 tm, v], .bool true, .agg #[.int .i64 kd, .string gp, rv], .int .i64 now, .agg #[.int .i64 m, .int .i64 l]] w (ApPost (appS ⟨ex, tm, sl⟩ kd rs now m l) w) := by
  have hsz : SzR sl := hs
  obtain ⟨p, cap, rfl⟩ := h.slice
  obtain ⟨rp, rc, rfl⟩ := hra.slice
  obtain ⟨n, hn⟩ : ∃ n, n = sl.length := ⟨_, rfl⟩
  obtain ⟨rn, hrn⟩ : ∃ rn, rn = rs.length := ⟨_, rfl⟩
  rw [← hn] at h ⊢
  rw [← hrn] at hra ⊢
  have HROW := Lib.hid h
  have HRA := Lib.hid hra
  have HB1 := Lib.hid ((((((Below.refl w.heap.size w).alloc (Nat.le_refl _) (.cells #[.bool ex, .int .i64 tm, .slice p n cap] 24)).alloc (by simp) (.cells #[.int .i64 kd, .string gp, .slice rp rn rc] 37)).alloc (by simp; omega) (.cells #[.int .i64 m, .int .i64 l] 39)).alloc (by simp; omega) (.cells #[.bool false, .int .i64 0, .slice none 0 0] 24)).alloc (by simp; omega) (.cells #[.bool false, .slice none 0 0] 44))
  have HS1 := Lib.hid (show (((((w.alloc (.cells #[.bool ex, .int .i64 tm, .slice p n cap] 24)).alloc (.cells #[.int .i64 kd, .string gp, .slice rp rn rc] 37)).alloc (.cells #[.int .i64 m, .int .i64 l] 39)).alloc (.cells #[.bool false, .int .i64 0, .slice none 0 0] 24)).alloc (.cells #[.bool false, .slice none 0 0] 44)).heap[w.heap.size]? = some (.cells #[.bool ex, .int .i64 tm, .slice p n cap] 24 (0, 0)) from heap_old (heap_old (heap_old (heap_old (heap_new w _)))))
  have HR1 := Lib.hid (show (((((w.alloc (.cells #[.bool ex, .int .i64 tm, .slice p n cap] 24)).alloc (.cells #[.int .i64 kd, .string gp, .slice rp rn rc] 37)).alloc (.cells #[.int .i64 m, .int .i64 l] 39)).alloc (.cells #[.bool false, .int .i64 0, .slice none 0 0] 24)).alloc (.cells #[.bool false, .slice none 0 0] 44)).heap[w.heap.size + 1]? = some (.cells #[.int .i64 kd, .string gp, .slice rp rn rc] 37 (0, 0)) from heap_old (heap_old (heap_old (by simpa using heap_new (w.alloc (.cells #[.bool ex, .int .i64 tm, .slice p n cap] 24)) (.cells #[.int .i64 kd, .string gp, .slice rp rn rc] 37)))))
  have HT1 := Lib.hid (show (((((w.alloc (.cells #[.bool ex, .int .i64 tm, .slice p n cap] 24)).alloc (.cells #[.int .i64 kd, .string gp, .slice rp rn rc] 37)).alloc (.cells #[.int .i64 m, .int .i64 l] 39)).alloc (.cells #[.bool false, .int .i64 0, .slice none 0 0] 24)).alloc (.cells #[.bool false, .slice none 0 0] 44)).heap[w.heap.size + 1 + 1]? = some (.cells #[.int .i64 m, .int .i64 l] 39 (0, 0)) from heap_old (heap_old (by simpa using heap_new ((w.alloc (.cells #[.bool ex, .int .i64 tm, .slice p n cap] 24)).alloc (.cells #[.int .i64 kd, .string gp, .slice rp rn rc] 37)) (.cells #[.int .i64 m, .int .i64 l] 39))))
  have HO1 := Lib.hid (show (((((w.alloc (.cells #[.bool ex, .int .i64 tm, .slice p n cap] 24)).alloc (.cells #[.int .i64 kd, .string gp, .slice rp rn rc] 37)).alloc (.cells #[.int .i64 m, .int .i64 l] 39)).alloc (.cells #[.bool false, .int .i64 0, .slice none 0 0] 24)).alloc (.cells #[.bool false, .slice none 0 0] 44)).heap[w.heap.size + 1 + 1 + 1]? = some (.cells #[.bool false, .int .i64 0, .slice none 0 0] 24 (0, 0)) from heap_old (by simpa using heap_new (((w.alloc (.cells #[.bool ex, .int .i64 tm, .slice p n cap] 24)).alloc (.cells #[.int .i64 kd, .string gp, .slice rp rn rc] 37)).alloc (.cells #[.int .i64 m, .int .i64 l] 39)) (.cells #[.bool false, .int .i64 0, .slice none 0 0] 24)))
  have HA1 := Lib.hid (show (((((w.alloc (.cells #[.bool ex, .int .i64 tm, .slice p n cap] 24)).alloc (.cells #[.int .i64 kd, .string gp, .slice rp rn rc] 37)).alloc (.cells #[.int .i64 m, .int .i64 l] 39)).alloc (.cells #[.bool false, .int .i64 0, .slice none 0 0] 24)).alloc (.cells #[.bool false, .slice none 0 0] 44)).heap[w.heap.size + 1 + 1 + 1 + 1]? = some (.cells #[.bool false, .slice none 0 0] 44 (0, 0)) from by simpa using heap_new ((((w.alloc (.cells #[.bool ex, .int .i64 tm, .slice p n cap] 24)).alloc (.cells #[.int .i64 kd, .string gp, .slice rp rn rc] 37)).alloc (.cells #[.int .i64 m, .int .i64 l] 39)).alloc (.cells #[.bool false, .int .i64 0, .slice none 0 0] 24)) (.cells #[.bool false, .slice none 0 0] 44))
  have HZ1 := Lib.hid (show True from trivial)
  have MB := Lib.hid (fun U => mayBe_c m l now U)
  have hchk : Hid (∀ (U : World), RowsAt 2 cellsTm U (.slice p n cap) sl → Calls Try.prog 12 #[.agg #[.bool ex, .int .i64 tm, (.slice p n cap)]] U fun e w' => e = .returned (.int .i64 (chkS ⟨ex, tm, sl⟩)) ∧ Below U.heap.size U w') := Lib.hid (fun U hr => gchk_c ex tm (.slice p n cap) sl U (hl) hr)
  rcases Bool.eq_false_or_eq_true (okS ⟨ex, tm, sl⟩) with hok | hok
  rotate_left
  · have EA : appS ⟨ex, tm, sl⟩ kd rs now m l = noA 3 := by unfold appS; rw [if_pos hok]
    rw [EA]
    have CK := hchk
    rw [chk_bad hok] at CK
    have HQ := Lib.hid (show ∀ U, Below w.heap.size w U → ApPost (noA 3) w (.returned (.tuple #[.agg #[.bool false, .int .i64 0, .slice none 0 0], .bool false, .agg #[.bool false, .slice none 0 0], .int .i64 3])) U from fun U k => ⟨_, _, rfl, RowsAt.nil _, AddrsG.nil _ _ _, k⟩)
    generalize ApPost (noA 3) w = Q at HQ ⊢
    clear EA hok hchk h hra hs hrs hn hrn hsz hl hrl
    go_enter Try.func20, Try.ntmps20
    go_upto_region 1 with fail
    generalize ((((w.alloc (.cells #[.bool ex, .int .i64 tm, .slice p n cap] 24)).alloc (.cells #[.int .i64 kd, .string gp, .slice rp rn rc] 37)).alloc (.cells #[.int .i64 m, .int .i64 l] 39)).alloc (.cells #[.bool false, .int .i64 0, .slice none 0 0] 24)).alloc (.cells #[.bool false, .slice none 0 0] 44) = W1 at HB1 HS1 HR1 HT1 HO1 HA1 HZ1 ⊢
    have s0 : W1.cell? ⟨w.heap.size, 0, none⟩ = some (.bool ex) := cell_of_block HS1.out rfl
    have s1 : W1.cell? ⟨w.heap.size, 1, none⟩ = some (.int .i64 tm) := cell_of_block HS1.out rfl
    have s2 : W1.cell? ⟨w.heap.size, 2, none⟩ = some (.slice p n cap) := cell_of_block HS1.out rfl
    go_wp2_with fail
    ((with_reducible refine (CK.out _ (HROW.out.below HB1.out)).mono ?_); rintro e w2 ⟨rfl, k2⟩)
    have S2 := Lib.hid (below_block k2 (lt_of_block HS1.out) HS1.out)
    have R2 := Lib.hid (below_block k2 (lt_of_block HR1.out) HR1.out)
    have T2 := Lib.hid (below_block k2 (lt_of_block HT1.out) HT1.out)
    have O2 := Lib.hid (below_block k2 (lt_of_block HO1.out) HO1.out)
    have A2 := Lib.hid (below_block k2 (lt_of_block HA1.out) HA1.out)
    have K2 := Lib.hid (gk_call HB1.out k2)
    clear s0 s1 s2 k2 HB1 HS1 HR1 HT1 HO1 HA1 HZ1 CK
    have o0 : w2.cell? ⟨w.heap.size + 1 + 1 + 1, 0, none⟩ = some (.bool false) := cell_of_block O2.out rfl
    have o1 : w2.cell? ⟨w.heap.size + 1 + 1 + 1, 1, none⟩ = some (.int .i64 0) := cell_of_block O2.out rfl
    have o2 : w2.cell? ⟨w.heap.size + 1 + 1 + 1, 2, none⟩ = some (.slice none 0 0) := cell_of_block O2.out rfl
    have a0 : w2.cell? ⟨w.heap.size + 1 + 1 + 1 + 1, 0, none⟩ = some (.bool false) := cell_of_block A2.out rfl
    have a1 : w2.cell? ⟨w.heap.size + 1 + 1 + 1 + 1, 1, none⟩ = some (.slice none 0 0) := cell_of_block A2.out rfl
    have of := (fun j : Nat => free_of_block (j := j) O2.out)
    have af := (fun j : Nat => free_of_block (j := j) A2.out)
    have HZ := Lib.hid (heap_store_other (c := w.heap.size + 1 + 1 + 1 + 1) (j := 1) (v := .slice none 0 0) (heap_store_other (c := w.heap.size + 1 + 1 + 1 + 1) (j := 0) (v := .bool false) (heap_store (j := 2) (v := .slice none 0 0) (heap_store (j := 1) (v := .int .i64 0) (heap_store (j := 0) (v := .bool false) O2.out))) (by omega)) (by omega))
    have HY := Lib.hid (heap_store (j := 1) (v := .slice none 0 0) (heap_store (j := 0) (v := .bool false) (heap_store_other (c := w.heap.size + 1 + 1 + 1) (j := 2) (v := .slice none 0 0) (heap_store_other (c := w.heap.size + 1 + 1 + 1) (j := 1) (v := .int .i64 0) (heap_store_other (c := w.heap.size + 1 + 1 + 1) (j := 0) (v := .bool false) A2.out (by omega)) (by omega)) (by omega))))
    have KZ := Lib.hid (((((K2.out.setCell (p := ⟨w.heap.size + 1 + 1 + 1, 0, none⟩) (show w.heap.size ≤ w.heap.size + 1 + 1 + 1 by omega) (.bool false)).setCell (p := ⟨w.heap.size + 1 + 1 + 1, 1, none⟩) (show w.heap.size ≤ w.heap.size + 1 + 1 + 1 by omega) (.int .i64 0)).setCell (p := ⟨w.heap.size + 1 + 1 + 1, 2, none⟩) (show w.heap.size ≤ w.heap.size + 1 + 1 + 1 by omega) (.slice none 0 0)).setCell (p := ⟨w.heap.size + 1 + 1 + 1 + 1, 0, none⟩) (show w.heap.size ≤ w.heap.size + 1 + 1 + 1 + 1 by omega) (.bool false)).setCell (p := ⟨w.heap.size + 1 + 1 + 1 + 1, 1, none⟩) (show w.heap.size ≤ w.heap.size + 1 + 1 + 1 + 1 by omega) (.slice none 0 0))
    go_wp2_with fail
    have z0 := cell_of_block (j := 0) HZ.out rfl
    have z1 := cell_of_block (j := 1) HZ.out rfl
    have z2 := cell_of_block (j := 2) HZ.out rfl
    have y0 := cell_of_block (j := 0) HY.out rfl
    have y1 := cell_of_block (j := 1) HY.out rfl
    exact bodyPost_ret (v := .tuple #[.agg #[.bool false, .int .i64 0, .slice none 0 0], .bool false, .agg #[.bool false, .slice none 0 0], .int .i64 3]) (by simp [results, Try.results20, go_sem, z0, z1, z2, y0, y1]) rfl (HQ.out _ KZ.out)
  · have CK := hchk
    rw [chk_yes hok] at CK
    have hapart : Apart sl := Apart.of_ok hok
    have h60 : (sl : List Tm).length ≤ 60 := ((ok_iff _).1 hok).1
    clear hchk
    rcases Bool.eq_false_or_eq_true (mayT m l now) with hm | hm
    · rcases Bool.eq_false_or_eq_true (recT kd rs) with hr | hr
      · have HM := Lib.hid hm
        have HRC := Lib.hid hr
        rw [hm] at MB
        have hrec : 1 ≤ kd ∧ kd ≤ 6 ∧ rn ≤ 60 := by
          have := HRC.out
          unfold recT at this
          simp only [Bool.and_eq_true, decide_eq_true_iff] at this
          omega
        have hmay : 1 ≤ m ∧ m ≤ 1000000 ∧ 1 ≤ l ∧ l ≤ 1000000 ∧ 1 ≤ now ∧ now ≤ 1099511627776 := by
          have := HM.out
          unfold mayT at this
          simp only [Bool.and_eq_true, decide_eq_true_iff] at this
          omega
        obtain ⟨q1, q2, q3⟩ := hrec
        obtain ⟨m1, m2, l1, l2, o1, o2⟩ := hmay
        have EA : appS ⟨ex, tm, sl⟩ kd rs now m l = endA (hurP (folP ex tm sl kd (ris rs) (now + m)) (now + l)) := by unfold appS; rw [if_neg (by rw [hok]; decide), if_neg (by rw [hm, hr]; decide)]
        rw [EA]
        have hrl2 : (ris rs).length ≤ 60 := Nat.le_trans (ris_len rs) (by omega)
        have hrs2 : ∀ s ∈ ris rs, s.size ≤ maxLen := fun s hs => hrs s ((ris_mem _ _).1 hs)
        obtain ⟨g1, g2, g3, g4, g5⟩ := fol_ok (ex := ex) (tm := tm) (kd := kd) (e := now + m) hapart hsz hrs2
        have BG := Lib.hid (fun U (hr : RowsAt 2 cellsTm U (.slice p n cap) sl) (ha : AddrsAt U (.slice rp rn rc) rs) => begin_c ex tm (.slice p n cap) sl (.slice rp rn rc) rs U (hl) hr hs hrl ha)
        rw [entL_mk hapart] at BG
        have FO := Lib.hid (fun U c mb tv (hc : Ch U c mb ex tm tv false (.slice none 0 0) (mk sl)) (ha : AddrsG 0 true U tv (ris rs)) => follow_c hc hapart hsz (ris rs) ha (ris_up rs) hrs2 (by omega) kd (now + m) q1 q2)
        generalize folP ex tm sl kd (ris rs) (now + m) = C at EA g1 g2 g3 g4 g5 FO ⊢
        have HU := Lib.hid (fun U c mb tv av (hc : Ch U c mb C.ex C.tm tv C.ag av (mk C.src)) (ha : AddrsAt U av C.al) => hurry_c hc C.al (now + l) (by rw [mk_len]; omega) ha g5)
        rw [mk_hurL] at HU
        have e1 : Apart (hurA C.src C.al (now + l)) := g1.hurA _
        have e2 : SzR (hurA C.src C.al (now + l)) := g2.hurA _ g5
        have e3 : (hurA C.src C.al (now + l)).length ≤ 300 := by have := hurA_len (now + l) C.al C.src; omega
        have EH : hurP C (now + l) = ⟨C.ex, if C.ag then min C.tm (now + l) else C.tm, hurA C.src C.al (now + l), C.ag, C.al⟩ := rfl
        rw [EH]
        generalize hurA C.src C.al (now + l) = R6 at HU e1 e2 e3 EH ⊢
        generalize (if C.ag then min C.tm (now + l) else C.tm) = tm6 at HU EH ⊢
        have HQ1 := Lib.hid (show 60 < R6.length → ∀ U, Below w.heap.size w U → ApPost (endA ⟨C.ex, tm6, R6, C.ag, C.al⟩) w (.returned (.tuple #[.agg #[.bool false, .int .i64 0, .slice none 0 0], .bool false, .agg #[.bool false, .slice none 0 0], .int .i64 1])) U from fun hb U k => by
          have EE : endA ⟨C.ex, tm6, R6, C.ag, C.al⟩ = noA 1 := by unfold endA; rw [if_pos hb]
          rw [EE]
          exact ⟨_, _, rfl, RowsAt.nil _, AddrsG.nil _ _ _, k⟩)
        have HQ2 := Lib.hid (show ¬ 60 < R6.length → ∀ U vs va, RowsAt 2 cellsTm U vs (staR R6) → AddrsAt U va C.al → Below w.heap.size w U → ApPost (endA ⟨C.ex, tm6, R6, C.ag, C.al⟩) w (.returned (.tuple #[.agg #[.bool C.ex, .int .i64 tm6, vs], .bool (C.ex || decide (0 < (staR R6).length)), .agg #[.bool C.ag, va], .int .i64 0])) U from fun hb U vs va h1 h2 h3 => by
          have EE : endA ⟨C.ex, tm6, R6, C.ag, C.al⟩ = ⟨⟨C.ex, tm6, staR R6⟩, C.ex || decide (0 < (staR R6).length), C.ag, C.al, 0⟩ := by unfold endA; rw [if_neg hb]
          rw [EE]
          exact ⟨vs, va, rfl, h1, h2, h3⟩)
        generalize ApPost (endA ⟨C.ex, tm6, R6, C.ag, C.al⟩) w = Q at HQ1 HQ2 ⊢
        have STA := Lib.hid (fun U c mb tv av (hc : Ch U c mb C.ex tm6 tv C.ag av (mk R6)) => state_c hc e1 e2 (by omega))
        have HSL := Lib.hid (sta_len e1)
        have d1 : decide (kd < 1) = false := decide_eq_false (by omega)
        have d2 : decide (6 < kd) = false := decide_eq_false (by omega)
        have d3 : decide (60 < (rn : Int)) = false := decide_eq_false (by omega)
        have d4 : decide (60 < rn) = false := decide_eq_false (by omega)
        have hq1 := Lib.hid (And.intro q1 q2)
        clear EA EH hok hm hr h hra hs hrs hn hrn hsz hl hrl hapart h60 hrl2 hrs2 g1 g2 g3 g4 g5 e1 e2 q1 q2 q3 HM HRC
        go_enter Try.func20, Try.ntmps20
        go_upto_region 1 with fail
        generalize ((((w.alloc (.cells #[.bool ex, .int .i64 tm, .slice p n cap] 24)).alloc (.cells #[.int .i64 kd, .string gp, .slice rp rn rc] 37)).alloc (.cells #[.int .i64 m, .int .i64 l] 39)).alloc (.cells #[.bool false, .int .i64 0, .slice none 0 0] 24)).alloc (.cells #[.bool false, .slice none 0 0] 44) = W1 at HB1 HS1 HR1 HT1 HO1 HA1 HZ1 ⊢
        have s0 : W1.cell? ⟨w.heap.size, 0, none⟩ = some (.bool ex) := cell_of_block HS1.out rfl
        have s1 : W1.cell? ⟨w.heap.size, 1, none⟩ = some (.int .i64 tm) := cell_of_block HS1.out rfl
        have s2 : W1.cell? ⟨w.heap.size, 2, none⟩ = some (.slice p n cap) := cell_of_block HS1.out rfl
        go_wp2_with fail
        ((with_reducible refine (CK.out _ (HROW.out.below HB1.out)).mono ?_); rintro e w2 ⟨rfl, k2⟩)
        have S2 := Lib.hid (below_block k2 (lt_of_block HS1.out) HS1.out)
        have R2 := Lib.hid (below_block k2 (lt_of_block HR1.out) HR1.out)
        have T2 := Lib.hid (below_block k2 (lt_of_block HT1.out) HT1.out)
        have O2 := Lib.hid (below_block k2 (lt_of_block HO1.out) HO1.out)
        have A2 := Lib.hid (below_block k2 (lt_of_block HA1.out) HA1.out)
        have K2 := Lib.hid (gk_call HB1.out k2)
        clear s0 s1 s2 k2 HB1 HS1 HR1 HT1 HO1 HA1 HZ1 CK
        have t0 : w2.cell? ⟨w.heap.size + 1 + 1, 0, none⟩ = some (.int .i64 m) := cell_of_block T2.out rfl
        have t1 : w2.cell? ⟨w.heap.size + 1 + 1, 1, none⟩ = some (.int .i64 l) := cell_of_block T2.out rfl
        go_wp2_with fail
        ((with_reducible refine (MB.out _).mono ?_); rintro e w3 ⟨rfl, k3⟩)
        have S3 := Lib.hid (below_block k3 (lt_of_block S2.out) S2.out)
        have R3 := Lib.hid (below_block k3 (lt_of_block R2.out) R2.out)
        have T3 := Lib.hid (below_block k3 (lt_of_block T2.out) T2.out)
        have O3 := Lib.hid (below_block k3 (lt_of_block O2.out) O2.out)
        have A3 := Lib.hid (below_block k3 (lt_of_block A2.out) A2.out)
        have K3 := Lib.hid (gk_call K2.out k3)
        clear t0 t1 k3 S2 R2 T2 O2 A2 K2 MB
        have r0 : w3.cell? ⟨w.heap.size + 1, 0, none⟩ = some (.int .i64 kd) := cell_of_block R3.out rfl
        have r2 : w3.cell? ⟨w.heap.size + 1, 2, none⟩ = some (.slice rp rn rc) := cell_of_block R3.out rfl
        have s0 : w3.cell? ⟨w.heap.size, 0, none⟩ = some (.bool ex) := cell_of_block S3.out rfl
        have s1 : w3.cell? ⟨w.heap.size, 1, none⟩ = some (.int .i64 tm) := cell_of_block S3.out rfl
        have s2 : w3.cell? ⟨w.heap.size, 2, none⟩ = some (.slice p n cap) := cell_of_block S3.out rfl
        go_wp2_with fail
        ((with_reducible refine (BG.out _ (HROW.out.below K3.out) (HRA.out.below K3.out)).mono ?_); rintro e w4 ⟨c, mb, tv, rfl, hc4, hm4, h4, a4, k4⟩)
        have S4 := Lib.hid (below_block k4 (lt_of_block S3.out) S3.out)
        have R4 := Lib.hid (below_block k4 (lt_of_block R3.out) R3.out)
        have T4 := Lib.hid (below_block k4 (lt_of_block T3.out) T3.out)
        have O4 := Lib.hid (below_block k4 (lt_of_block O3.out) O3.out)
        have A4 := Lib.hid (below_block k4 (lt_of_block A3.out) A3.out)
        have K4 := Lib.hid (gk_call K3.out k4)
        have CC := Lib.hid (And.intro hc4 hm4)
        have LT3 := Lib.hid (lt_of_block A3.out)
        have LT4 := Lib.hid (lt_of_block A4.out)
        have H4 := Lib.hid h4
        have D4 := Lib.hid (a4.mono (Nat.zero_le _) (fun h => h))
        have B4 := Lib.hid k4
        clear s0 s1 s2 r0 r2 hc4 hm4 h4 a4 k4 S3 R3 T3 O3 BG HROW HRA
        have r0 : w4.cell? ⟨w.heap.size + 1, 0, none⟩ = some (.int .i64 kd) := cell_of_block R4.out rfl
        have t0 : w4.cell? ⟨w.heap.size + 1 + 1, 0, none⟩ = some (.int .i64 m) := cell_of_block T4.out rfl
        go_wp2_with fail
        ((with_reducible refine (FO.out _ _ _ _ H4.out D4.out).mono ?_); rintro e w5 ⟨av, rfl, h5, a5, t5⟩)
        have B5 := Lib.hid (t5.below CC.out.1 CC.out.2 B4.out.size)
        have KB5 := Lib.hid (B4.out.trans B5.out)
        have H5 := Lib.hid h5
        have D5 := Lib.hid a5
        have C5 := Lib.hid (show w3.heap.size ≤ w5.heap.size from KB5.out.size)
        have TK5 := Lib.hid t5
        clear r0 t0 h5 a5 t5 H4 D4 FO
        have T5 := Lib.hid (show w5.heap[w.heap.size + 1 + 1]? = some (.cells #[.int .i64 m, .int .i64 l] 39 (0, 0)) from (B5.out.block _ (by have := LT3.out; omega)).trans T4.out)
        have O5 := Lib.hid (show w5.heap[w.heap.size + 1 + 1 + 1]? = some (.cells #[.bool false, .int .i64 0, .slice none 0 0] 24 (0, 0)) from (B5.out.block _ (by have := LT3.out; omega)).trans O4.out)
        have A5 := Lib.hid (show w5.heap[w.heap.size + 1 + 1 + 1 + 1]? = some (.cells #[.bool false, .slice none 0 0] 44 (0, 0)) from (B5.out.block _ (by have := LT3.out; omega)).trans A4.out)
        have t1 : w5.cell? ⟨w.heap.size + 1 + 1, 1, none⟩ = some (.int .i64 l) := cell_of_block T5.out rfl
        clear S4 R4 T4 O4 A4
        go_wp2_with fail
        ((with_reducible refine (HU.out _ _ _ _ _ H5.out D5.out.at).mono ?_); rintro e w6 ⟨rfl, h6, t6⟩)
        have B6 := Lib.hid (t6.below CC.out.1 CC.out.2 C5.out)
        have O6 := Lib.hid (show w6.heap[w.heap.size + 1 + 1 + 1]? = some (.cells #[.bool false, .int .i64 0, .slice none 0 0] 24 (0, 0)) from (B6.out.block _ (by have := LT3.out; omega)).trans O5.out)
        have A6 := Lib.hid (show w6.heap[w.heap.size + 1 + 1 + 1 + 1]? = some (.cells #[.bool false, .slice none 0 0] 44 (0, 0)) from (B6.out.block _ (by have := LT3.out; omega)).trans A5.out)
        have D6 := Lib.hid (ad_tw D5.out H5.out t6)
        have H6 := Lib.hid h6
        have K6 := Lib.hid (K3.out.trans ((KB5.out.trans B6.out).mono K3.out.size))
        have c2 := H6.out.c2
        have hm6 := Lib.hid H6.out.2
        clear t1 t6 h6 H5 D5 HU T5 O5 A5 TK5 B5 B4
        by_cases hbig : 60 < R6.length
        · have d5 : decide (60 < ((mk R6).length : Int)) = true := decide_eq_true (by rw [mk_len]; omega)
          have d6 : decide (60 < (mk R6).length) = true := decide_eq_true (by rw [mk_len]; omega)
          have HQ := Lib.hid (HQ1.out hbig)
          clear hbig HQ1 HQ2
          generalize mk R6 = L6 at hm6 H6 d5 d6 STA
          go_upto_region 12 with (first | (at_len; refine wpList_len_mp _ rfl _ 69 rfl 25 3 und_MA mb L6 rfl hm6.out ?_) | go_in)
          have o0 : w6.cell? ⟨w.heap.size + 1 + 1 + 1, 0, none⟩ = some (.bool false) := cell_of_block O6.out rfl
          have o1 : w6.cell? ⟨w.heap.size + 1 + 1 + 1, 1, none⟩ = some (.int .i64 0) := cell_of_block O6.out rfl
          have o2 : w6.cell? ⟨w.heap.size + 1 + 1 + 1, 2, none⟩ = some (.slice none 0 0) := cell_of_block O6.out rfl
          have a0 : w6.cell? ⟨w.heap.size + 1 + 1 + 1 + 1, 0, none⟩ = some (.bool false) := cell_of_block A6.out rfl
          have a1 : w6.cell? ⟨w.heap.size + 1 + 1 + 1 + 1, 1, none⟩ = some (.slice none 0 0) := cell_of_block A6.out rfl
          have of := (fun j : Nat => free_of_block (j := j) O6.out)
          have af := (fun j : Nat => free_of_block (j := j) A6.out)
          have HZ := Lib.hid (heap_store_other (c := w.heap.size + 1 + 1 + 1 + 1) (j := 1) (v := .slice none 0 0) (heap_store_other (c := w.heap.size + 1 + 1 + 1 + 1) (j := 0) (v := .bool false) (heap_store (j := 2) (v := .slice none 0 0) (heap_store (j := 1) (v := .int .i64 0) (heap_store (j := 0) (v := .bool false) O6.out))) (by omega)) (by omega))
          have HY := Lib.hid (heap_store (j := 1) (v := .slice none 0 0) (heap_store (j := 0) (v := .bool false) (heap_store_other (c := w.heap.size + 1 + 1 + 1) (j := 2) (v := .slice none 0 0) (heap_store_other (c := w.heap.size + 1 + 1 + 1) (j := 1) (v := .int .i64 0) (heap_store_other (c := w.heap.size + 1 + 1 + 1) (j := 0) (v := .bool false) A6.out (by omega)) (by omega)) (by omega))))
          have KZ := Lib.hid (((((K6.out.setCell (p := ⟨w.heap.size + 1 + 1 + 1, 0, none⟩) (show w.heap.size ≤ w.heap.size + 1 + 1 + 1 by omega) (.bool false)).setCell (p := ⟨w.heap.size + 1 + 1 + 1, 1, none⟩) (show w.heap.size ≤ w.heap.size + 1 + 1 + 1 by omega) (.int .i64 0)).setCell (p := ⟨w.heap.size + 1 + 1 + 1, 2, none⟩) (show w.heap.size ≤ w.heap.size + 1 + 1 + 1 by omega) (.slice none 0 0)).setCell (p := ⟨w.heap.size + 1 + 1 + 1 + 1, 0, none⟩) (show w.heap.size ≤ w.heap.size + 1 + 1 + 1 + 1 by omega) (.bool false)).setCell (p := ⟨w.heap.size + 1 + 1 + 1 + 1, 1, none⟩) (show w.heap.size ≤ w.heap.size + 1 + 1 + 1 + 1 by omega) (.slice none 0 0))
          go_wp2_with fail
          have z0 := cell_of_block (j := 0) HZ.out rfl
          have z1 := cell_of_block (j := 1) HZ.out rfl
          have z2 := cell_of_block (j := 2) HZ.out rfl
          have y0 := cell_of_block (j := 0) HY.out rfl
          have y1 := cell_of_block (j := 1) HY.out rfl
          exact bodyPost_ret (v := .tuple #[.agg #[.bool false, .int .i64 0, .slice none 0 0], .bool false, .agg #[.bool false, .slice none 0 0], .int .i64 1]) (by simp [results, Try.results20, go_sem, z0, z1, z2, y0, y1]) rfl (HQ.out _ KZ.out)
        · have d5 : decide (60 < ((mk R6).length : Int)) = false := decide_eq_false (by rw [mk_len]; omega)
          have d6 : decide (60 < (mk R6).length) = false := decide_eq_false (by rw [mk_len]; omega)
          have HQ := Lib.hid (HQ2.out hbig)
          clear HQ1 HQ2
          unfold SPost at STA
          generalize staR R6 = sl6 at HQ STA HSL
          clear hbig
          generalize mk R6 = L6 at hm6 H6 d5 d6 STA
          generalize C.ex = cex at H6 HQ STA
          generalize C.ag = cag at H6 HQ STA
          generalize C.al = cal at D6 HQ
          go_upto_region 13 with (first | (at_len; refine wpList_len_mp _ rfl _ 69 rfl 25 3 und_MA mb L6 rfl hm6.out ?_) | go_in)
          go_wp2_with fail
          ((with_reducible refine (STA.out _ _ _ _ _ H6.out).mono ?_); rintro e w7 ⟨vs, ml, rfl, r7, k7⟩)
          have HRW := Lib.hid (rowsAt_own (by decide) tm_len r7)
          obtain ⟨p8, c8, rfl⟩ := HRW.out.slice
          have HML := Lib.hid (show ml = sl6.length from by have e1 := g_slice r7; obtain ⟨p9, c9, e9⟩ := e1; injection e9 with _ e2; exact e2.symm)
          have G7 := Lib.hid r7
          have L6w := Lib.hid (show w.heap.size + 1 + 1 + 1 + 1 < w6.heap.size from lt_of_block A6.out)
          have k8 := k7.trans ((Below.refl _ w7).mono k7.size) 
          have W8b := Lib.hid (show Below w6.heap.size w6 (w7.alloc (.cells #[.bool cex, .int .i64 tm6, .slice p8 sl6.length c8] 24)) from k7.alloc k7.size _)
          have V8 := Lib.hid (heap_new w7 (.cells #[.bool cex, .int .i64 tm6, .slice p8 sl6.length c8] 24))
          have G8 := Lib.hid (r7.alloc (.cells #[.bool cex, .int .i64 tm6, .slice p8 sl6.length c8] 24))
          have hvb := Lib.hid (show w6.heap.size ≤ w7.heap.size from k7.size)
          clear r7 k7 k8 HRW STA c2 hm6
          go_upto_region 14 with fail
          generalize w7.alloc (.cells #[.bool cex, .int .i64 tm6, .slice p8 sl6.length c8] 24) = W8 at W8b V8 G8 ⊢
          generalize w7.heap.size = vb at V8 hvb ⊢
          have H8 := Lib.hid (H6.out.below W8b.out)
          have O8 := Lib.hid (below_block W8b.out (lt_of_block O6.out) O6.out)
          have A8 := Lib.hid (below_block W8b.out (lt_of_block A6.out) A6.out)
          have D8 := Lib.hid (D6.out.below W8b.out)
          have K8 := Lib.hid (gk_call K6.out W8b.out)
          have NV := Lib.hid (show w.heap.size + 1 + 1 + 1 ≠ vb ∧ w.heap.size + 1 + 1 + 1 + 1 ≠ vb from by have h1 := L6w.out; have h2 := hvb.out; omega)
          have NC := Lib.hid (show w.heap.size + 1 + 1 + 1 ≠ c ∧ w.heap.size + 1 + 1 + 1 + 1 ≠ c from by have h1 := LT3.out; have h2 := CC.out.1; omega)
          clear H6 O6 A6 D6 K6
          obtain ⟨pa, ca, hav⟩ := D8.out.slice
          subst hav
          have k0 := Below.refl W8.heap.size W8
          have KF := Lib.hid (show ∀ U, Below W8.heap.size W8 U → (U.cell? ⟨vb, 0, none⟩ = some (.bool cex) ∧ U.cell? ⟨vb, 1, none⟩ = some (.int .i64 tm6) ∧ U.cell? ⟨vb, 2, none⟩ = some (.slice p8 sl6.length c8) ∧ U.cell? ⟨c, 4, none⟩ = some (.bool cag) ∧ U.cell? ⟨c, 5, none⟩ = some (.slice pa cal.length ca)) from fun U kk => ⟨cell_of_block (below_block kk (lt_of_block V8.out) V8.out) rfl, cell_of_block (below_block kk (lt_of_block V8.out) V8.out) rfl, cell_of_block (below_block kk (lt_of_block V8.out) V8.out) rfl, (H8.out.below kk).c4, (H8.out.below kk).c5⟩)
          have FAR := Lib.hid (show ∀ (U : World) (t j : Nat) (u : Value), t ≠ vb → t ≠ c → (U.cell? ⟨vb, 0, none⟩ = some (.bool cex) ∧ U.cell? ⟨vb, 1, none⟩ = some (.int .i64 tm6) ∧ U.cell? ⟨vb, 2, none⟩ = some (.slice p8 sl6.length c8) ∧ U.cell? ⟨c, 4, none⟩ = some (.bool cag) ∧ U.cell? ⟨c, 5, none⟩ = some (.slice pa cal.length ca)) → ((U.setCell ⟨t, j, none⟩ u).cell? ⟨vb, 0, none⟩ = some (.bool cex) ∧ (U.setCell ⟨t, j, none⟩ u).cell? ⟨vb, 1, none⟩ = some (.int .i64 tm6) ∧ (U.setCell ⟨t, j, none⟩ u).cell? ⟨vb, 2, none⟩ = some (.slice p8 sl6.length c8) ∧ (U.setCell ⟨t, j, none⟩ u).cell? ⟨c, 4, none⟩ = some (.bool cag) ∧ (U.setCell ⟨t, j, none⟩ u).cell? ⟨c, 5, none⟩ = some (.slice pa cal.length ca)) from fun U t j u n1 n2 h => ⟨g_cell h.1 (Ne.symm n1), g_cell h.2.1 (Ne.symm n1), g_cell h.2.2.1 (Ne.symm n1), g_cell h.2.2.2.1 (Ne.symm n2), g_cell h.2.2.2.2 (Ne.symm n2)⟩)
          have v0 := (KF.out _ k0).1
          have v1 := (KF.out _ k0).2.1
          have v2 := (KF.out _ k0).2.2.1
          have v4 := (KF.out _ k0).2.2.2.1
          have v5 := (KF.out _ k0).2.2.2.2
          go_region_held3 (fun U => U.cell? ⟨vb, 0, none⟩ = some (.bool cex) ∧ U.cell? ⟨vb, 1, none⟩ = some (.int .i64 tm6) ∧ U.cell? ⟨vb, 2, none⟩ = some (.slice p8 sl6.length c8) ∧ U.cell? ⟨c, 4, none⟩ = some (.bool cag) ∧ U.cell? ⟨c, 5, none⟩ = some (.slice pa cal.length ca))
            (first
              | with_reducible exact KF.out _ k9
              | with_reducible exact FAR.out _ _ _ _ NV.out.1 NC.out.1 (FAR.out _ _ _ _ NV.out.1 NC.out.1 (FAR.out _ _ _ _ NV.out.1 NC.out.1 (KF.out _ k9)))
              | with_reducible exact FAR.out _ _ _ _ NV.out.2 NC.out.2 (FAR.out _ _ _ _ NV.out.2 NC.out.2 (FAR.out _ _ _ _ NV.out.1 NC.out.1 (FAR.out _ _ _ _ NV.out.1 NC.out.1 (FAR.out _ _ _ _ NV.out.1 NC.out.1 (KF.out _ k9)))))
              | with_reducible exact FAR.out _ _ _ _ NV.out.2 NC.out.2 (FAR.out _ _ _ _ NV.out.2 NC.out.2 (KF.out _ k9))
              | with_reducible exact FAR.out _ _ _ _ NV.out.1 NC.out.1 (FAR.out _ _ _ _ NV.out.1 NC.out.1 (FAR.out _ _ _ _ NV.out.1 NC.out.1 (FAR.out _ _ _ _ NV.out.2 NC.out.2 (FAR.out _ _ _ _ NV.out.2 NC.out.2 (KF.out _ k9)))))
              | with_reducible exact KF.out _ k0.drew)
            (first
              | (go_at_call 26; (with_reducible refine (isAny_c _ _ _ _ _ _).mono ?_); rintro e w9 ⟨rfl, h9⟩; have k9 := gk_call k0.drew h9; have O9 := below_block k9 (lt_of_block O8.out) O8.out; have A9 := below_block k9 (lt_of_block A8.out) A8.out; have o0 := cell_of_block (j := 0) O9 rfl; have o1 := cell_of_block (j := 1) O9 rfl; have o2 := cell_of_block (j := 2) O9 rfl; have a0 := cell_of_block (j := 0) A9 rfl; have a1 := cell_of_block (j := 1) A9 rfl; have of := (fun j : Nat => free_of_block (j := j) O9); have af := (fun j : Nat => free_of_block (j := j) A9)))
          rename_i hh
          clear hh v0 v1 v2 v4 v5 o0 o1 o2 a0 a1 of af
          have P9 := Lib.hid O9
          have Q9 := Lib.hid A9
          have K9 := Lib.hid (gk_call K8.out k9)
          have G9 := Lib.hid (g_below G8.out k9)
          have D9 := Lib.hid (D8.out.below k9)
          have t1 := heap_store (j := 0) (v := .bool cex) P9.out
          have t2 := heap_store (j := 1) (v := .int .i64 tm6) t1
          have t3 := heap_store (j := 2) (v := .slice p8 sl6.length c8) t2
          have u0 := heap_store_other (c := w.heap.size + 1 + 1 + 1) (j := 2) (v := .slice p8 sl6.length c8) (heap_store_other (c := w.heap.size + 1 + 1 + 1) (j := 1) (v := .int .i64 tm6) (heap_store_other (c := w.heap.size + 1 + 1 + 1) (j := 0) (v := .bool cex) Q9.out (by omega)) (by omega)) (by omega)
          have u1 := heap_store (j := 0) (v := .bool cag) u0
          have RWF := Lib.hid (rowsAt_own (by decide) tm_len (g_set (j := 1) (u := .slice pa cal.length ca) (g_set (j := 0) (u := .bool cag) (g_set (j := 2) (u := .slice p8 sl6.length c8) (g_set (j := 1) (u := .int .i64 tm6) (g_set (j := 0) (u := .bool cex) G9.out P9.out (by decide)) t1 (by decide)) t2 (by decide)) u0 (by decide)) u1 (by decide)))
          have ADF := Lib.hid ((((((D9.out.store (c := w.heap.size + 1 + 1 + 1) (j := 0) (u := .bool cex) (by have := LT4.out; omega)).store (c := w.heap.size + 1 + 1 + 1) (j := 1) (u := .int .i64 tm6) (by have := LT4.out; omega)).store (c := w.heap.size + 1 + 1 + 1) (j := 2) (u := .slice p8 sl6.length c8) (by have := LT4.out; omega)).store (c := w.heap.size + 1 + 1 + 1 + 1) (j := 0) (u := .bool cag) (by have := LT4.out; omega)).store (c := w.heap.size + 1 + 1 + 1 + 1) (j := 1) (u := .slice pa cal.length ca) (by have := LT4.out; omega)).at)
          clear O9 A9 k9 h9 t1 t2 t3 u0 u1
          have o0 : w9.cell? ⟨w.heap.size + 1 + 1 + 1, 0, none⟩ = some (.bool false) := cell_of_block P9.out rfl
          have o1 : w9.cell? ⟨w.heap.size + 1 + 1 + 1, 1, none⟩ = some (.int .i64 0) := cell_of_block P9.out rfl
          have o2 : w9.cell? ⟨w.heap.size + 1 + 1 + 1, 2, none⟩ = some (.slice none 0 0) := cell_of_block P9.out rfl
          have a0 : w9.cell? ⟨w.heap.size + 1 + 1 + 1 + 1, 0, none⟩ = some (.bool false) := cell_of_block Q9.out rfl
          have a1 : w9.cell? ⟨w.heap.size + 1 + 1 + 1 + 1, 1, none⟩ = some (.slice none 0 0) := cell_of_block Q9.out rfl
          have of := (fun j : Nat => free_of_block (j := j) P9.out)
          have af := (fun j : Nat => free_of_block (j := j) Q9.out)
          have HZ := Lib.hid (heap_store_other (c := w.heap.size + 1 + 1 + 1 + 1) (j := 1) (v := .slice pa cal.length ca) (heap_store_other (c := w.heap.size + 1 + 1 + 1 + 1) (j := 0) (v := .bool cag) (heap_store (j := 2) (v := .slice p8 sl6.length c8) (heap_store (j := 1) (v := .int .i64 tm6) (heap_store (j := 0) (v := .bool cex) P9.out))) (by omega)) (by omega))
          have HY := Lib.hid (heap_store (j := 1) (v := .slice pa cal.length ca) (heap_store (j := 0) (v := .bool cag) (heap_store_other (c := w.heap.size + 1 + 1 + 1) (j := 2) (v := .slice p8 sl6.length c8) (heap_store_other (c := w.heap.size + 1 + 1 + 1) (j := 1) (v := .int .i64 tm6) (heap_store_other (c := w.heap.size + 1 + 1 + 1) (j := 0) (v := .bool cex) Q9.out (by omega)) (by omega)) (by omega))))
          have KZ := Lib.hid (((((K9.out.setCell (p := ⟨w.heap.size + 1 + 1 + 1, 0, none⟩) (show w.heap.size ≤ w.heap.size + 1 + 1 + 1 by omega) (.bool cex)).setCell (p := ⟨w.heap.size + 1 + 1 + 1, 1, none⟩) (show w.heap.size ≤ w.heap.size + 1 + 1 + 1 by omega) (.int .i64 tm6)).setCell (p := ⟨w.heap.size + 1 + 1 + 1, 2, none⟩) (show w.heap.size ≤ w.heap.size + 1 + 1 + 1 by omega) (.slice p8 sl6.length c8)).setCell (p := ⟨w.heap.size + 1 + 1 + 1 + 1, 0, none⟩) (show w.heap.size ≤ w.heap.size + 1 + 1 + 1 + 1 by omega) (.bool cag)).setCell (p := ⟨w.heap.size + 1 + 1 + 1 + 1, 1, none⟩) (show w.heap.size ≤ w.heap.size + 1 + 1 + 1 + 1 by omega) (.slice pa cal.length ca))
          go_wp2_with fail
          have z0 := cell_of_block (j := 0) HZ.out rfl
          have z1 := cell_of_block (j := 1) HZ.out rfl
          have z2 := cell_of_block (j := 2) HZ.out rfl
          have y0 := cell_of_block (j := 0) HY.out rfl
          have y1 := cell_of_block (j := 1) HY.out rfl
          exact bodyPost_ret (v := .tuple #[.agg #[.bool cex, .int .i64 tm6, .slice p8 sl6.length c8], .bool (cex || decide (0 < sl6.length)), .agg #[.bool cag, .slice pa cal.length ca], .int .i64 0]) (by simp [results, Try.results20, go_sem, z0, z1, z2, y0, y1]) rfl (HQ.out _ _ _ RWF.out ADF.out KZ.out)
      · have EA : appS ⟨ex, tm, sl⟩ kd rs now m l = noA 1 := by unfold appS; rw [if_neg (by rw [hok]; decide), if_pos (by rw [hm, hr]; rfl)]
        rw [EA]
        rw [hm] at MB
        have HQ := Lib.hid (show ∀ U, Below w.heap.size w U → ApPost (noA 1) w (.returned (.tuple #[.agg #[.bool false, .int .i64 0, .slice none 0 0], .bool false, .agg #[.bool false, .slice none 0 0], .int .i64 1])) U from fun U k => ⟨_, _, rfl, RowsAt.nil _, AddrsG.nil _ _ _, k⟩)
        generalize ApPost (noA 1) w = Q at HQ ⊢
        have hcase : kd < 1 ∨ (1 ≤ kd ∧ 6 < kd) ∨ (1 ≤ kd ∧ kd ≤ 6 ∧ 60 < rn) := by
          unfold recT at hr
          by_cases q1 : 1 ≤ kd
          · by_cases q2 : kd ≤ 6
            · rw [decide_eq_true q1, decide_eq_true q2, Bool.true_and, Bool.true_and, decide_eq_false_iff_not] at hr
              exact .inr (.inr ⟨q1, q2, by omega⟩)
            · exact .inr (.inl ⟨q1, by omega⟩)
          · exact .inl (by omega)
        clear EA hok hm hr h hra hs hrs hn hrn hsz hl hrl hapart h60
        rcases hcase with q | q | q
        · have d1 : decide (kd < 1) = true := decide_eq_true q
          clear q
          go_enter Try.func20, Try.ntmps20
          go_upto_region 1 with fail
          generalize ((((w.alloc (.cells #[.bool ex, .int .i64 tm, .slice p n cap] 24)).alloc (.cells #[.int .i64 kd, .string gp, .slice rp rn rc] 37)).alloc (.cells #[.int .i64 m, .int .i64 l] 39)).alloc (.cells #[.bool false, .int .i64 0, .slice none 0 0] 24)).alloc (.cells #[.bool false, .slice none 0 0] 44) = W1 at HB1 HS1 HR1 HT1 HO1 HA1 HZ1 ⊢
          have s0 : W1.cell? ⟨w.heap.size, 0, none⟩ = some (.bool ex) := cell_of_block HS1.out rfl
          have s1 : W1.cell? ⟨w.heap.size, 1, none⟩ = some (.int .i64 tm) := cell_of_block HS1.out rfl
          have s2 : W1.cell? ⟨w.heap.size, 2, none⟩ = some (.slice p n cap) := cell_of_block HS1.out rfl
          go_wp2_with fail
          ((with_reducible refine (CK.out _ (HROW.out.below HB1.out)).mono ?_); rintro e w2 ⟨rfl, k2⟩)
          have S2 := Lib.hid (below_block k2 (lt_of_block HS1.out) HS1.out)
          have R2 := Lib.hid (below_block k2 (lt_of_block HR1.out) HR1.out)
          have T2 := Lib.hid (below_block k2 (lt_of_block HT1.out) HT1.out)
          have O2 := Lib.hid (below_block k2 (lt_of_block HO1.out) HO1.out)
          have A2 := Lib.hid (below_block k2 (lt_of_block HA1.out) HA1.out)
          have K2 := Lib.hid (gk_call HB1.out k2)
          clear s0 s1 s2 k2 HB1 HS1 HR1 HT1 HO1 HA1 HZ1 CK
          have t0 : w2.cell? ⟨w.heap.size + 1 + 1, 0, none⟩ = some (.int .i64 m) := cell_of_block T2.out rfl
          have t1 : w2.cell? ⟨w.heap.size + 1 + 1, 1, none⟩ = some (.int .i64 l) := cell_of_block T2.out rfl
          go_wp2_with fail
          ((with_reducible refine (MB.out _).mono ?_); rintro e w3 ⟨rfl, k3⟩)
          have S3 := Lib.hid (below_block k3 (lt_of_block S2.out) S2.out)
          have R3 := Lib.hid (below_block k3 (lt_of_block R2.out) R2.out)
          have T3 := Lib.hid (below_block k3 (lt_of_block T2.out) T2.out)
          have O3 := Lib.hid (below_block k3 (lt_of_block O2.out) O2.out)
          have A3 := Lib.hid (below_block k3 (lt_of_block A2.out) A2.out)
          have K3 := Lib.hid (gk_call K2.out k3)
          clear t0 t1 k3 S2 R2 T2 O2 A2 K2 MB
          have r0 : w3.cell? ⟨w.heap.size + 1, 0, none⟩ = some (.int .i64 kd) := cell_of_block R3.out rfl
          have r2 : w3.cell? ⟨w.heap.size + 1, 2, none⟩ = some (.slice rp rn rc) := cell_of_block R3.out rfl
          have o0 : w3.cell? ⟨w.heap.size + 1 + 1 + 1, 0, none⟩ = some (.bool false) := cell_of_block O3.out rfl
          have o1 : w3.cell? ⟨w.heap.size + 1 + 1 + 1, 1, none⟩ = some (.int .i64 0) := cell_of_block O3.out rfl
          have o2 : w3.cell? ⟨w.heap.size + 1 + 1 + 1, 2, none⟩ = some (.slice none 0 0) := cell_of_block O3.out rfl
          have a0 : w3.cell? ⟨w.heap.size + 1 + 1 + 1 + 1, 0, none⟩ = some (.bool false) := cell_of_block A3.out rfl
          have a1 : w3.cell? ⟨w.heap.size + 1 + 1 + 1 + 1, 1, none⟩ = some (.slice none 0 0) := cell_of_block A3.out rfl
          have of := (fun j : Nat => free_of_block (j := j) O3.out)
          have af := (fun j : Nat => free_of_block (j := j) A3.out)
          have HZ := Lib.hid (heap_store_other (c := w.heap.size + 1 + 1 + 1 + 1) (j := 1) (v := .slice none 0 0) (heap_store_other (c := w.heap.size + 1 + 1 + 1 + 1) (j := 0) (v := .bool false) (heap_store (j := 2) (v := .slice none 0 0) (heap_store (j := 1) (v := .int .i64 0) (heap_store (j := 0) (v := .bool false) O3.out))) (by omega)) (by omega))
          have HY := Lib.hid (heap_store (j := 1) (v := .slice none 0 0) (heap_store (j := 0) (v := .bool false) (heap_store_other (c := w.heap.size + 1 + 1 + 1) (j := 2) (v := .slice none 0 0) (heap_store_other (c := w.heap.size + 1 + 1 + 1) (j := 1) (v := .int .i64 0) (heap_store_other (c := w.heap.size + 1 + 1 + 1) (j := 0) (v := .bool false) A3.out (by omega)) (by omega)) (by omega))))
          have KZ := Lib.hid (((((K3.out.setCell (p := ⟨w.heap.size + 1 + 1 + 1, 0, none⟩) (show w.heap.size ≤ w.heap.size + 1 + 1 + 1 by omega) (.bool false)).setCell (p := ⟨w.heap.size + 1 + 1 + 1, 1, none⟩) (show w.heap.size ≤ w.heap.size + 1 + 1 + 1 by omega) (.int .i64 0)).setCell (p := ⟨w.heap.size + 1 + 1 + 1, 2, none⟩) (show w.heap.size ≤ w.heap.size + 1 + 1 + 1 by omega) (.slice none 0 0)).setCell (p := ⟨w.heap.size + 1 + 1 + 1 + 1, 0, none⟩) (show w.heap.size ≤ w.heap.size + 1 + 1 + 1 + 1 by omega) (.bool false)).setCell (p := ⟨w.heap.size + 1 + 1 + 1 + 1, 1, none⟩) (show w.heap.size ≤ w.heap.size + 1 + 1 + 1 + 1 by omega) (.slice none 0 0))
          go_wp2_with fail
          have z0 := cell_of_block (j := 0) HZ.out rfl
          have z1 := cell_of_block (j := 1) HZ.out rfl
          have z2 := cell_of_block (j := 2) HZ.out rfl
          have y0 := cell_of_block (j := 0) HY.out rfl
          have y1 := cell_of_block (j := 1) HY.out rfl
          exact bodyPost_ret (v := .tuple #[.agg #[.bool false, .int .i64 0, .slice none 0 0], .bool false, .agg #[.bool false, .slice none 0 0], .int .i64 1]) (by simp [results, Try.results20, go_sem, z0, z1, z2, y0, y1]) rfl (HQ.out _ KZ.out)
        · have d1 : decide (kd < 1) = false := decide_eq_false (by omega)
          have d2 : decide (6 < kd) = true := decide_eq_true q.2
          clear q
          go_enter Try.func20, Try.ntmps20
          go_upto_region 1 with fail
          generalize ((((w.alloc (.cells #[.bool ex, .int .i64 tm, .slice p n cap] 24)).alloc (.cells #[.int .i64 kd, .string gp, .slice rp rn rc] 37)).alloc (.cells #[.int .i64 m, .int .i64 l] 39)).alloc (.cells #[.bool false, .int .i64 0, .slice none 0 0] 24)).alloc (.cells #[.bool false, .slice none 0 0] 44) = W1 at HB1 HS1 HR1 HT1 HO1 HA1 HZ1 ⊢
          have s0 : W1.cell? ⟨w.heap.size, 0, none⟩ = some (.bool ex) := cell_of_block HS1.out rfl
          have s1 : W1.cell? ⟨w.heap.size, 1, none⟩ = some (.int .i64 tm) := cell_of_block HS1.out rfl
          have s2 : W1.cell? ⟨w.heap.size, 2, none⟩ = some (.slice p n cap) := cell_of_block HS1.out rfl
          go_wp2_with fail
          ((with_reducible refine (CK.out _ (HROW.out.below HB1.out)).mono ?_); rintro e w2 ⟨rfl, k2⟩)
          have S2 := Lib.hid (below_block k2 (lt_of_block HS1.out) HS1.out)
          have R2 := Lib.hid (below_block k2 (lt_of_block HR1.out) HR1.out)
          have T2 := Lib.hid (below_block k2 (lt_of_block HT1.out) HT1.out)
          have O2 := Lib.hid (below_block k2 (lt_of_block HO1.out) HO1.out)
          have A2 := Lib.hid (below_block k2 (lt_of_block HA1.out) HA1.out)
          have K2 := Lib.hid (gk_call HB1.out k2)
          clear s0 s1 s2 k2 HB1 HS1 HR1 HT1 HO1 HA1 HZ1 CK
          have t0 : w2.cell? ⟨w.heap.size + 1 + 1, 0, none⟩ = some (.int .i64 m) := cell_of_block T2.out rfl
          have t1 : w2.cell? ⟨w.heap.size + 1 + 1, 1, none⟩ = some (.int .i64 l) := cell_of_block T2.out rfl
          go_wp2_with fail
          ((with_reducible refine (MB.out _).mono ?_); rintro e w3 ⟨rfl, k3⟩)
          have S3 := Lib.hid (below_block k3 (lt_of_block S2.out) S2.out)
          have R3 := Lib.hid (below_block k3 (lt_of_block R2.out) R2.out)
          have T3 := Lib.hid (below_block k3 (lt_of_block T2.out) T2.out)
          have O3 := Lib.hid (below_block k3 (lt_of_block O2.out) O2.out)
          have A3 := Lib.hid (below_block k3 (lt_of_block A2.out) A2.out)
          have K3 := Lib.hid (gk_call K2.out k3)
          clear t0 t1 k3 S2 R2 T2 O2 A2 K2 MB
          have r0 : w3.cell? ⟨w.heap.size + 1, 0, none⟩ = some (.int .i64 kd) := cell_of_block R3.out rfl
          have r2 : w3.cell? ⟨w.heap.size + 1, 2, none⟩ = some (.slice rp rn rc) := cell_of_block R3.out rfl
          have o0 : w3.cell? ⟨w.heap.size + 1 + 1 + 1, 0, none⟩ = some (.bool false) := cell_of_block O3.out rfl
          have o1 : w3.cell? ⟨w.heap.size + 1 + 1 + 1, 1, none⟩ = some (.int .i64 0) := cell_of_block O3.out rfl
          have o2 : w3.cell? ⟨w.heap.size + 1 + 1 + 1, 2, none⟩ = some (.slice none 0 0) := cell_of_block O3.out rfl
          have a0 : w3.cell? ⟨w.heap.size + 1 + 1 + 1 + 1, 0, none⟩ = some (.bool false) := cell_of_block A3.out rfl
          have a1 : w3.cell? ⟨w.heap.size + 1 + 1 + 1 + 1, 1, none⟩ = some (.slice none 0 0) := cell_of_block A3.out rfl
          have of := (fun j : Nat => free_of_block (j := j) O3.out)
          have af := (fun j : Nat => free_of_block (j := j) A3.out)
          have HZ := Lib.hid (heap_store_other (c := w.heap.size + 1 + 1 + 1 + 1) (j := 1) (v := .slice none 0 0) (heap_store_other (c := w.heap.size + 1 + 1 + 1 + 1) (j := 0) (v := .bool false) (heap_store (j := 2) (v := .slice none 0 0) (heap_store (j := 1) (v := .int .i64 0) (heap_store (j := 0) (v := .bool false) O3.out))) (by omega)) (by omega))
          have HY := Lib.hid (heap_store (j := 1) (v := .slice none 0 0) (heap_store (j := 0) (v := .bool false) (heap_store_other (c := w.heap.size + 1 + 1 + 1) (j := 2) (v := .slice none 0 0) (heap_store_other (c := w.heap.size + 1 + 1 + 1) (j := 1) (v := .int .i64 0) (heap_store_other (c := w.heap.size + 1 + 1 + 1) (j := 0) (v := .bool false) A3.out (by omega)) (by omega)) (by omega))))
          have KZ := Lib.hid (((((K3.out.setCell (p := ⟨w.heap.size + 1 + 1 + 1, 0, none⟩) (show w.heap.size ≤ w.heap.size + 1 + 1 + 1 by omega) (.bool false)).setCell (p := ⟨w.heap.size + 1 + 1 + 1, 1, none⟩) (show w.heap.size ≤ w.heap.size + 1 + 1 + 1 by omega) (.int .i64 0)).setCell (p := ⟨w.heap.size + 1 + 1 + 1, 2, none⟩) (show w.heap.size ≤ w.heap.size + 1 + 1 + 1 by omega) (.slice none 0 0)).setCell (p := ⟨w.heap.size + 1 + 1 + 1 + 1, 0, none⟩) (show w.heap.size ≤ w.heap.size + 1 + 1 + 1 + 1 by omega) (.bool false)).setCell (p := ⟨w.heap.size + 1 + 1 + 1 + 1, 1, none⟩) (show w.heap.size ≤ w.heap.size + 1 + 1 + 1 + 1 by omega) (.slice none 0 0))
          go_wp2_with fail
          have z0 := cell_of_block (j := 0) HZ.out rfl
          have z1 := cell_of_block (j := 1) HZ.out rfl
          have z2 := cell_of_block (j := 2) HZ.out rfl
          have y0 := cell_of_block (j := 0) HY.out rfl
          have y1 := cell_of_block (j := 1) HY.out rfl
          exact bodyPost_ret (v := .tuple #[.agg #[.bool false, .int .i64 0, .slice none 0 0], .bool false, .agg #[.bool false, .slice none 0 0], .int .i64 1]) (by simp [results, Try.results20, go_sem, z0, z1, z2, y0, y1]) rfl (HQ.out _ KZ.out)
        · have d1 : decide (kd < 1) = false := decide_eq_false (by omega)
          have d2 : decide (6 < kd) = false := decide_eq_false (by omega)
          have d3 : decide (60 < (rn : Int)) = true := decide_eq_true (by omega)
          have d4 : decide (60 < rn) = true := decide_eq_true (by omega)
          clear q
          go_enter Try.func20, Try.ntmps20
          go_upto_region 1 with fail
          generalize ((((w.alloc (.cells #[.bool ex, .int .i64 tm, .slice p n cap] 24)).alloc (.cells #[.int .i64 kd, .string gp, .slice rp rn rc] 37)).alloc (.cells #[.int .i64 m, .int .i64 l] 39)).alloc (.cells #[.bool false, .int .i64 0, .slice none 0 0] 24)).alloc (.cells #[.bool false, .slice none 0 0] 44) = W1 at HB1 HS1 HR1 HT1 HO1 HA1 HZ1 ⊢
          have s0 : W1.cell? ⟨w.heap.size, 0, none⟩ = some (.bool ex) := cell_of_block HS1.out rfl
          have s1 : W1.cell? ⟨w.heap.size, 1, none⟩ = some (.int .i64 tm) := cell_of_block HS1.out rfl
          have s2 : W1.cell? ⟨w.heap.size, 2, none⟩ = some (.slice p n cap) := cell_of_block HS1.out rfl
          go_wp2_with fail
          ((with_reducible refine (CK.out _ (HROW.out.below HB1.out)).mono ?_); rintro e w2 ⟨rfl, k2⟩)
          have S2 := Lib.hid (below_block k2 (lt_of_block HS1.out) HS1.out)
          have R2 := Lib.hid (below_block k2 (lt_of_block HR1.out) HR1.out)
          have T2 := Lib.hid (below_block k2 (lt_of_block HT1.out) HT1.out)
          have O2 := Lib.hid (below_block k2 (lt_of_block HO1.out) HO1.out)
          have A2 := Lib.hid (below_block k2 (lt_of_block HA1.out) HA1.out)
          have K2 := Lib.hid (gk_call HB1.out k2)
          clear s0 s1 s2 k2 HB1 HS1 HR1 HT1 HO1 HA1 HZ1 CK
          have t0 : w2.cell? ⟨w.heap.size + 1 + 1, 0, none⟩ = some (.int .i64 m) := cell_of_block T2.out rfl
          have t1 : w2.cell? ⟨w.heap.size + 1 + 1, 1, none⟩ = some (.int .i64 l) := cell_of_block T2.out rfl
          go_wp2_with fail
          ((with_reducible refine (MB.out _).mono ?_); rintro e w3 ⟨rfl, k3⟩)
          have S3 := Lib.hid (below_block k3 (lt_of_block S2.out) S2.out)
          have R3 := Lib.hid (below_block k3 (lt_of_block R2.out) R2.out)
          have T3 := Lib.hid (below_block k3 (lt_of_block T2.out) T2.out)
          have O3 := Lib.hid (below_block k3 (lt_of_block O2.out) O2.out)
          have A3 := Lib.hid (below_block k3 (lt_of_block A2.out) A2.out)
          have K3 := Lib.hid (gk_call K2.out k3)
          clear t0 t1 k3 S2 R2 T2 O2 A2 K2 MB
          have r0 : w3.cell? ⟨w.heap.size + 1, 0, none⟩ = some (.int .i64 kd) := cell_of_block R3.out rfl
          have r2 : w3.cell? ⟨w.heap.size + 1, 2, none⟩ = some (.slice rp rn rc) := cell_of_block R3.out rfl
          have o0 : w3.cell? ⟨w.heap.size + 1 + 1 + 1, 0, none⟩ = some (.bool false) := cell_of_block O3.out rfl
          have o1 : w3.cell? ⟨w.heap.size + 1 + 1 + 1, 1, none⟩ = some (.int .i64 0) := cell_of_block O3.out rfl
          have o2 : w3.cell? ⟨w.heap.size + 1 + 1 + 1, 2, none⟩ = some (.slice none 0 0) := cell_of_block O3.out rfl
          have a0 : w3.cell? ⟨w.heap.size + 1 + 1 + 1 + 1, 0, none⟩ = some (.bool false) := cell_of_block A3.out rfl
          have a1 : w3.cell? ⟨w.heap.size + 1 + 1 + 1 + 1, 1, none⟩ = some (.slice none 0 0) := cell_of_block A3.out rfl
          have of := (fun j : Nat => free_of_block (j := j) O3.out)
          have af := (fun j : Nat => free_of_block (j := j) A3.out)
          have HZ := Lib.hid (heap_store_other (c := w.heap.size + 1 + 1 + 1 + 1) (j := 1) (v := .slice none 0 0) (heap_store_other (c := w.heap.size + 1 + 1 + 1 + 1) (j := 0) (v := .bool false) (heap_store (j := 2) (v := .slice none 0 0) (heap_store (j := 1) (v := .int .i64 0) (heap_store (j := 0) (v := .bool false) O3.out))) (by omega)) (by omega))
          have HY := Lib.hid (heap_store (j := 1) (v := .slice none 0 0) (heap_store (j := 0) (v := .bool false) (heap_store_other (c := w.heap.size + 1 + 1 + 1) (j := 2) (v := .slice none 0 0) (heap_store_other (c := w.heap.size + 1 + 1 + 1) (j := 1) (v := .int .i64 0) (heap_store_other (c := w.heap.size + 1 + 1 + 1) (j := 0) (v := .bool false) A3.out (by omega)) (by omega)) (by omega))))
          have KZ := Lib.hid (((((K3.out.setCell (p := ⟨w.heap.size + 1 + 1 + 1, 0, none⟩) (show w.heap.size ≤ w.heap.size + 1 + 1 + 1 by omega) (.bool false)).setCell (p := ⟨w.heap.size + 1 + 1 + 1, 1, none⟩) (show w.heap.size ≤ w.heap.size + 1 + 1 + 1 by omega) (.int .i64 0)).setCell (p := ⟨w.heap.size + 1 + 1 + 1, 2, none⟩) (show w.heap.size ≤ w.heap.size + 1 + 1 + 1 by omega) (.slice none 0 0)).setCell (p := ⟨w.heap.size + 1 + 1 + 1 + 1, 0, none⟩) (show w.heap.size ≤ w.heap.size + 1 + 1 + 1 + 1 by omega) (.bool false)).setCell (p := ⟨w.heap.size + 1 + 1 + 1 + 1, 1, none⟩) (show w.heap.size ≤ w.heap.size + 1 + 1 + 1 + 1 by omega) (.slice none 0 0))
          go_wp2_with fail
          have z0 := cell_of_block (j := 0) HZ.out rfl
          have z1 := cell_of_block (j := 1) HZ.out rfl
          have z2 := cell_of_block (j := 2) HZ.out rfl
          have y0 := cell_of_block (j := 0) HY.out rfl
          have y1 := cell_of_block (j := 1) HY.out rfl
          exact bodyPost_ret (v := .tuple #[.agg #[.bool false, .int .i64 0, .slice none 0 0], .bool false, .agg #[.bool false, .slice none 0 0], .int .i64 1]) (by simp [results, Try.results20, go_sem, z0, z1, z2, y0, y1]) rfl (HQ.out _ KZ.out)
    · have EA : appS ⟨ex, tm, sl⟩ kd rs now m l = noA 1 := by unfold appS; rw [if_neg (by rw [hok]; decide), if_pos (by rw [hm]; rfl)]
      rw [EA]
      rw [hm] at MB
      have HQ := Lib.hid (show ∀ U, Below w.heap.size w U → ApPost (noA 1) w (.returned (.tuple #[.agg #[.bool false, .int .i64 0, .slice none 0 0], .bool false, .agg #[.bool false, .slice none 0 0], .int .i64 1])) U from fun U k => ⟨_, _, rfl, RowsAt.nil _, AddrsG.nil _ _ _, k⟩)
      generalize ApPost (noA 1) w = Q at HQ ⊢
      clear EA hok hm h hra hs hrs hn hrn hsz hl hrl hapart h60
      go_enter Try.func20, Try.ntmps20
      go_upto_region 1 with fail
      generalize ((((w.alloc (.cells #[.bool ex, .int .i64 tm, .slice p n cap] 24)).alloc (.cells #[.int .i64 kd, .string gp, .slice rp rn rc] 37)).alloc (.cells #[.int .i64 m, .int .i64 l] 39)).alloc (.cells #[.bool false, .int .i64 0, .slice none 0 0] 24)).alloc (.cells #[.bool false, .slice none 0 0] 44) = W1 at HB1 HS1 HR1 HT1 HO1 HA1 HZ1 ⊢
      have s0 : W1.cell? ⟨w.heap.size, 0, none⟩ = some (.bool ex) := cell_of_block HS1.out rfl
      have s1 : W1.cell? ⟨w.heap.size, 1, none⟩ = some (.int .i64 tm) := cell_of_block HS1.out rfl
      have s2 : W1.cell? ⟨w.heap.size, 2, none⟩ = some (.slice p n cap) := cell_of_block HS1.out rfl
      go_wp2_with fail
      ((with_reducible refine (CK.out _ (HROW.out.below HB1.out)).mono ?_); rintro e w2 ⟨rfl, k2⟩)
      have S2 := Lib.hid (below_block k2 (lt_of_block HS1.out) HS1.out)
      have R2 := Lib.hid (below_block k2 (lt_of_block HR1.out) HR1.out)
      have T2 := Lib.hid (below_block k2 (lt_of_block HT1.out) HT1.out)
      have O2 := Lib.hid (below_block k2 (lt_of_block HO1.out) HO1.out)
      have A2 := Lib.hid (below_block k2 (lt_of_block HA1.out) HA1.out)
      have K2 := Lib.hid (gk_call HB1.out k2)
      clear s0 s1 s2 k2 HB1 HS1 HR1 HT1 HO1 HA1 HZ1 CK
      have t0 : w2.cell? ⟨w.heap.size + 1 + 1, 0, none⟩ = some (.int .i64 m) := cell_of_block T2.out rfl
      have t1 : w2.cell? ⟨w.heap.size + 1 + 1, 1, none⟩ = some (.int .i64 l) := cell_of_block T2.out rfl
      go_wp2_with fail
      ((with_reducible refine (MB.out _).mono ?_); rintro e w3 ⟨rfl, k3⟩)
      have S3 := Lib.hid (below_block k3 (lt_of_block S2.out) S2.out)
      have R3 := Lib.hid (below_block k3 (lt_of_block R2.out) R2.out)
      have T3 := Lib.hid (below_block k3 (lt_of_block T2.out) T2.out)
      have O3 := Lib.hid (below_block k3 (lt_of_block O2.out) O2.out)
      have A3 := Lib.hid (below_block k3 (lt_of_block A2.out) A2.out)
      have K3 := Lib.hid (gk_call K2.out k3)
      clear t0 t1 k3 S2 R2 T2 O2 A2 K2 MB
      have r0 : w3.cell? ⟨w.heap.size + 1, 0, none⟩ = some (.int .i64 kd) := cell_of_block R3.out rfl
      have r2 : w3.cell? ⟨w.heap.size + 1, 2, none⟩ = some (.slice rp rn rc) := cell_of_block R3.out rfl
      have o0 : w3.cell? ⟨w.heap.size + 1 + 1 + 1, 0, none⟩ = some (.bool false) := cell_of_block O3.out rfl
      have o1 : w3.cell? ⟨w.heap.size + 1 + 1 + 1, 1, none⟩ = some (.int .i64 0) := cell_of_block O3.out rfl
      have o2 : w3.cell? ⟨w.heap.size + 1 + 1 + 1, 2, none⟩ = some (.slice none 0 0) := cell_of_block O3.out rfl
      have a0 : w3.cell? ⟨w.heap.size + 1 + 1 + 1 + 1, 0, none⟩ = some (.bool false) := cell_of_block A3.out rfl
      have a1 : w3.cell? ⟨w.heap.size + 1 + 1 + 1 + 1, 1, none⟩ = some (.slice none 0 0) := cell_of_block A3.out rfl
      have of := (fun j : Nat => free_of_block (j := j) O3.out)
      have af := (fun j : Nat => free_of_block (j := j) A3.out)
      have HZ := Lib.hid (heap_store_other (c := w.heap.size + 1 + 1 + 1 + 1) (j := 1) (v := .slice none 0 0) (heap_store_other (c := w.heap.size + 1 + 1 + 1 + 1) (j := 0) (v := .bool false) (heap_store (j := 2) (v := .slice none 0 0) (heap_store (j := 1) (v := .int .i64 0) (heap_store (j := 0) (v := .bool false) O3.out))) (by omega)) (by omega))
      have HY := Lib.hid (heap_store (j := 1) (v := .slice none 0 0) (heap_store (j := 0) (v := .bool false) (heap_store_other (c := w.heap.size + 1 + 1 + 1) (j := 2) (v := .slice none 0 0) (heap_store_other (c := w.heap.size + 1 + 1 + 1) (j := 1) (v := .int .i64 0) (heap_store_other (c := w.heap.size + 1 + 1 + 1) (j := 0) (v := .bool false) A3.out (by omega)) (by omega)) (by omega))))
      have KZ := Lib.hid (((((K3.out.setCell (p := ⟨w.heap.size + 1 + 1 + 1, 0, none⟩) (show w.heap.size ≤ w.heap.size + 1 + 1 + 1 by omega) (.bool false)).setCell (p := ⟨w.heap.size + 1 + 1 + 1, 1, none⟩) (show w.heap.size ≤ w.heap.size + 1 + 1 + 1 by omega) (.int .i64 0)).setCell (p := ⟨w.heap.size + 1 + 1 + 1, 2, none⟩) (show w.heap.size ≤ w.heap.size + 1 + 1 + 1 by omega) (.slice none 0 0)).setCell (p := ⟨w.heap.size + 1 + 1 + 1 + 1, 0, none⟩) (show w.heap.size ≤ w.heap.size + 1 + 1 + 1 + 1 by omega) (.bool false)).setCell (p := ⟨w.heap.size + 1 + 1 + 1 + 1, 1, none⟩) (show w.heap.size ≤ w.heap.size + 1 + 1 + 1 + 1 by omega) (.slice none 0 0))
      go_wp2_with fail
      have z0 := cell_of_block (j := 0) HZ.out rfl
      have z1 := cell_of_block (j := 1) HZ.out rfl
      have z2 := cell_of_block (j := 2) HZ.out rfl
      have y0 := cell_of_block (j := 0) HY.out rfl
      have y1 := cell_of_block (j := 1) HY.out rfl
      exact bodyPost_ret (v := .tuple #[.agg #[.bool false, .int .i64 0, .slice none 0 0], .bool false, .agg #[.bool false, .slice none 0 0], .int .i64 1]) (by simp [results, Try.results20, go_sem, z0, z1, z2, y0, y1]) rfl (HQ.out _ KZ.out)

set_option maxHeartbeats 16000000 in
set_option maxRecDepth 100000 in
theorem applyF_c (ex : Bool) (tm : Int) (v : Value) (sl : List Tm) (kd : Int) (gp : ByteArray) (rv : Value) (rs : List ByteArray) (now m l : Int) (w : World) (hl : sl.length ≤ 1000000) (h : RowsAt 2 cellsTm w v sl) (hs : ∀ x ∈ sl, x.1.size ≤ maxLen) (hrl : rs.length ≤ 1000000) (hra : AddrsAt w rv rs) (hrs : ∀ s ∈ rs, s.size ≤ maxLen) :
    Calls Try.prog 20 #[.agg #[.bool ex, .int .i64 tm, v], .bool false, .agg #[.int .i64 kd, .string gp, rv], .int .i64 now, .agg #[.int .i64 m, .int .i64 l]] w (ApPost (appS noS kd rs now m l) w) := by
  have hsz : SzR ([] : List Tm) := fun x hx => by cases hx
  obtain ⟨p, cap, rfl⟩ := h.slice
  obtain ⟨rp, rc, rfl⟩ := hra.slice
  obtain ⟨n, hn⟩ : ∃ n, n = sl.length := ⟨_, rfl⟩
  obtain ⟨rn, hrn⟩ : ∃ rn, rn = rs.length := ⟨_, rfl⟩
  rw [← hn] at h ⊢
  rw [← hrn] at hra ⊢
  have HROW := Lib.hid h
  have HRA := Lib.hid hra
  have HB1 := Lib.hid ((((((Below.refl w.heap.size w).alloc (Nat.le_refl _) (.cells #[.bool ex, .int .i64 tm, .slice p n cap] 24)).alloc (by simp) (.cells #[.int .i64 kd, .string gp, .slice rp rn rc] 37)).alloc (by simp; omega) (.cells #[.int .i64 m, .int .i64 l] 39)).alloc (by simp; omega) (.cells #[.bool false, .int .i64 0, .slice none 0 0] 24)).alloc (by simp; omega) (.cells #[.bool false, .slice none 0 0] 44))
  have HS1 := Lib.hid (show (((((w.alloc (.cells #[.bool ex, .int .i64 tm, .slice p n cap] 24)).alloc (.cells #[.int .i64 kd, .string gp, .slice rp rn rc] 37)).alloc (.cells #[.int .i64 m, .int .i64 l] 39)).alloc (.cells #[.bool false, .int .i64 0, .slice none 0 0] 24)).alloc (.cells #[.bool false, .slice none 0 0] 44)).heap[w.heap.size]? = some (.cells #[.bool ex, .int .i64 tm, .slice p n cap] 24 (0, 0)) from heap_old (heap_old (heap_old (heap_old (heap_new w _)))))
  have HR1 := Lib.hid (show (((((w.alloc (.cells #[.bool ex, .int .i64 tm, .slice p n cap] 24)).alloc (.cells #[.int .i64 kd, .string gp, .slice rp rn rc] 37)).alloc (.cells #[.int .i64 m, .int .i64 l] 39)).alloc (.cells #[.bool false, .int .i64 0, .slice none 0 0] 24)).alloc (.cells #[.bool false, .slice none 0 0] 44)).heap[w.heap.size + 1]? = some (.cells #[.int .i64 kd, .string gp, .slice rp rn rc] 37 (0, 0)) from heap_old (heap_old (heap_old (by simpa using heap_new (w.alloc (.cells #[.bool ex, .int .i64 tm, .slice p n cap] 24)) (.cells #[.int .i64 kd, .string gp, .slice rp rn rc] 37)))))
  have HT1 := Lib.hid (show (((((w.alloc (.cells #[.bool ex, .int .i64 tm, .slice p n cap] 24)).alloc (.cells #[.int .i64 kd, .string gp, .slice rp rn rc] 37)).alloc (.cells #[.int .i64 m, .int .i64 l] 39)).alloc (.cells #[.bool false, .int .i64 0, .slice none 0 0] 24)).alloc (.cells #[.bool false, .slice none 0 0] 44)).heap[w.heap.size + 1 + 1]? = some (.cells #[.int .i64 m, .int .i64 l] 39 (0, 0)) from heap_old (heap_old (by simpa using heap_new ((w.alloc (.cells #[.bool ex, .int .i64 tm, .slice p n cap] 24)).alloc (.cells #[.int .i64 kd, .string gp, .slice rp rn rc] 37)) (.cells #[.int .i64 m, .int .i64 l] 39))))
  have HO1 := Lib.hid (show (((((w.alloc (.cells #[.bool ex, .int .i64 tm, .slice p n cap] 24)).alloc (.cells #[.int .i64 kd, .string gp, .slice rp rn rc] 37)).alloc (.cells #[.int .i64 m, .int .i64 l] 39)).alloc (.cells #[.bool false, .int .i64 0, .slice none 0 0] 24)).alloc (.cells #[.bool false, .slice none 0 0] 44)).heap[w.heap.size + 1 + 1 + 1]? = some (.cells #[.bool false, .int .i64 0, .slice none 0 0] 24 (0, 0)) from heap_old (by simpa using heap_new (((w.alloc (.cells #[.bool ex, .int .i64 tm, .slice p n cap] 24)).alloc (.cells #[.int .i64 kd, .string gp, .slice rp rn rc] 37)).alloc (.cells #[.int .i64 m, .int .i64 l] 39)) (.cells #[.bool false, .int .i64 0, .slice none 0 0] 24)))
  have HA1 := Lib.hid (show (((((w.alloc (.cells #[.bool ex, .int .i64 tm, .slice p n cap] 24)).alloc (.cells #[.int .i64 kd, .string gp, .slice rp rn rc] 37)).alloc (.cells #[.int .i64 m, .int .i64 l] 39)).alloc (.cells #[.bool false, .int .i64 0, .slice none 0 0] 24)).alloc (.cells #[.bool false, .slice none 0 0] 44)).heap[w.heap.size + 1 + 1 + 1 + 1]? = some (.cells #[.bool false, .slice none 0 0] 44 (0, 0)) from by simpa using heap_new ((((w.alloc (.cells #[.bool ex, .int .i64 tm, .slice p n cap] 24)).alloc (.cells #[.int .i64 kd, .string gp, .slice rp rn rc] 37)).alloc (.cells #[.int .i64 m, .int .i64 l] 39)).alloc (.cells #[.bool false, .int .i64 0, .slice none 0 0] 24)) (.cells #[.bool false, .slice none 0 0] 44))
  have HZ1 := Lib.hid (show True from trivial)
  have MB := Lib.hid (fun U => mayBe_c m l now U)
  have hchk : Hid (∀ (U : World), RowsAt 2 cellsTm U (.slice none 0 0) ([] : List Tm) → Calls Try.prog 12 #[.agg #[.bool false, .int .i64 0, (.slice none 0 0)]] U fun e w' => e = .returned (.int .i64 (chkS noS)) ∧ Below U.heap.size U w') := Lib.hid (fun U hr => gchk_c false 0 (.slice none 0 0) ([] : List Tm) U (by decide) hr)
  have hok : okS noS = true := by decide
  have CK := hchk
  rw [chk_yes hok] at CK
  have hapart : Apart ([] : List Tm) := Apart.of_ok hok
  have h60 : (([] : List Tm) : List Tm).length ≤ 60 := ((ok_iff _).1 hok).1
  clear hchk
  rcases Bool.eq_false_or_eq_true (mayT m l now) with hm | hm
  · rcases Bool.eq_false_or_eq_true (recT kd rs) with hr | hr
    · have HM := Lib.hid hm
      have HRC := Lib.hid hr
      rw [hm] at MB
      have hrec : 1 ≤ kd ∧ kd ≤ 6 ∧ rn ≤ 60 := by
        have := HRC.out
        unfold recT at this
        simp only [Bool.and_eq_true, decide_eq_true_iff] at this
        omega
      have hmay : 1 ≤ m ∧ m ≤ 1000000 ∧ 1 ≤ l ∧ l ≤ 1000000 ∧ 1 ≤ now ∧ now ≤ 1099511627776 := by
        have := HM.out
        unfold mayT at this
        simp only [Bool.and_eq_true, decide_eq_true_iff] at this
        omega
      obtain ⟨q1, q2, q3⟩ := hrec
      obtain ⟨m1, m2, l1, l2, o1, o2⟩ := hmay
      have EA : appS noS kd rs now m l = endA (hurP (folP false 0 ([] : List Tm) kd (ris rs) (now + m)) (now + l)) := by unfold appS; rw [if_neg (by rw [hok]; decide), if_neg (by rw [hm, hr]; decide)]; rfl
      rw [EA]
      have hrl2 : (ris rs).length ≤ 60 := Nat.le_trans (ris_len rs) (by omega)
      have hrs2 : ∀ s ∈ ris rs, s.size ≤ maxLen := fun s hs => hrs s ((ris_mem _ _).1 hs)
      obtain ⟨g1, g2, g3, g4, g5⟩ := fol_ok (ex := false) (tm := 0) (kd := kd) (e := now + m) hapart hsz hrs2
      have BG := Lib.hid (fun U (hr : RowsAt 2 cellsTm U (.slice none 0 0) ([] : List Tm)) (ha : AddrsAt U (.slice rp rn rc) rs) => begin_c false 0 (.slice none 0 0) ([] : List Tm) (.slice rp rn rc) rs U (by decide) hr (fun x hx => by cases hx) hrl ha)
      rw [entL_mk hapart] at BG
      have FO := Lib.hid (fun U c mb tv (hc : Ch U c mb false 0 tv false (.slice none 0 0) (mk ([] : List Tm))) (ha : AddrsG 0 true U tv (ris rs)) => follow_c hc hapart hsz (ris rs) ha (ris_up rs) hrs2 (by omega) kd (now + m) q1 q2)
      generalize folP false 0 ([] : List Tm) kd (ris rs) (now + m) = C at EA g1 g2 g3 g4 g5 FO ⊢
      have HU := Lib.hid (fun U c mb tv av (hc : Ch U c mb C.ex C.tm tv C.ag av (mk C.src)) (ha : AddrsAt U av C.al) => hurry_c hc C.al (now + l) (by rw [mk_len]; omega) ha g5)
      rw [mk_hurL] at HU
      have e1 : Apart (hurA C.src C.al (now + l)) := g1.hurA _
      have e2 : SzR (hurA C.src C.al (now + l)) := g2.hurA _ g5
      have e3 : (hurA C.src C.al (now + l)).length ≤ 300 := by have := hurA_len (now + l) C.al C.src; omega
      have EH : hurP C (now + l) = ⟨C.ex, if C.ag then min C.tm (now + l) else C.tm, hurA C.src C.al (now + l), C.ag, C.al⟩ := rfl
      rw [EH]
      generalize hurA C.src C.al (now + l) = R6 at HU e1 e2 e3 EH ⊢
      generalize (if C.ag then min C.tm (now + l) else C.tm) = tm6 at HU EH ⊢
      have HQ1 := Lib.hid (show 60 < R6.length → ∀ U, Below w.heap.size w U → ApPost (endA ⟨C.ex, tm6, R6, C.ag, C.al⟩) w (.returned (.tuple #[.agg #[.bool false, .int .i64 0, .slice none 0 0], .bool false, .agg #[.bool false, .slice none 0 0], .int .i64 1])) U from fun hb U k => by
        have EE : endA ⟨C.ex, tm6, R6, C.ag, C.al⟩ = noA 1 := by unfold endA; rw [if_pos hb]
        rw [EE]
        exact ⟨_, _, rfl, RowsAt.nil _, AddrsG.nil _ _ _, k⟩)
      have HQ2 := Lib.hid (show ¬ 60 < R6.length → ∀ U vs va, RowsAt 2 cellsTm U vs (staR R6) → AddrsAt U va C.al → Below w.heap.size w U → ApPost (endA ⟨C.ex, tm6, R6, C.ag, C.al⟩) w (.returned (.tuple #[.agg #[.bool C.ex, .int .i64 tm6, vs], .bool (C.ex || decide (0 < (staR R6).length)), .agg #[.bool C.ag, va], .int .i64 0])) U from fun hb U vs va h1 h2 h3 => by
        have EE : endA ⟨C.ex, tm6, R6, C.ag, C.al⟩ = ⟨⟨C.ex, tm6, staR R6⟩, C.ex || decide (0 < (staR R6).length), C.ag, C.al, 0⟩ := by unfold endA; rw [if_neg hb]
        rw [EE]
        exact ⟨vs, va, rfl, h1, h2, h3⟩)
      generalize ApPost (endA ⟨C.ex, tm6, R6, C.ag, C.al⟩) w = Q at HQ1 HQ2 ⊢
      have STA := Lib.hid (fun U c mb tv av (hc : Ch U c mb C.ex tm6 tv C.ag av (mk R6)) => state_c hc e1 e2 (by omega))
      have HSL := Lib.hid (sta_len e1)
      have d1 : decide (kd < 1) = false := decide_eq_false (by omega)
      have d2 : decide (6 < kd) = false := decide_eq_false (by omega)
      have d3 : decide (60 < (rn : Int)) = false := decide_eq_false (by omega)
      have d4 : decide (60 < rn) = false := decide_eq_false (by omega)
      have hq1 := Lib.hid (And.intro q1 q2)
      clear EA EH hok hm hr h hra hs hrs hn hrn hsz hl hrl hapart h60 hrl2 hrs2 g1 g2 g3 g4 g5 e1 e2 q1 q2 q3 HM HRC
      go_enter Try.func20, Try.ntmps20
      go_upto_region 1 with fail
      generalize ((((w.alloc (.cells #[.bool ex, .int .i64 tm, .slice p n cap] 24)).alloc (.cells #[.int .i64 kd, .string gp, .slice rp rn rc] 37)).alloc (.cells #[.int .i64 m, .int .i64 l] 39)).alloc (.cells #[.bool false, .int .i64 0, .slice none 0 0] 24)).alloc (.cells #[.bool false, .slice none 0 0] 44) = W1 at HB1 HS1 HR1 HT1 HO1 HA1 HZ1 ⊢
      have s0 : W1.cell? ⟨w.heap.size, 0, none⟩ = some (.bool ex) := cell_of_block HS1.out rfl
      have s1 : W1.cell? ⟨w.heap.size, 1, none⟩ = some (.int .i64 tm) := cell_of_block HS1.out rfl
      have s2 : W1.cell? ⟨w.heap.size, 2, none⟩ = some (.slice p n cap) := cell_of_block HS1.out rfl
      have sf := (fun j : Nat => free_of_block (j := j) HS1.out)
      go_upto_region 3 with fail
      replace HB1 := Lib.hid (((HB1.out.setCell (p := ⟨w.heap.size, 0, none⟩) (Nat.le_refl _) (.bool false)).setCell (p := ⟨w.heap.size, 1, none⟩) (Nat.le_refl _) (.int .i64 0)).setCell (p := ⟨w.heap.size, 2, none⟩) (Nat.le_refl _) (.slice none 0 0))
      replace HS1 := Lib.hid (heap_store (j := 2) (v := .slice none 0 0) (heap_store (j := 1) (v := .int .i64 0) (heap_store (j := 0) (v := .bool false) HS1.out)))
      replace HR1 := Lib.hid (heap_store_other (c := w.heap.size) (j := 2) (v := .slice none 0 0) (heap_store_other (c := w.heap.size) (j := 1) (v := .int .i64 0) (heap_store_other (c := w.heap.size) (j := 0) (v := .bool false) HR1.out (by omega)) (by omega)) (by omega))
      replace HT1 := Lib.hid (heap_store_other (c := w.heap.size) (j := 2) (v := .slice none 0 0) (heap_store_other (c := w.heap.size) (j := 1) (v := .int .i64 0) (heap_store_other (c := w.heap.size) (j := 0) (v := .bool false) HT1.out (by omega)) (by omega)) (by omega))
      replace HO1 := Lib.hid (heap_store_other (c := w.heap.size) (j := 2) (v := .slice none 0 0) (heap_store_other (c := w.heap.size) (j := 1) (v := .int .i64 0) (heap_store_other (c := w.heap.size) (j := 0) (v := .bool false) HO1.out (by omega)) (by omega)) (by omega))
      replace HA1 := Lib.hid (heap_store_other (c := w.heap.size) (j := 2) (v := .slice none 0 0) (heap_store_other (c := w.heap.size) (j := 1) (v := .int .i64 0) (heap_store_other (c := w.heap.size) (j := 0) (v := .bool false) HA1.out (by omega)) (by omega)) (by omega))
      clear s0 s1 s2 sf
      generalize ((W1.setCell ⟨w.heap.size, 0, none⟩ (.bool false)).setCell ⟨w.heap.size, 1, none⟩ (.int .i64 0)).setCell ⟨w.heap.size, 2, none⟩ (.slice none 0 0) = W1 at HB1 HS1 HR1 HT1 HO1 HA1 ⊢
      have s0 : W1.cell? ⟨w.heap.size, 0, none⟩ = some (.bool false) := cell_of_block HS1.out rfl
      have s1 : W1.cell? ⟨w.heap.size, 1, none⟩ = some (.int .i64 0) := cell_of_block HS1.out rfl
      have s2 : W1.cell? ⟨w.heap.size, 2, none⟩ = some (.slice none 0 0) := cell_of_block HS1.out rfl
      go_wp2_with fail
      ((with_reducible refine (CK.out _ (RowsAt.nil _)).mono ?_); rintro e w2 ⟨rfl, k2⟩)
      have S2 := Lib.hid (below_block k2 (lt_of_block HS1.out) HS1.out)
      have R2 := Lib.hid (below_block k2 (lt_of_block HR1.out) HR1.out)
      have T2 := Lib.hid (below_block k2 (lt_of_block HT1.out) HT1.out)
      have O2 := Lib.hid (below_block k2 (lt_of_block HO1.out) HO1.out)
      have A2 := Lib.hid (below_block k2 (lt_of_block HA1.out) HA1.out)
      have K2 := Lib.hid (gk_call HB1.out k2)
      clear s0 s1 s2 k2 HB1 HS1 HR1 HT1 HO1 HA1 HZ1 CK
      have t0 : w2.cell? ⟨w.heap.size + 1 + 1, 0, none⟩ = some (.int .i64 m) := cell_of_block T2.out rfl
      have t1 : w2.cell? ⟨w.heap.size + 1 + 1, 1, none⟩ = some (.int .i64 l) := cell_of_block T2.out rfl
      go_wp2_with fail
      ((with_reducible refine (MB.out _).mono ?_); rintro e w3 ⟨rfl, k3⟩)
      have S3 := Lib.hid (below_block k3 (lt_of_block S2.out) S2.out)
      have R3 := Lib.hid (below_block k3 (lt_of_block R2.out) R2.out)
      have T3 := Lib.hid (below_block k3 (lt_of_block T2.out) T2.out)
      have O3 := Lib.hid (below_block k3 (lt_of_block O2.out) O2.out)
      have A3 := Lib.hid (below_block k3 (lt_of_block A2.out) A2.out)
      have K3 := Lib.hid (gk_call K2.out k3)
      clear t0 t1 k3 S2 R2 T2 O2 A2 K2 MB
      have r0 : w3.cell? ⟨w.heap.size + 1, 0, none⟩ = some (.int .i64 kd) := cell_of_block R3.out rfl
      have r2 : w3.cell? ⟨w.heap.size + 1, 2, none⟩ = some (.slice rp rn rc) := cell_of_block R3.out rfl
      have s0 : w3.cell? ⟨w.heap.size, 0, none⟩ = some (.bool false) := cell_of_block S3.out rfl
      have s1 : w3.cell? ⟨w.heap.size, 1, none⟩ = some (.int .i64 0) := cell_of_block S3.out rfl
      have s2 : w3.cell? ⟨w.heap.size, 2, none⟩ = some (.slice none 0 0) := cell_of_block S3.out rfl
      go_wp2_with fail
      ((with_reducible refine (BG.out _ (RowsAt.nil _) (HRA.out.below K3.out)).mono ?_); rintro e w4 ⟨c, mb, tv, rfl, hc4, hm4, h4, a4, k4⟩)
      have S4 := Lib.hid (below_block k4 (lt_of_block S3.out) S3.out)
      have R4 := Lib.hid (below_block k4 (lt_of_block R3.out) R3.out)
      have T4 := Lib.hid (below_block k4 (lt_of_block T3.out) T3.out)
      have O4 := Lib.hid (below_block k4 (lt_of_block O3.out) O3.out)
      have A4 := Lib.hid (below_block k4 (lt_of_block A3.out) A3.out)
      have K4 := Lib.hid (gk_call K3.out k4)
      have CC := Lib.hid (And.intro hc4 hm4)
      have LT3 := Lib.hid (lt_of_block A3.out)
      have LT4 := Lib.hid (lt_of_block A4.out)
      have H4 := Lib.hid h4
      have D4 := Lib.hid (a4.mono (Nat.zero_le _) (fun h => h))
      have B4 := Lib.hid k4
      clear s0 s1 s2 r0 r2 hc4 hm4 h4 a4 k4 S3 R3 T3 O3 BG HROW HRA
      have r0 : w4.cell? ⟨w.heap.size + 1, 0, none⟩ = some (.int .i64 kd) := cell_of_block R4.out rfl
      have t0 : w4.cell? ⟨w.heap.size + 1 + 1, 0, none⟩ = some (.int .i64 m) := cell_of_block T4.out rfl
      go_wp2_with fail
      ((with_reducible refine (FO.out _ _ _ _ H4.out D4.out).mono ?_); rintro e w5 ⟨av, rfl, h5, a5, t5⟩)
      have B5 := Lib.hid (t5.below CC.out.1 CC.out.2 B4.out.size)
      have KB5 := Lib.hid (B4.out.trans B5.out)
      have H5 := Lib.hid h5
      have D5 := Lib.hid a5
      have C5 := Lib.hid (show w3.heap.size ≤ w5.heap.size from KB5.out.size)
      have TK5 := Lib.hid t5
      clear r0 t0 h5 a5 t5 H4 D4 FO
      have T5 := Lib.hid (show w5.heap[w.heap.size + 1 + 1]? = some (.cells #[.int .i64 m, .int .i64 l] 39 (0, 0)) from (B5.out.block _ (by have := LT3.out; omega)).trans T4.out)
      have O5 := Lib.hid (show w5.heap[w.heap.size + 1 + 1 + 1]? = some (.cells #[.bool false, .int .i64 0, .slice none 0 0] 24 (0, 0)) from (B5.out.block _ (by have := LT3.out; omega)).trans O4.out)
      have A5 := Lib.hid (show w5.heap[w.heap.size + 1 + 1 + 1 + 1]? = some (.cells #[.bool false, .slice none 0 0] 44 (0, 0)) from (B5.out.block _ (by have := LT3.out; omega)).trans A4.out)
      have t1 : w5.cell? ⟨w.heap.size + 1 + 1, 1, none⟩ = some (.int .i64 l) := cell_of_block T5.out rfl
      clear S4 R4 T4 O4 A4
      go_wp2_with fail
      ((with_reducible refine (HU.out _ _ _ _ _ H5.out D5.out.at).mono ?_); rintro e w6 ⟨rfl, h6, t6⟩)
      have B6 := Lib.hid (t6.below CC.out.1 CC.out.2 C5.out)
      have O6 := Lib.hid (show w6.heap[w.heap.size + 1 + 1 + 1]? = some (.cells #[.bool false, .int .i64 0, .slice none 0 0] 24 (0, 0)) from (B6.out.block _ (by have := LT3.out; omega)).trans O5.out)
      have A6 := Lib.hid (show w6.heap[w.heap.size + 1 + 1 + 1 + 1]? = some (.cells #[.bool false, .slice none 0 0] 44 (0, 0)) from (B6.out.block _ (by have := LT3.out; omega)).trans A5.out)
      have D6 := Lib.hid (ad_tw D5.out H5.out t6)
      have H6 := Lib.hid h6
      have K6 := Lib.hid (K3.out.trans ((KB5.out.trans B6.out).mono K3.out.size))
      have c2 := H6.out.c2
      have hm6 := Lib.hid H6.out.2
      clear t1 t6 h6 H5 D5 HU T5 O5 A5 TK5 B5 B4
      by_cases hbig : 60 < R6.length
      · have d5 : decide (60 < ((mk R6).length : Int)) = true := decide_eq_true (by rw [mk_len]; omega)
        have d6 : decide (60 < (mk R6).length) = true := decide_eq_true (by rw [mk_len]; omega)
        have HQ := Lib.hid (HQ1.out hbig)
        clear hbig HQ1 HQ2
        generalize mk R6 = L6 at hm6 H6 d5 d6 STA
        go_upto_region 12 with (first | (at_len; refine wpList_len_mp _ rfl _ 69 rfl 25 3 und_MA mb L6 rfl hm6.out ?_) | go_in)
        have o0 : w6.cell? ⟨w.heap.size + 1 + 1 + 1, 0, none⟩ = some (.bool false) := cell_of_block O6.out rfl
        have o1 : w6.cell? ⟨w.heap.size + 1 + 1 + 1, 1, none⟩ = some (.int .i64 0) := cell_of_block O6.out rfl
        have o2 : w6.cell? ⟨w.heap.size + 1 + 1 + 1, 2, none⟩ = some (.slice none 0 0) := cell_of_block O6.out rfl
        have a0 : w6.cell? ⟨w.heap.size + 1 + 1 + 1 + 1, 0, none⟩ = some (.bool false) := cell_of_block A6.out rfl
        have a1 : w6.cell? ⟨w.heap.size + 1 + 1 + 1 + 1, 1, none⟩ = some (.slice none 0 0) := cell_of_block A6.out rfl
        have of := (fun j : Nat => free_of_block (j := j) O6.out)
        have af := (fun j : Nat => free_of_block (j := j) A6.out)
        have HZ := Lib.hid (heap_store_other (c := w.heap.size + 1 + 1 + 1 + 1) (j := 1) (v := .slice none 0 0) (heap_store_other (c := w.heap.size + 1 + 1 + 1 + 1) (j := 0) (v := .bool false) (heap_store (j := 2) (v := .slice none 0 0) (heap_store (j := 1) (v := .int .i64 0) (heap_store (j := 0) (v := .bool false) O6.out))) (by omega)) (by omega))
        have HY := Lib.hid (heap_store (j := 1) (v := .slice none 0 0) (heap_store (j := 0) (v := .bool false) (heap_store_other (c := w.heap.size + 1 + 1 + 1) (j := 2) (v := .slice none 0 0) (heap_store_other (c := w.heap.size + 1 + 1 + 1) (j := 1) (v := .int .i64 0) (heap_store_other (c := w.heap.size + 1 + 1 + 1) (j := 0) (v := .bool false) A6.out (by omega)) (by omega)) (by omega))))
        have KZ := Lib.hid (((((K6.out.setCell (p := ⟨w.heap.size + 1 + 1 + 1, 0, none⟩) (show w.heap.size ≤ w.heap.size + 1 + 1 + 1 by omega) (.bool false)).setCell (p := ⟨w.heap.size + 1 + 1 + 1, 1, none⟩) (show w.heap.size ≤ w.heap.size + 1 + 1 + 1 by omega) (.int .i64 0)).setCell (p := ⟨w.heap.size + 1 + 1 + 1, 2, none⟩) (show w.heap.size ≤ w.heap.size + 1 + 1 + 1 by omega) (.slice none 0 0)).setCell (p := ⟨w.heap.size + 1 + 1 + 1 + 1, 0, none⟩) (show w.heap.size ≤ w.heap.size + 1 + 1 + 1 + 1 by omega) (.bool false)).setCell (p := ⟨w.heap.size + 1 + 1 + 1 + 1, 1, none⟩) (show w.heap.size ≤ w.heap.size + 1 + 1 + 1 + 1 by omega) (.slice none 0 0))
        go_wp2_with fail
        have z0 := cell_of_block (j := 0) HZ.out rfl
        have z1 := cell_of_block (j := 1) HZ.out rfl
        have z2 := cell_of_block (j := 2) HZ.out rfl
        have y0 := cell_of_block (j := 0) HY.out rfl
        have y1 := cell_of_block (j := 1) HY.out rfl
        exact bodyPost_ret (v := .tuple #[.agg #[.bool false, .int .i64 0, .slice none 0 0], .bool false, .agg #[.bool false, .slice none 0 0], .int .i64 1]) (by simp [results, Try.results20, go_sem, z0, z1, z2, y0, y1]) rfl (HQ.out _ KZ.out)
      · have d5 : decide (60 < ((mk R6).length : Int)) = false := decide_eq_false (by rw [mk_len]; omega)
        have d6 : decide (60 < (mk R6).length) = false := decide_eq_false (by rw [mk_len]; omega)
        have HQ := Lib.hid (HQ2.out hbig)
        clear HQ1 HQ2
        unfold SPost at STA
        generalize staR R6 = sl6 at HQ STA HSL
        clear hbig
        generalize mk R6 = L6 at hm6 H6 d5 d6 STA
        generalize C.ex = cex at H6 HQ STA
        generalize C.ag = cag at H6 HQ STA
        generalize C.al = cal at D6 HQ
        go_upto_region 13 with (first | (at_len; refine wpList_len_mp _ rfl _ 69 rfl 25 3 und_MA mb L6 rfl hm6.out ?_) | go_in)
        go_wp2_with fail
        ((with_reducible refine (STA.out _ _ _ _ _ H6.out).mono ?_); rintro e w7 ⟨vs, ml, rfl, r7, k7⟩)
        have HRW := Lib.hid (rowsAt_own (by decide) tm_len r7)
        obtain ⟨p8, c8, rfl⟩ := HRW.out.slice
        have HML := Lib.hid (show ml = sl6.length from by have e1 := g_slice r7; obtain ⟨p9, c9, e9⟩ := e1; injection e9 with _ e2; exact e2.symm)
        have G7 := Lib.hid r7
        have L6w := Lib.hid (show w.heap.size + 1 + 1 + 1 + 1 < w6.heap.size from lt_of_block A6.out)
        have k8 := k7.trans ((Below.refl _ w7).mono k7.size) 
        have W8b := Lib.hid (show Below w6.heap.size w6 (w7.alloc (.cells #[.bool cex, .int .i64 tm6, .slice p8 sl6.length c8] 24)) from k7.alloc k7.size _)
        have V8 := Lib.hid (heap_new w7 (.cells #[.bool cex, .int .i64 tm6, .slice p8 sl6.length c8] 24))
        have G8 := Lib.hid (r7.alloc (.cells #[.bool cex, .int .i64 tm6, .slice p8 sl6.length c8] 24))
        have hvb := Lib.hid (show w6.heap.size ≤ w7.heap.size from k7.size)
        clear r7 k7 k8 HRW STA c2 hm6
        go_upto_region 14 with fail
        generalize w7.alloc (.cells #[.bool cex, .int .i64 tm6, .slice p8 sl6.length c8] 24) = W8 at W8b V8 G8 ⊢
        generalize w7.heap.size = vb at V8 hvb ⊢
        have H8 := Lib.hid (H6.out.below W8b.out)
        have O8 := Lib.hid (below_block W8b.out (lt_of_block O6.out) O6.out)
        have A8 := Lib.hid (below_block W8b.out (lt_of_block A6.out) A6.out)
        have D8 := Lib.hid (D6.out.below W8b.out)
        have K8 := Lib.hid (gk_call K6.out W8b.out)
        have NV := Lib.hid (show w.heap.size + 1 + 1 + 1 ≠ vb ∧ w.heap.size + 1 + 1 + 1 + 1 ≠ vb from by have h1 := L6w.out; have h2 := hvb.out; omega)
        have NC := Lib.hid (show w.heap.size + 1 + 1 + 1 ≠ c ∧ w.heap.size + 1 + 1 + 1 + 1 ≠ c from by have h1 := LT3.out; have h2 := CC.out.1; omega)
        clear H6 O6 A6 D6 K6
        obtain ⟨pa, ca, hav⟩ := D8.out.slice
        subst hav
        have k0 := Below.refl W8.heap.size W8
        have KF := Lib.hid (show ∀ U, Below W8.heap.size W8 U → (U.cell? ⟨vb, 0, none⟩ = some (.bool cex) ∧ U.cell? ⟨vb, 1, none⟩ = some (.int .i64 tm6) ∧ U.cell? ⟨vb, 2, none⟩ = some (.slice p8 sl6.length c8) ∧ U.cell? ⟨c, 4, none⟩ = some (.bool cag) ∧ U.cell? ⟨c, 5, none⟩ = some (.slice pa cal.length ca)) from fun U kk => ⟨cell_of_block (below_block kk (lt_of_block V8.out) V8.out) rfl, cell_of_block (below_block kk (lt_of_block V8.out) V8.out) rfl, cell_of_block (below_block kk (lt_of_block V8.out) V8.out) rfl, (H8.out.below kk).c4, (H8.out.below kk).c5⟩)
        have FAR := Lib.hid (show ∀ (U : World) (t j : Nat) (u : Value), t ≠ vb → t ≠ c → (U.cell? ⟨vb, 0, none⟩ = some (.bool cex) ∧ U.cell? ⟨vb, 1, none⟩ = some (.int .i64 tm6) ∧ U.cell? ⟨vb, 2, none⟩ = some (.slice p8 sl6.length c8) ∧ U.cell? ⟨c, 4, none⟩ = some (.bool cag) ∧ U.cell? ⟨c, 5, none⟩ = some (.slice pa cal.length ca)) → ((U.setCell ⟨t, j, none⟩ u).cell? ⟨vb, 0, none⟩ = some (.bool cex) ∧ (U.setCell ⟨t, j, none⟩ u).cell? ⟨vb, 1, none⟩ = some (.int .i64 tm6) ∧ (U.setCell ⟨t, j, none⟩ u).cell? ⟨vb, 2, none⟩ = some (.slice p8 sl6.length c8) ∧ (U.setCell ⟨t, j, none⟩ u).cell? ⟨c, 4, none⟩ = some (.bool cag) ∧ (U.setCell ⟨t, j, none⟩ u).cell? ⟨c, 5, none⟩ = some (.slice pa cal.length ca)) from fun U t j u n1 n2 h => ⟨g_cell h.1 (Ne.symm n1), g_cell h.2.1 (Ne.symm n1), g_cell h.2.2.1 (Ne.symm n1), g_cell h.2.2.2.1 (Ne.symm n2), g_cell h.2.2.2.2 (Ne.symm n2)⟩)
        have v0 := (KF.out _ k0).1
        have v1 := (KF.out _ k0).2.1
        have v2 := (KF.out _ k0).2.2.1
        have v4 := (KF.out _ k0).2.2.2.1
        have v5 := (KF.out _ k0).2.2.2.2
        go_region_held3 (fun U => U.cell? ⟨vb, 0, none⟩ = some (.bool cex) ∧ U.cell? ⟨vb, 1, none⟩ = some (.int .i64 tm6) ∧ U.cell? ⟨vb, 2, none⟩ = some (.slice p8 sl6.length c8) ∧ U.cell? ⟨c, 4, none⟩ = some (.bool cag) ∧ U.cell? ⟨c, 5, none⟩ = some (.slice pa cal.length ca))
          (first
            | with_reducible exact KF.out _ k9
            | with_reducible exact FAR.out _ _ _ _ NV.out.1 NC.out.1 (FAR.out _ _ _ _ NV.out.1 NC.out.1 (FAR.out _ _ _ _ NV.out.1 NC.out.1 (KF.out _ k9)))
            | with_reducible exact FAR.out _ _ _ _ NV.out.2 NC.out.2 (FAR.out _ _ _ _ NV.out.2 NC.out.2 (FAR.out _ _ _ _ NV.out.1 NC.out.1 (FAR.out _ _ _ _ NV.out.1 NC.out.1 (FAR.out _ _ _ _ NV.out.1 NC.out.1 (KF.out _ k9)))))
            | with_reducible exact FAR.out _ _ _ _ NV.out.2 NC.out.2 (FAR.out _ _ _ _ NV.out.2 NC.out.2 (KF.out _ k9))
            | with_reducible exact FAR.out _ _ _ _ NV.out.1 NC.out.1 (FAR.out _ _ _ _ NV.out.1 NC.out.1 (FAR.out _ _ _ _ NV.out.1 NC.out.1 (FAR.out _ _ _ _ NV.out.2 NC.out.2 (FAR.out _ _ _ _ NV.out.2 NC.out.2 (KF.out _ k9)))))
            | with_reducible exact KF.out _ k0.drew)
          (first
            | (go_at_call 26; (with_reducible refine (isAny_c _ _ _ _ _ _).mono ?_); rintro e w9 ⟨rfl, h9⟩; have k9 := gk_call k0.drew h9; have O9 := below_block k9 (lt_of_block O8.out) O8.out; have A9 := below_block k9 (lt_of_block A8.out) A8.out; have o0 := cell_of_block (j := 0) O9 rfl; have o1 := cell_of_block (j := 1) O9 rfl; have o2 := cell_of_block (j := 2) O9 rfl; have a0 := cell_of_block (j := 0) A9 rfl; have a1 := cell_of_block (j := 1) A9 rfl; have of := (fun j : Nat => free_of_block (j := j) O9); have af := (fun j : Nat => free_of_block (j := j) A9)))
        rename_i hh
        clear hh v0 v1 v2 v4 v5 o0 o1 o2 a0 a1 of af
        have P9 := Lib.hid O9
        have Q9 := Lib.hid A9
        have K9 := Lib.hid (gk_call K8.out k9)
        have G9 := Lib.hid (g_below G8.out k9)
        have D9 := Lib.hid (D8.out.below k9)
        have t1 := heap_store (j := 0) (v := .bool cex) P9.out
        have t2 := heap_store (j := 1) (v := .int .i64 tm6) t1
        have t3 := heap_store (j := 2) (v := .slice p8 sl6.length c8) t2
        have u0 := heap_store_other (c := w.heap.size + 1 + 1 + 1) (j := 2) (v := .slice p8 sl6.length c8) (heap_store_other (c := w.heap.size + 1 + 1 + 1) (j := 1) (v := .int .i64 tm6) (heap_store_other (c := w.heap.size + 1 + 1 + 1) (j := 0) (v := .bool cex) Q9.out (by omega)) (by omega)) (by omega)
        have u1 := heap_store (j := 0) (v := .bool cag) u0
        have RWF := Lib.hid (rowsAt_own (by decide) tm_len (g_set (j := 1) (u := .slice pa cal.length ca) (g_set (j := 0) (u := .bool cag) (g_set (j := 2) (u := .slice p8 sl6.length c8) (g_set (j := 1) (u := .int .i64 tm6) (g_set (j := 0) (u := .bool cex) G9.out P9.out (by decide)) t1 (by decide)) t2 (by decide)) u0 (by decide)) u1 (by decide)))
        have ADF := Lib.hid ((((((D9.out.store (c := w.heap.size + 1 + 1 + 1) (j := 0) (u := .bool cex) (by have := LT4.out; omega)).store (c := w.heap.size + 1 + 1 + 1) (j := 1) (u := .int .i64 tm6) (by have := LT4.out; omega)).store (c := w.heap.size + 1 + 1 + 1) (j := 2) (u := .slice p8 sl6.length c8) (by have := LT4.out; omega)).store (c := w.heap.size + 1 + 1 + 1 + 1) (j := 0) (u := .bool cag) (by have := LT4.out; omega)).store (c := w.heap.size + 1 + 1 + 1 + 1) (j := 1) (u := .slice pa cal.length ca) (by have := LT4.out; omega)).at)
        clear O9 A9 k9 h9 t1 t2 t3 u0 u1
        have o0 : w9.cell? ⟨w.heap.size + 1 + 1 + 1, 0, none⟩ = some (.bool false) := cell_of_block P9.out rfl
        have o1 : w9.cell? ⟨w.heap.size + 1 + 1 + 1, 1, none⟩ = some (.int .i64 0) := cell_of_block P9.out rfl
        have o2 : w9.cell? ⟨w.heap.size + 1 + 1 + 1, 2, none⟩ = some (.slice none 0 0) := cell_of_block P9.out rfl
        have a0 : w9.cell? ⟨w.heap.size + 1 + 1 + 1 + 1, 0, none⟩ = some (.bool false) := cell_of_block Q9.out rfl
        have a1 : w9.cell? ⟨w.heap.size + 1 + 1 + 1 + 1, 1, none⟩ = some (.slice none 0 0) := cell_of_block Q9.out rfl
        have of := (fun j : Nat => free_of_block (j := j) P9.out)
        have af := (fun j : Nat => free_of_block (j := j) Q9.out)
        have HZ := Lib.hid (heap_store_other (c := w.heap.size + 1 + 1 + 1 + 1) (j := 1) (v := .slice pa cal.length ca) (heap_store_other (c := w.heap.size + 1 + 1 + 1 + 1) (j := 0) (v := .bool cag) (heap_store (j := 2) (v := .slice p8 sl6.length c8) (heap_store (j := 1) (v := .int .i64 tm6) (heap_store (j := 0) (v := .bool cex) P9.out))) (by omega)) (by omega))
        have HY := Lib.hid (heap_store (j := 1) (v := .slice pa cal.length ca) (heap_store (j := 0) (v := .bool cag) (heap_store_other (c := w.heap.size + 1 + 1 + 1) (j := 2) (v := .slice p8 sl6.length c8) (heap_store_other (c := w.heap.size + 1 + 1 + 1) (j := 1) (v := .int .i64 tm6) (heap_store_other (c := w.heap.size + 1 + 1 + 1) (j := 0) (v := .bool cex) Q9.out (by omega)) (by omega)) (by omega))))
        have KZ := Lib.hid (((((K9.out.setCell (p := ⟨w.heap.size + 1 + 1 + 1, 0, none⟩) (show w.heap.size ≤ w.heap.size + 1 + 1 + 1 by omega) (.bool cex)).setCell (p := ⟨w.heap.size + 1 + 1 + 1, 1, none⟩) (show w.heap.size ≤ w.heap.size + 1 + 1 + 1 by omega) (.int .i64 tm6)).setCell (p := ⟨w.heap.size + 1 + 1 + 1, 2, none⟩) (show w.heap.size ≤ w.heap.size + 1 + 1 + 1 by omega) (.slice p8 sl6.length c8)).setCell (p := ⟨w.heap.size + 1 + 1 + 1 + 1, 0, none⟩) (show w.heap.size ≤ w.heap.size + 1 + 1 + 1 + 1 by omega) (.bool cag)).setCell (p := ⟨w.heap.size + 1 + 1 + 1 + 1, 1, none⟩) (show w.heap.size ≤ w.heap.size + 1 + 1 + 1 + 1 by omega) (.slice pa cal.length ca))
        go_wp2_with fail
        have z0 := cell_of_block (j := 0) HZ.out rfl
        have z1 := cell_of_block (j := 1) HZ.out rfl
        have z2 := cell_of_block (j := 2) HZ.out rfl
        have y0 := cell_of_block (j := 0) HY.out rfl
        have y1 := cell_of_block (j := 1) HY.out rfl
        exact bodyPost_ret (v := .tuple #[.agg #[.bool cex, .int .i64 tm6, .slice p8 sl6.length c8], .bool (cex || decide (0 < sl6.length)), .agg #[.bool cag, .slice pa cal.length ca], .int .i64 0]) (by simp [results, Try.results20, go_sem, z0, z1, z2, y0, y1]) rfl (HQ.out _ _ _ RWF.out ADF.out KZ.out)
    · have EA : appS noS kd rs now m l = noA 1 := by unfold appS; rw [if_neg (by rw [hok]; decide), if_pos (by rw [hm, hr]; rfl)]
      rw [EA]
      rw [hm] at MB
      have HQ := Lib.hid (show ∀ U, Below w.heap.size w U → ApPost (noA 1) w (.returned (.tuple #[.agg #[.bool false, .int .i64 0, .slice none 0 0], .bool false, .agg #[.bool false, .slice none 0 0], .int .i64 1])) U from fun U k => ⟨_, _, rfl, RowsAt.nil _, AddrsG.nil _ _ _, k⟩)
      generalize ApPost (noA 1) w = Q at HQ ⊢
      have hcase : kd < 1 ∨ (1 ≤ kd ∧ 6 < kd) ∨ (1 ≤ kd ∧ kd ≤ 6 ∧ 60 < rn) := by
        unfold recT at hr
        by_cases q1 : 1 ≤ kd
        · by_cases q2 : kd ≤ 6
          · rw [decide_eq_true q1, decide_eq_true q2, Bool.true_and, Bool.true_and, decide_eq_false_iff_not] at hr
            exact .inr (.inr ⟨q1, q2, by omega⟩)
          · exact .inr (.inl ⟨q1, by omega⟩)
        · exact .inl (by omega)
      clear EA hok hm hr h hra hs hrs hn hrn hsz hl hrl hapart h60
      rcases hcase with q | q | q
      · have d1 : decide (kd < 1) = true := decide_eq_true q
        clear q
        go_enter Try.func20, Try.ntmps20
        go_upto_region 1 with fail
        generalize ((((w.alloc (.cells #[.bool ex, .int .i64 tm, .slice p n cap] 24)).alloc (.cells #[.int .i64 kd, .string gp, .slice rp rn rc] 37)).alloc (.cells #[.int .i64 m, .int .i64 l] 39)).alloc (.cells #[.bool false, .int .i64 0, .slice none 0 0] 24)).alloc (.cells #[.bool false, .slice none 0 0] 44) = W1 at HB1 HS1 HR1 HT1 HO1 HA1 HZ1 ⊢
        have s0 : W1.cell? ⟨w.heap.size, 0, none⟩ = some (.bool ex) := cell_of_block HS1.out rfl
        have s1 : W1.cell? ⟨w.heap.size, 1, none⟩ = some (.int .i64 tm) := cell_of_block HS1.out rfl
        have s2 : W1.cell? ⟨w.heap.size, 2, none⟩ = some (.slice p n cap) := cell_of_block HS1.out rfl
        have sf := (fun j : Nat => free_of_block (j := j) HS1.out)
        go_upto_region 3 with fail
        replace HB1 := Lib.hid (((HB1.out.setCell (p := ⟨w.heap.size, 0, none⟩) (Nat.le_refl _) (.bool false)).setCell (p := ⟨w.heap.size, 1, none⟩) (Nat.le_refl _) (.int .i64 0)).setCell (p := ⟨w.heap.size, 2, none⟩) (Nat.le_refl _) (.slice none 0 0))
        replace HS1 := Lib.hid (heap_store (j := 2) (v := .slice none 0 0) (heap_store (j := 1) (v := .int .i64 0) (heap_store (j := 0) (v := .bool false) HS1.out)))
        replace HR1 := Lib.hid (heap_store_other (c := w.heap.size) (j := 2) (v := .slice none 0 0) (heap_store_other (c := w.heap.size) (j := 1) (v := .int .i64 0) (heap_store_other (c := w.heap.size) (j := 0) (v := .bool false) HR1.out (by omega)) (by omega)) (by omega))
        replace HT1 := Lib.hid (heap_store_other (c := w.heap.size) (j := 2) (v := .slice none 0 0) (heap_store_other (c := w.heap.size) (j := 1) (v := .int .i64 0) (heap_store_other (c := w.heap.size) (j := 0) (v := .bool false) HT1.out (by omega)) (by omega)) (by omega))
        replace HO1 := Lib.hid (heap_store_other (c := w.heap.size) (j := 2) (v := .slice none 0 0) (heap_store_other (c := w.heap.size) (j := 1) (v := .int .i64 0) (heap_store_other (c := w.heap.size) (j := 0) (v := .bool false) HO1.out (by omega)) (by omega)) (by omega))
        replace HA1 := Lib.hid (heap_store_other (c := w.heap.size) (j := 2) (v := .slice none 0 0) (heap_store_other (c := w.heap.size) (j := 1) (v := .int .i64 0) (heap_store_other (c := w.heap.size) (j := 0) (v := .bool false) HA1.out (by omega)) (by omega)) (by omega))
        clear s0 s1 s2 sf
        generalize ((W1.setCell ⟨w.heap.size, 0, none⟩ (.bool false)).setCell ⟨w.heap.size, 1, none⟩ (.int .i64 0)).setCell ⟨w.heap.size, 2, none⟩ (.slice none 0 0) = W1 at HB1 HS1 HR1 HT1 HO1 HA1 ⊢
        have s0 : W1.cell? ⟨w.heap.size, 0, none⟩ = some (.bool false) := cell_of_block HS1.out rfl
        have s1 : W1.cell? ⟨w.heap.size, 1, none⟩ = some (.int .i64 0) := cell_of_block HS1.out rfl
        have s2 : W1.cell? ⟨w.heap.size, 2, none⟩ = some (.slice none 0 0) := cell_of_block HS1.out rfl
        go_wp2_with fail
        ((with_reducible refine (CK.out _ (RowsAt.nil _)).mono ?_); rintro e w2 ⟨rfl, k2⟩)
        have S2 := Lib.hid (below_block k2 (lt_of_block HS1.out) HS1.out)
        have R2 := Lib.hid (below_block k2 (lt_of_block HR1.out) HR1.out)
        have T2 := Lib.hid (below_block k2 (lt_of_block HT1.out) HT1.out)
        have O2 := Lib.hid (below_block k2 (lt_of_block HO1.out) HO1.out)
        have A2 := Lib.hid (below_block k2 (lt_of_block HA1.out) HA1.out)
        have K2 := Lib.hid (gk_call HB1.out k2)
        clear s0 s1 s2 k2 HB1 HS1 HR1 HT1 HO1 HA1 HZ1 CK
        have t0 : w2.cell? ⟨w.heap.size + 1 + 1, 0, none⟩ = some (.int .i64 m) := cell_of_block T2.out rfl
        have t1 : w2.cell? ⟨w.heap.size + 1 + 1, 1, none⟩ = some (.int .i64 l) := cell_of_block T2.out rfl
        go_wp2_with fail
        ((with_reducible refine (MB.out _).mono ?_); rintro e w3 ⟨rfl, k3⟩)
        have S3 := Lib.hid (below_block k3 (lt_of_block S2.out) S2.out)
        have R3 := Lib.hid (below_block k3 (lt_of_block R2.out) R2.out)
        have T3 := Lib.hid (below_block k3 (lt_of_block T2.out) T2.out)
        have O3 := Lib.hid (below_block k3 (lt_of_block O2.out) O2.out)
        have A3 := Lib.hid (below_block k3 (lt_of_block A2.out) A2.out)
        have K3 := Lib.hid (gk_call K2.out k3)
        clear t0 t1 k3 S2 R2 T2 O2 A2 K2 MB
        have r0 : w3.cell? ⟨w.heap.size + 1, 0, none⟩ = some (.int .i64 kd) := cell_of_block R3.out rfl
        have r2 : w3.cell? ⟨w.heap.size + 1, 2, none⟩ = some (.slice rp rn rc) := cell_of_block R3.out rfl
        have o0 : w3.cell? ⟨w.heap.size + 1 + 1 + 1, 0, none⟩ = some (.bool false) := cell_of_block O3.out rfl
        have o1 : w3.cell? ⟨w.heap.size + 1 + 1 + 1, 1, none⟩ = some (.int .i64 0) := cell_of_block O3.out rfl
        have o2 : w3.cell? ⟨w.heap.size + 1 + 1 + 1, 2, none⟩ = some (.slice none 0 0) := cell_of_block O3.out rfl
        have a0 : w3.cell? ⟨w.heap.size + 1 + 1 + 1 + 1, 0, none⟩ = some (.bool false) := cell_of_block A3.out rfl
        have a1 : w3.cell? ⟨w.heap.size + 1 + 1 + 1 + 1, 1, none⟩ = some (.slice none 0 0) := cell_of_block A3.out rfl
        have of := (fun j : Nat => free_of_block (j := j) O3.out)
        have af := (fun j : Nat => free_of_block (j := j) A3.out)
        have HZ := Lib.hid (heap_store_other (c := w.heap.size + 1 + 1 + 1 + 1) (j := 1) (v := .slice none 0 0) (heap_store_other (c := w.heap.size + 1 + 1 + 1 + 1) (j := 0) (v := .bool false) (heap_store (j := 2) (v := .slice none 0 0) (heap_store (j := 1) (v := .int .i64 0) (heap_store (j := 0) (v := .bool false) O3.out))) (by omega)) (by omega))
        have HY := Lib.hid (heap_store (j := 1) (v := .slice none 0 0) (heap_store (j := 0) (v := .bool false) (heap_store_other (c := w.heap.size + 1 + 1 + 1) (j := 2) (v := .slice none 0 0) (heap_store_other (c := w.heap.size + 1 + 1 + 1) (j := 1) (v := .int .i64 0) (heap_store_other (c := w.heap.size + 1 + 1 + 1) (j := 0) (v := .bool false) A3.out (by omega)) (by omega)) (by omega))))
        have KZ := Lib.hid (((((K3.out.setCell (p := ⟨w.heap.size + 1 + 1 + 1, 0, none⟩) (show w.heap.size ≤ w.heap.size + 1 + 1 + 1 by omega) (.bool false)).setCell (p := ⟨w.heap.size + 1 + 1 + 1, 1, none⟩) (show w.heap.size ≤ w.heap.size + 1 + 1 + 1 by omega) (.int .i64 0)).setCell (p := ⟨w.heap.size + 1 + 1 + 1, 2, none⟩) (show w.heap.size ≤ w.heap.size + 1 + 1 + 1 by omega) (.slice none 0 0)).setCell (p := ⟨w.heap.size + 1 + 1 + 1 + 1, 0, none⟩) (show w.heap.size ≤ w.heap.size + 1 + 1 + 1 + 1 by omega) (.bool false)).setCell (p := ⟨w.heap.size + 1 + 1 + 1 + 1, 1, none⟩) (show w.heap.size ≤ w.heap.size + 1 + 1 + 1 + 1 by omega) (.slice none 0 0))
        go_wp2_with fail
        have z0 := cell_of_block (j := 0) HZ.out rfl
        have z1 := cell_of_block (j := 1) HZ.out rfl
        have z2 := cell_of_block (j := 2) HZ.out rfl
        have y0 := cell_of_block (j := 0) HY.out rfl
        have y1 := cell_of_block (j := 1) HY.out rfl
        exact bodyPost_ret (v := .tuple #[.agg #[.bool false, .int .i64 0, .slice none 0 0], .bool false, .agg #[.bool false, .slice none 0 0], .int .i64 1]) (by simp [results, Try.results20, go_sem, z0, z1, z2, y0, y1]) rfl (HQ.out _ KZ.out)
      · have d1 : decide (kd < 1) = false := decide_eq_false (by omega)
        have d2 : decide (6 < kd) = true := decide_eq_true q.2
        clear q
        go_enter Try.func20, Try.ntmps20
        go_upto_region 1 with fail
        generalize ((((w.alloc (.cells #[.bool ex, .int .i64 tm, .slice p n cap] 24)).alloc (.cells #[.int .i64 kd, .string gp, .slice rp rn rc] 37)).alloc (.cells #[.int .i64 m, .int .i64 l] 39)).alloc (.cells #[.bool false, .int .i64 0, .slice none 0 0] 24)).alloc (.cells #[.bool false, .slice none 0 0] 44) = W1 at HB1 HS1 HR1 HT1 HO1 HA1 HZ1 ⊢
        have s0 : W1.cell? ⟨w.heap.size, 0, none⟩ = some (.bool ex) := cell_of_block HS1.out rfl
        have s1 : W1.cell? ⟨w.heap.size, 1, none⟩ = some (.int .i64 tm) := cell_of_block HS1.out rfl
        have s2 : W1.cell? ⟨w.heap.size, 2, none⟩ = some (.slice p n cap) := cell_of_block HS1.out rfl
        have sf := (fun j : Nat => free_of_block (j := j) HS1.out)
        go_upto_region 3 with fail
        replace HB1 := Lib.hid (((HB1.out.setCell (p := ⟨w.heap.size, 0, none⟩) (Nat.le_refl _) (.bool false)).setCell (p := ⟨w.heap.size, 1, none⟩) (Nat.le_refl _) (.int .i64 0)).setCell (p := ⟨w.heap.size, 2, none⟩) (Nat.le_refl _) (.slice none 0 0))
        replace HS1 := Lib.hid (heap_store (j := 2) (v := .slice none 0 0) (heap_store (j := 1) (v := .int .i64 0) (heap_store (j := 0) (v := .bool false) HS1.out)))
        replace HR1 := Lib.hid (heap_store_other (c := w.heap.size) (j := 2) (v := .slice none 0 0) (heap_store_other (c := w.heap.size) (j := 1) (v := .int .i64 0) (heap_store_other (c := w.heap.size) (j := 0) (v := .bool false) HR1.out (by omega)) (by omega)) (by omega))
        replace HT1 := Lib.hid (heap_store_other (c := w.heap.size) (j := 2) (v := .slice none 0 0) (heap_store_other (c := w.heap.size) (j := 1) (v := .int .i64 0) (heap_store_other (c := w.heap.size) (j := 0) (v := .bool false) HT1.out (by omega)) (by omega)) (by omega))
        replace HO1 := Lib.hid (heap_store_other (c := w.heap.size) (j := 2) (v := .slice none 0 0) (heap_store_other (c := w.heap.size) (j := 1) (v := .int .i64 0) (heap_store_other (c := w.heap.size) (j := 0) (v := .bool false) HO1.out (by omega)) (by omega)) (by omega))
        replace HA1 := Lib.hid (heap_store_other (c := w.heap.size) (j := 2) (v := .slice none 0 0) (heap_store_other (c := w.heap.size) (j := 1) (v := .int .i64 0) (heap_store_other (c := w.heap.size) (j := 0) (v := .bool false) HA1.out (by omega)) (by omega)) (by omega))
        clear s0 s1 s2 sf
        generalize ((W1.setCell ⟨w.heap.size, 0, none⟩ (.bool false)).setCell ⟨w.heap.size, 1, none⟩ (.int .i64 0)).setCell ⟨w.heap.size, 2, none⟩ (.slice none 0 0) = W1 at HB1 HS1 HR1 HT1 HO1 HA1 ⊢
        have s0 : W1.cell? ⟨w.heap.size, 0, none⟩ = some (.bool false) := cell_of_block HS1.out rfl
        have s1 : W1.cell? ⟨w.heap.size, 1, none⟩ = some (.int .i64 0) := cell_of_block HS1.out rfl
        have s2 : W1.cell? ⟨w.heap.size, 2, none⟩ = some (.slice none 0 0) := cell_of_block HS1.out rfl
        go_wp2_with fail
        ((with_reducible refine (CK.out _ (RowsAt.nil _)).mono ?_); rintro e w2 ⟨rfl, k2⟩)
        have S2 := Lib.hid (below_block k2 (lt_of_block HS1.out) HS1.out)
        have R2 := Lib.hid (below_block k2 (lt_of_block HR1.out) HR1.out)
        have T2 := Lib.hid (below_block k2 (lt_of_block HT1.out) HT1.out)
        have O2 := Lib.hid (below_block k2 (lt_of_block HO1.out) HO1.out)
        have A2 := Lib.hid (below_block k2 (lt_of_block HA1.out) HA1.out)
        have K2 := Lib.hid (gk_call HB1.out k2)
        clear s0 s1 s2 k2 HB1 HS1 HR1 HT1 HO1 HA1 HZ1 CK
        have t0 : w2.cell? ⟨w.heap.size + 1 + 1, 0, none⟩ = some (.int .i64 m) := cell_of_block T2.out rfl
        have t1 : w2.cell? ⟨w.heap.size + 1 + 1, 1, none⟩ = some (.int .i64 l) := cell_of_block T2.out rfl
        go_wp2_with fail
        ((with_reducible refine (MB.out _).mono ?_); rintro e w3 ⟨rfl, k3⟩)
        have S3 := Lib.hid (below_block k3 (lt_of_block S2.out) S2.out)
        have R3 := Lib.hid (below_block k3 (lt_of_block R2.out) R2.out)
        have T3 := Lib.hid (below_block k3 (lt_of_block T2.out) T2.out)
        have O3 := Lib.hid (below_block k3 (lt_of_block O2.out) O2.out)
        have A3 := Lib.hid (below_block k3 (lt_of_block A2.out) A2.out)
        have K3 := Lib.hid (gk_call K2.out k3)
        clear t0 t1 k3 S2 R2 T2 O2 A2 K2 MB
        have r0 : w3.cell? ⟨w.heap.size + 1, 0, none⟩ = some (.int .i64 kd) := cell_of_block R3.out rfl
        have r2 : w3.cell? ⟨w.heap.size + 1, 2, none⟩ = some (.slice rp rn rc) := cell_of_block R3.out rfl
        have o0 : w3.cell? ⟨w.heap.size + 1 + 1 + 1, 0, none⟩ = some (.bool false) := cell_of_block O3.out rfl
        have o1 : w3.cell? ⟨w.heap.size + 1 + 1 + 1, 1, none⟩ = some (.int .i64 0) := cell_of_block O3.out rfl
        have o2 : w3.cell? ⟨w.heap.size + 1 + 1 + 1, 2, none⟩ = some (.slice none 0 0) := cell_of_block O3.out rfl
        have a0 : w3.cell? ⟨w.heap.size + 1 + 1 + 1 + 1, 0, none⟩ = some (.bool false) := cell_of_block A3.out rfl
        have a1 : w3.cell? ⟨w.heap.size + 1 + 1 + 1 + 1, 1, none⟩ = some (.slice none 0 0) := cell_of_block A3.out rfl
        have of := (fun j : Nat => free_of_block (j := j) O3.out)
        have af := (fun j : Nat => free_of_block (j := j) A3.out)
        have HZ := Lib.hid (heap_store_other (c := w.heap.size + 1 + 1 + 1 + 1) (j := 1) (v := .slice none 0 0) (heap_store_other (c := w.heap.size + 1 + 1 + 1 + 1) (j := 0) (v := .bool false) (heap_store (j := 2) (v := .slice none 0 0) (heap_store (j := 1) (v := .int .i64 0) (heap_store (j := 0) (v := .bool false) O3.out))) (by omega)) (by omega))
        have HY := Lib.hid (heap_store (j := 1) (v := .slice none 0 0) (heap_store (j := 0) (v := .bool false) (heap_store_other (c := w.heap.size + 1 + 1 + 1) (j := 2) (v := .slice none 0 0) (heap_store_other (c := w.heap.size + 1 + 1 + 1) (j := 1) (v := .int .i64 0) (heap_store_other (c := w.heap.size + 1 + 1 + 1) (j := 0) (v := .bool false) A3.out (by omega)) (by omega)) (by omega))))
        have KZ := Lib.hid (((((K3.out.setCell (p := ⟨w.heap.size + 1 + 1 + 1, 0, none⟩) (show w.heap.size ≤ w.heap.size + 1 + 1 + 1 by omega) (.bool false)).setCell (p := ⟨w.heap.size + 1 + 1 + 1, 1, none⟩) (show w.heap.size ≤ w.heap.size + 1 + 1 + 1 by omega) (.int .i64 0)).setCell (p := ⟨w.heap.size + 1 + 1 + 1, 2, none⟩) (show w.heap.size ≤ w.heap.size + 1 + 1 + 1 by omega) (.slice none 0 0)).setCell (p := ⟨w.heap.size + 1 + 1 + 1 + 1, 0, none⟩) (show w.heap.size ≤ w.heap.size + 1 + 1 + 1 + 1 by omega) (.bool false)).setCell (p := ⟨w.heap.size + 1 + 1 + 1 + 1, 1, none⟩) (show w.heap.size ≤ w.heap.size + 1 + 1 + 1 + 1 by omega) (.slice none 0 0))
        go_wp2_with fail
        have z0 := cell_of_block (j := 0) HZ.out rfl
        have z1 := cell_of_block (j := 1) HZ.out rfl
        have z2 := cell_of_block (j := 2) HZ.out rfl
        have y0 := cell_of_block (j := 0) HY.out rfl
        have y1 := cell_of_block (j := 1) HY.out rfl
        exact bodyPost_ret (v := .tuple #[.agg #[.bool false, .int .i64 0, .slice none 0 0], .bool false, .agg #[.bool false, .slice none 0 0], .int .i64 1]) (by simp [results, Try.results20, go_sem, z0, z1, z2, y0, y1]) rfl (HQ.out _ KZ.out)
      · have d1 : decide (kd < 1) = false := decide_eq_false (by omega)
        have d2 : decide (6 < kd) = false := decide_eq_false (by omega)
        have d3 : decide (60 < (rn : Int)) = true := decide_eq_true (by omega)
        have d4 : decide (60 < rn) = true := decide_eq_true (by omega)
        clear q
        go_enter Try.func20, Try.ntmps20
        go_upto_region 1 with fail
        generalize ((((w.alloc (.cells #[.bool ex, .int .i64 tm, .slice p n cap] 24)).alloc (.cells #[.int .i64 kd, .string gp, .slice rp rn rc] 37)).alloc (.cells #[.int .i64 m, .int .i64 l] 39)).alloc (.cells #[.bool false, .int .i64 0, .slice none 0 0] 24)).alloc (.cells #[.bool false, .slice none 0 0] 44) = W1 at HB1 HS1 HR1 HT1 HO1 HA1 HZ1 ⊢
        have s0 : W1.cell? ⟨w.heap.size, 0, none⟩ = some (.bool ex) := cell_of_block HS1.out rfl
        have s1 : W1.cell? ⟨w.heap.size, 1, none⟩ = some (.int .i64 tm) := cell_of_block HS1.out rfl
        have s2 : W1.cell? ⟨w.heap.size, 2, none⟩ = some (.slice p n cap) := cell_of_block HS1.out rfl
        have sf := (fun j : Nat => free_of_block (j := j) HS1.out)
        go_upto_region 3 with fail
        replace HB1 := Lib.hid (((HB1.out.setCell (p := ⟨w.heap.size, 0, none⟩) (Nat.le_refl _) (.bool false)).setCell (p := ⟨w.heap.size, 1, none⟩) (Nat.le_refl _) (.int .i64 0)).setCell (p := ⟨w.heap.size, 2, none⟩) (Nat.le_refl _) (.slice none 0 0))
        replace HS1 := Lib.hid (heap_store (j := 2) (v := .slice none 0 0) (heap_store (j := 1) (v := .int .i64 0) (heap_store (j := 0) (v := .bool false) HS1.out)))
        replace HR1 := Lib.hid (heap_store_other (c := w.heap.size) (j := 2) (v := .slice none 0 0) (heap_store_other (c := w.heap.size) (j := 1) (v := .int .i64 0) (heap_store_other (c := w.heap.size) (j := 0) (v := .bool false) HR1.out (by omega)) (by omega)) (by omega))
        replace HT1 := Lib.hid (heap_store_other (c := w.heap.size) (j := 2) (v := .slice none 0 0) (heap_store_other (c := w.heap.size) (j := 1) (v := .int .i64 0) (heap_store_other (c := w.heap.size) (j := 0) (v := .bool false) HT1.out (by omega)) (by omega)) (by omega))
        replace HO1 := Lib.hid (heap_store_other (c := w.heap.size) (j := 2) (v := .slice none 0 0) (heap_store_other (c := w.heap.size) (j := 1) (v := .int .i64 0) (heap_store_other (c := w.heap.size) (j := 0) (v := .bool false) HO1.out (by omega)) (by omega)) (by omega))
        replace HA1 := Lib.hid (heap_store_other (c := w.heap.size) (j := 2) (v := .slice none 0 0) (heap_store_other (c := w.heap.size) (j := 1) (v := .int .i64 0) (heap_store_other (c := w.heap.size) (j := 0) (v := .bool false) HA1.out (by omega)) (by omega)) (by omega))
        clear s0 s1 s2 sf
        generalize ((W1.setCell ⟨w.heap.size, 0, none⟩ (.bool false)).setCell ⟨w.heap.size, 1, none⟩ (.int .i64 0)).setCell ⟨w.heap.size, 2, none⟩ (.slice none 0 0) = W1 at HB1 HS1 HR1 HT1 HO1 HA1 ⊢
        have s0 : W1.cell? ⟨w.heap.size, 0, none⟩ = some (.bool false) := cell_of_block HS1.out rfl
        have s1 : W1.cell? ⟨w.heap.size, 1, none⟩ = some (.int .i64 0) := cell_of_block HS1.out rfl
        have s2 : W1.cell? ⟨w.heap.size, 2, none⟩ = some (.slice none 0 0) := cell_of_block HS1.out rfl
        go_wp2_with fail
        ((with_reducible refine (CK.out _ (RowsAt.nil _)).mono ?_); rintro e w2 ⟨rfl, k2⟩)
        have S2 := Lib.hid (below_block k2 (lt_of_block HS1.out) HS1.out)
        have R2 := Lib.hid (below_block k2 (lt_of_block HR1.out) HR1.out)
        have T2 := Lib.hid (below_block k2 (lt_of_block HT1.out) HT1.out)
        have O2 := Lib.hid (below_block k2 (lt_of_block HO1.out) HO1.out)
        have A2 := Lib.hid (below_block k2 (lt_of_block HA1.out) HA1.out)
        have K2 := Lib.hid (gk_call HB1.out k2)
        clear s0 s1 s2 k2 HB1 HS1 HR1 HT1 HO1 HA1 HZ1 CK
        have t0 : w2.cell? ⟨w.heap.size + 1 + 1, 0, none⟩ = some (.int .i64 m) := cell_of_block T2.out rfl
        have t1 : w2.cell? ⟨w.heap.size + 1 + 1, 1, none⟩ = some (.int .i64 l) := cell_of_block T2.out rfl
        go_wp2_with fail
        ((with_reducible refine (MB.out _).mono ?_); rintro e w3 ⟨rfl, k3⟩)
        have S3 := Lib.hid (below_block k3 (lt_of_block S2.out) S2.out)
        have R3 := Lib.hid (below_block k3 (lt_of_block R2.out) R2.out)
        have T3 := Lib.hid (below_block k3 (lt_of_block T2.out) T2.out)
        have O3 := Lib.hid (below_block k3 (lt_of_block O2.out) O2.out)
        have A3 := Lib.hid (below_block k3 (lt_of_block A2.out) A2.out)
        have K3 := Lib.hid (gk_call K2.out k3)
        clear t0 t1 k3 S2 R2 T2 O2 A2 K2 MB
        have r0 : w3.cell? ⟨w.heap.size + 1, 0, none⟩ = some (.int .i64 kd) := cell_of_block R3.out rfl
        have r2 : w3.cell? ⟨w.heap.size + 1, 2, none⟩ = some (.slice rp rn rc) := cell_of_block R3.out rfl
        have o0 : w3.cell? ⟨w.heap.size + 1 + 1 + 1, 0, none⟩ = some (.bool false) := cell_of_block O3.out rfl
        have o1 : w3.cell? ⟨w.heap.size + 1 + 1 + 1, 1, none⟩ = some (.int .i64 0) := cell_of_block O3.out rfl
        have o2 : w3.cell? ⟨w.heap.size + 1 + 1 + 1, 2, none⟩ = some (.slice none 0 0) := cell_of_block O3.out rfl
        have a0 : w3.cell? ⟨w.heap.size + 1 + 1 + 1 + 1, 0, none⟩ = some (.bool false) := cell_of_block A3.out rfl
        have a1 : w3.cell? ⟨w.heap.size + 1 + 1 + 1 + 1, 1, none⟩ = some (.slice none 0 0) := cell_of_block A3.out rfl
        have of := (fun j : Nat => free_of_block (j := j) O3.out)
        have af := (fun j : Nat => free_of_block (j := j) A3.out)
        have HZ := Lib.hid (heap_store_other (c := w.heap.size + 1 + 1 + 1 + 1) (j := 1) (v := .slice none 0 0) (heap_store_other (c := w.heap.size + 1 + 1 + 1 + 1) (j := 0) (v := .bool false) (heap_store (j := 2) (v := .slice none 0 0) (heap_store (j := 1) (v := .int .i64 0) (heap_store (j := 0) (v := .bool false) O3.out))) (by omega)) (by omega))
        have HY := Lib.hid (heap_store (j := 1) (v := .slice none 0 0) (heap_store (j := 0) (v := .bool false) (heap_store_other (c := w.heap.size + 1 + 1 + 1) (j := 2) (v := .slice none 0 0) (heap_store_other (c := w.heap.size + 1 + 1 + 1) (j := 1) (v := .int .i64 0) (heap_store_other (c := w.heap.size + 1 + 1 + 1) (j := 0) (v := .bool false) A3.out (by omega)) (by omega)) (by omega))))
        have KZ := Lib.hid (((((K3.out.setCell (p := ⟨w.heap.size + 1 + 1 + 1, 0, none⟩) (show w.heap.size ≤ w.heap.size + 1 + 1 + 1 by omega) (.bool false)).setCell (p := ⟨w.heap.size + 1 + 1 + 1, 1, none⟩) (show w.heap.size ≤ w.heap.size + 1 + 1 + 1 by omega) (.int .i64 0)).setCell (p := ⟨w.heap.size + 1 + 1 + 1, 2, none⟩) (show w.heap.size ≤ w.heap.size + 1 + 1 + 1 by omega) (.slice none 0 0)).setCell (p := ⟨w.heap.size + 1 + 1 + 1 + 1, 0, none⟩) (show w.heap.size ≤ w.heap.size + 1 + 1 + 1 + 1 by omega) (.bool false)).setCell (p := ⟨w.heap.size + 1 + 1 + 1 + 1, 1, none⟩) (show w.heap.size ≤ w.heap.size + 1 + 1 + 1 + 1 by omega) (.slice none 0 0))
        go_wp2_with fail
        have z0 := cell_of_block (j := 0) HZ.out rfl
        have z1 := cell_of_block (j := 1) HZ.out rfl
        have z2 := cell_of_block (j := 2) HZ.out rfl
        have y0 := cell_of_block (j := 0) HY.out rfl
        have y1 := cell_of_block (j := 1) HY.out rfl
        exact bodyPost_ret (v := .tuple #[.agg #[.bool false, .int .i64 0, .slice none 0 0], .bool false, .agg #[.bool false, .slice none 0 0], .int .i64 1]) (by simp [results, Try.results20, go_sem, z0, z1, z2, y0, y1]) rfl (HQ.out _ KZ.out)
  · have EA : appS noS kd rs now m l = noA 1 := by unfold appS; rw [if_neg (by rw [hok]; decide), if_pos (by rw [hm]; rfl)]
    rw [EA]
    rw [hm] at MB
    have HQ := Lib.hid (show ∀ U, Below w.heap.size w U → ApPost (noA 1) w (.returned (.tuple #[.agg #[.bool false, .int .i64 0, .slice none 0 0], .bool false, .agg #[.bool false, .slice none 0 0], .int .i64 1])) U from fun U k => ⟨_, _, rfl, RowsAt.nil _, AddrsG.nil _ _ _, k⟩)
    generalize ApPost (noA 1) w = Q at HQ ⊢
    clear EA hok hm h hra hs hrs hn hrn hsz hl hrl hapart h60
    go_enter Try.func20, Try.ntmps20
    go_upto_region 1 with fail
    generalize ((((w.alloc (.cells #[.bool ex, .int .i64 tm, .slice p n cap] 24)).alloc (.cells #[.int .i64 kd, .string gp, .slice rp rn rc] 37)).alloc (.cells #[.int .i64 m, .int .i64 l] 39)).alloc (.cells #[.bool false, .int .i64 0, .slice none 0 0] 24)).alloc (.cells #[.bool false, .slice none 0 0] 44) = W1 at HB1 HS1 HR1 HT1 HO1 HA1 HZ1 ⊢
    have s0 : W1.cell? ⟨w.heap.size, 0, none⟩ = some (.bool ex) := cell_of_block HS1.out rfl
    have s1 : W1.cell? ⟨w.heap.size, 1, none⟩ = some (.int .i64 tm) := cell_of_block HS1.out rfl
    have s2 : W1.cell? ⟨w.heap.size, 2, none⟩ = some (.slice p n cap) := cell_of_block HS1.out rfl
    have sf := (fun j : Nat => free_of_block (j := j) HS1.out)
    go_upto_region 3 with fail
    replace HB1 := Lib.hid (((HB1.out.setCell (p := ⟨w.heap.size, 0, none⟩) (Nat.le_refl _) (.bool false)).setCell (p := ⟨w.heap.size, 1, none⟩) (Nat.le_refl _) (.int .i64 0)).setCell (p := ⟨w.heap.size, 2, none⟩) (Nat.le_refl _) (.slice none 0 0))
    replace HS1 := Lib.hid (heap_store (j := 2) (v := .slice none 0 0) (heap_store (j := 1) (v := .int .i64 0) (heap_store (j := 0) (v := .bool false) HS1.out)))
    replace HR1 := Lib.hid (heap_store_other (c := w.heap.size) (j := 2) (v := .slice none 0 0) (heap_store_other (c := w.heap.size) (j := 1) (v := .int .i64 0) (heap_store_other (c := w.heap.size) (j := 0) (v := .bool false) HR1.out (by omega)) (by omega)) (by omega))
    replace HT1 := Lib.hid (heap_store_other (c := w.heap.size) (j := 2) (v := .slice none 0 0) (heap_store_other (c := w.heap.size) (j := 1) (v := .int .i64 0) (heap_store_other (c := w.heap.size) (j := 0) (v := .bool false) HT1.out (by omega)) (by omega)) (by omega))
    replace HO1 := Lib.hid (heap_store_other (c := w.heap.size) (j := 2) (v := .slice none 0 0) (heap_store_other (c := w.heap.size) (j := 1) (v := .int .i64 0) (heap_store_other (c := w.heap.size) (j := 0) (v := .bool false) HO1.out (by omega)) (by omega)) (by omega))
    replace HA1 := Lib.hid (heap_store_other (c := w.heap.size) (j := 2) (v := .slice none 0 0) (heap_store_other (c := w.heap.size) (j := 1) (v := .int .i64 0) (heap_store_other (c := w.heap.size) (j := 0) (v := .bool false) HA1.out (by omega)) (by omega)) (by omega))
    clear s0 s1 s2 sf
    generalize ((W1.setCell ⟨w.heap.size, 0, none⟩ (.bool false)).setCell ⟨w.heap.size, 1, none⟩ (.int .i64 0)).setCell ⟨w.heap.size, 2, none⟩ (.slice none 0 0) = W1 at HB1 HS1 HR1 HT1 HO1 HA1 ⊢
    have s0 : W1.cell? ⟨w.heap.size, 0, none⟩ = some (.bool false) := cell_of_block HS1.out rfl
    have s1 : W1.cell? ⟨w.heap.size, 1, none⟩ = some (.int .i64 0) := cell_of_block HS1.out rfl
    have s2 : W1.cell? ⟨w.heap.size, 2, none⟩ = some (.slice none 0 0) := cell_of_block HS1.out rfl
    go_wp2_with fail
    ((with_reducible refine (CK.out _ (RowsAt.nil _)).mono ?_); rintro e w2 ⟨rfl, k2⟩)
    have S2 := Lib.hid (below_block k2 (lt_of_block HS1.out) HS1.out)
    have R2 := Lib.hid (below_block k2 (lt_of_block HR1.out) HR1.out)
    have T2 := Lib.hid (below_block k2 (lt_of_block HT1.out) HT1.out)
    have O2 := Lib.hid (below_block k2 (lt_of_block HO1.out) HO1.out)
    have A2 := Lib.hid (below_block k2 (lt_of_block HA1.out) HA1.out)
    have K2 := Lib.hid (gk_call HB1.out k2)
    clear s0 s1 s2 k2 HB1 HS1 HR1 HT1 HO1 HA1 HZ1 CK
    have t0 : w2.cell? ⟨w.heap.size + 1 + 1, 0, none⟩ = some (.int .i64 m) := cell_of_block T2.out rfl
    have t1 : w2.cell? ⟨w.heap.size + 1 + 1, 1, none⟩ = some (.int .i64 l) := cell_of_block T2.out rfl
    go_wp2_with fail
    ((with_reducible refine (MB.out _).mono ?_); rintro e w3 ⟨rfl, k3⟩)
    have S3 := Lib.hid (below_block k3 (lt_of_block S2.out) S2.out)
    have R3 := Lib.hid (below_block k3 (lt_of_block R2.out) R2.out)
    have T3 := Lib.hid (below_block k3 (lt_of_block T2.out) T2.out)
    have O3 := Lib.hid (below_block k3 (lt_of_block O2.out) O2.out)
    have A3 := Lib.hid (below_block k3 (lt_of_block A2.out) A2.out)
    have K3 := Lib.hid (gk_call K2.out k3)
    clear t0 t1 k3 S2 R2 T2 O2 A2 K2 MB
    have r0 : w3.cell? ⟨w.heap.size + 1, 0, none⟩ = some (.int .i64 kd) := cell_of_block R3.out rfl
    have r2 : w3.cell? ⟨w.heap.size + 1, 2, none⟩ = some (.slice rp rn rc) := cell_of_block R3.out rfl
    have o0 : w3.cell? ⟨w.heap.size + 1 + 1 + 1, 0, none⟩ = some (.bool false) := cell_of_block O3.out rfl
    have o1 : w3.cell? ⟨w.heap.size + 1 + 1 + 1, 1, none⟩ = some (.int .i64 0) := cell_of_block O3.out rfl
    have o2 : w3.cell? ⟨w.heap.size + 1 + 1 + 1, 2, none⟩ = some (.slice none 0 0) := cell_of_block O3.out rfl
    have a0 : w3.cell? ⟨w.heap.size + 1 + 1 + 1 + 1, 0, none⟩ = some (.bool false) := cell_of_block A3.out rfl
    have a1 : w3.cell? ⟨w.heap.size + 1 + 1 + 1 + 1, 1, none⟩ = some (.slice none 0 0) := cell_of_block A3.out rfl
    have of := (fun j : Nat => free_of_block (j := j) O3.out)
    have af := (fun j : Nat => free_of_block (j := j) A3.out)
    have HZ := Lib.hid (heap_store_other (c := w.heap.size + 1 + 1 + 1 + 1) (j := 1) (v := .slice none 0 0) (heap_store_other (c := w.heap.size + 1 + 1 + 1 + 1) (j := 0) (v := .bool false) (heap_store (j := 2) (v := .slice none 0 0) (heap_store (j := 1) (v := .int .i64 0) (heap_store (j := 0) (v := .bool false) O3.out))) (by omega)) (by omega))
    have HY := Lib.hid (heap_store (j := 1) (v := .slice none 0 0) (heap_store (j := 0) (v := .bool false) (heap_store_other (c := w.heap.size + 1 + 1 + 1) (j := 2) (v := .slice none 0 0) (heap_store_other (c := w.heap.size + 1 + 1 + 1) (j := 1) (v := .int .i64 0) (heap_store_other (c := w.heap.size + 1 + 1 + 1) (j := 0) (v := .bool false) A3.out (by omega)) (by omega)) (by omega))))
    have KZ := Lib.hid (((((K3.out.setCell (p := ⟨w.heap.size + 1 + 1 + 1, 0, none⟩) (show w.heap.size ≤ w.heap.size + 1 + 1 + 1 by omega) (.bool false)).setCell (p := ⟨w.heap.size + 1 + 1 + 1, 1, none⟩) (show w.heap.size ≤ w.heap.size + 1 + 1 + 1 by omega) (.int .i64 0)).setCell (p := ⟨w.heap.size + 1 + 1 + 1, 2, none⟩) (show w.heap.size ≤ w.heap.size + 1 + 1 + 1 by omega) (.slice none 0 0)).setCell (p := ⟨w.heap.size + 1 + 1 + 1 + 1, 0, none⟩) (show w.heap.size ≤ w.heap.size + 1 + 1 + 1 + 1 by omega) (.bool false)).setCell (p := ⟨w.heap.size + 1 + 1 + 1 + 1, 1, none⟩) (show w.heap.size ≤ w.heap.size + 1 + 1 + 1 + 1 by omega) (.slice none 0 0))
    go_wp2_with fail
    have z0 := cell_of_block (j := 0) HZ.out rfl
    have z1 := cell_of_block (j := 1) HZ.out rfl
    have z2 := cell_of_block (j := 2) HZ.out rfl
    have y0 := cell_of_block (j := 0) HY.out rfl
    have y1 := cell_of_block (j := 1) HY.out rfl
    exact bodyPost_ret (v := .tuple #[.agg #[.bool false, .int .i64 0, .slice none 0 0], .bool false, .agg #[.bool false, .slice none 0 0], .int .i64 1]) (by simp [results, Try.results20, go_sem, z0, z1, z2, y0, y1]) rfl (HQ.out _ KZ.out)

end Go.Proofs.Ytceilgeefegbmaa
