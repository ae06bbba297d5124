/-
  'group.change.follow', kind by kind. Contracts over the translated program.
-/
import Derived.Test.YtceilgeefegbmaaGrN
import Derived.Deep.RegionHeld3
namespace Go.Proofs.Ytceilgeefegbmaa
open Go Go.Maps Go.WideMaps
open Go.RowKit
set_option linter.unusedVariables false
set_option linter.unusedSimpArgs false

theorem gk_call {W w w' : World} (h : Below W.heap.size W w) (k : Below w.heap.size w w') : Below W.heap.size W w' := h.trans (k.mono h.size)
/-- The change behind a record: Except, At, the sources, the ask. -/
structure Cg where
  ex : Bool
  tm : Int
  src : List Tm
  ag : Bool
  al : List ByteArray
def folP (ex : Bool) (tm : Int) (R : List Tm) (kind : Int) (tl : List ByteArray) (end_ : Int) : Cg :=
  if kind = 3 then ⟨ex, tm, putA R tl end_, ex, ((keysR R).filter fun s => decide (0 < getR R s)).filter fun s => !hasS tl s⟩
  else if kind = 1 ∨ kind = 5 then ⟨ex, tm, putA R tl end_, false, []⟩
  else if kind = 4 then ⟨true, end_, excR R tl tm, false, tl.filter fun s => decide (0 < getR (excR R tl tm) s)⟩
  else if kind = 2 then ⟨true, end_, excR R tl (if ex then end_ else 0), false, []⟩
  else ⟨ex, tm, if ex then excA R tl tm else R, false, tl.filter fun s => decide (0 < getR (if ex then excA R tl tm else R) s)⟩
def FoPost (w : World) (c mb : Nat) (tv : Value) (C : Cg) (e : Ending) (w' : World) : Prop := ∃ av, e = .returned (.tuple #[]) ∧ Ch w' c mb C.ex C.tm tv C.ag av (mk C.src) ∧ AddrsG w.heap.size true w' av C.al ∧ Tw w w' c mb

theorem set45 {w : World} {c mb : Nat} {ex : Bool} {tm : Int} {tv av : Value} {ag : Bool} {L : List T3} (h : Ch w c mb ex tm tv ag av L) (b : Bool) (u : Value) : Ch ((w.setCell ⟨c, 4, none⟩ (.bool b)).setCell ⟨c, 5, none⟩ u) c mb ex tm tv b u L := by
  have h1 : Ch (w.setCell ⟨c, 4, none⟩ (.bool b)) c mb ex tm tv b av L := ⟨heap_store (j := 4) (v := .bool b) h.1, h.2.setCell h.ne _⟩
  exact ⟨heap_store (j := 5) (v := u) h1.1, h1.2.setCell h1.ne _⟩
theorem set5 {w : World} {c mb : Nat} {ex : Bool} {tm : Int} {tv av : Value} {ag : Bool} {L : List T3} (h : Ch w c mb ex tm tv ag av L) (u : Value) : Ch (w.setCell ⟨c, 5, none⟩ u) c mb ex tm tv ag u L :=
  ⟨heap_store (j := 5) (v := u) h.1, h.2.setCell h.ne _⟩

set_option maxHeartbeats 8000000 in
set_option maxRecDepth 100000 in
theorem fol1_c {w : World} {c mb : Nat} {ex : Bool} {tm : Int} {tv : Value} {R : List Tm} (h : Ch w c mb ex tm tv false (.slice none 0 0) (mk R)) (hR : Apart R) (hz : SzR R) (tl : List ByteArray) (hta : AddrsG 0 true w tv tl) (hu : Up tl) (hs : ∀ s ∈ tl, s.size ≤ maxLen) (hn : R.length + tl.length ≤ 1000) (end_ : Int) :
    Calls Try.prog 31 #[.pointer (some ⟨c, 0, none⟩), .int .i64 1, .int .i64 end_] w (FoPost w c mb tv (folP ex tm R 1 tl end_) ) := by
  have H := Lib.hid h
  have c3 := h.c3
  obtain ⟨tp, tc, rfl⟩ := hta.slice
  have P1 := Lib.hid (put_c h (.slice tp tl.length tc) tl end_ (by rw [mk_len]; omega) hta.at hs)
  have HQ := Lib.hid (show ∀ U, Ch U c mb ex tm (.slice tp tl.length tc) false (.slice none 0 0) (putL (mk R) tl end_) → Tw w U c mb → FoPost w c mb (.slice tp tl.length tc) (folP ex tm R 1 tl end_) (.returned (.tuple #[])) U from fun U h1 h2 => ⟨_, rfl, by rw [mk_putL] at h1; exact h1, AddrsG.nil _ _ _, h2⟩)
  generalize FoPost w c mb (.slice tp tl.length tc) (folP ex tm R 1 tl end_) = Q at HQ ⊢
  clear h hR hz hta hu hs hn
  go_enter Try.func31, Try.ntmps31
  go_wp2_with fail
  ((with_reducible refine P1.out.mono ?_); rintro e w2 ⟨rfl, h2, k2⟩)
  have HF := Lib.hid (HQ.out _ h2 k2)
  clear h2 k2 P1 HQ
  go_wp2_with fail
  exact bodyPost_end (v := .tuple #[]) (by simp [results, Try.results31, go_sem]) rfl HF.out

set_option maxHeartbeats 8000000 in
set_option maxRecDepth 100000 in
theorem fol5_c {w : World} {c mb : Nat} {ex : Bool} {tm : Int} {tv : Value} {R : List Tm} (h : Ch w c mb ex tm tv false (.slice none 0 0) (mk R)) (hR : Apart R) (hz : SzR R) (tl : List ByteArray) (hta : AddrsG 0 true w tv tl) (hu : Up tl) (hs : ∀ s ∈ tl, s.size ≤ maxLen) (hn : R.length + tl.length ≤ 1000) (end_ : Int) :
    Calls Try.prog 31 #[.pointer (some ⟨c, 0, none⟩), .int .i64 5, .int .i64 end_] w (FoPost w c mb tv (folP ex tm R 5 tl end_) ) := by
  have H := Lib.hid h
  have c3 := h.c3
  obtain ⟨tp, tc, rfl⟩ := hta.slice
  have P1 := Lib.hid (put_c h (.slice tp tl.length tc) tl end_ (by rw [mk_len]; omega) hta.at hs)
  have HQ := Lib.hid (show ∀ U, Ch U c mb ex tm (.slice tp tl.length tc) false (.slice none 0 0) (putL (mk R) tl end_) → Tw w U c mb → FoPost w c mb (.slice tp tl.length tc) (folP ex tm R 5 tl end_) (.returned (.tuple #[])) U from fun U h1 h2 => ⟨_, rfl, by rw [mk_putL] at h1; exact h1, AddrsG.nil _ _ _, h2⟩)
  generalize FoPost w c mb (.slice tp tl.length tc) (folP ex tm R 5 tl end_) = Q at HQ ⊢
  clear h hR hz hta hu hs hn
  go_enter Try.func31, Try.ntmps31
  go_wp2_with fail
  ((with_reducible refine P1.out.mono ?_); rintro e w2 ⟨rfl, h2, k2⟩)
  have HF := Lib.hid (HQ.out _ h2 k2)
  clear h2 k2 P1 HQ
  go_wp2_with fail
  exact bodyPost_end (v := .tuple #[]) (by simp [results, Try.results31, go_sem]) rfl HF.out

set_option maxHeartbeats 8000000 in
set_option maxRecDepth 100000 in
theorem fol2_c {w : World} {c mb : Nat} {ex : Bool} {tm : Int} {tv : Value} {R : List Tm} (h : Ch w c mb ex tm tv false (.slice none 0 0) (mk R)) (hR : Apart R) (hz : SzR R) (tl : List ByteArray) (hta : AddrsG 0 true w tv tl) (hu : Up tl) (hs : ∀ s ∈ tl, s.size ≤ maxLen) (hn : R.length + tl.length ≤ 1000) (end_ : Int) :
    Calls Try.prog 31 #[.pointer (some ⟨c, 0, none⟩), .int .i64 2, .int .i64 end_] w (FoPost w c mb tv (folP ex tm R 2 tl end_) ) := by
  have H := Lib.hid h
  have c0 := h.c0
  have X1 := Lib.hid (fun fresh => exclude_c h hR hz tl hta hu hs hn fresh end_)
  have HQ := Lib.hid (show ∀ e U, ExPost w c mb end_ tv (.slice none 0 0) false (excR R tl (if ex then end_ else 0)) e U → FoPost w c mb tv (folP ex tm R 2 tl end_) e U from fun e U ⟨h1, h2, h3⟩ => ⟨_, h1, h2, AddrsG.nil _ _ _, h3⟩)
  have HE := Lib.hid (show ∀ fresh e U, ExPost w c mb end_ tv (.slice none 0 0) false (excR R tl fresh) e U → e = .returned (.tuple #[]) from fun fresh e U h1 => h1.1)
  generalize FoPost w c mb tv (folP ex tm R 2 tl end_) = Q at HQ ⊢
  clear h hR hz hta hu hs hn
  rcases Bool.eq_false_or_eq_true ex with rfl | rfl
  · go_enter Try.func31, Try.ntmps31
    go_wp2_with fail
    ((with_reducible refine (X1.out _).mono ?_); intro e w2 h2)
    obtain rfl := HE.out _ _ _ h2
    have HF := Lib.hid (HQ.out _ _ h2)
    clear h2 X1 HQ HE
    go_wp2_with fail
    exact bodyPost_end (v := .tuple #[]) (by simp [results, Try.results31, go_sem]) rfl HF.out
  · go_enter Try.func31, Try.ntmps31
    go_wp2_with fail
    ((with_reducible refine (X1.out _).mono ?_); intro e w2 h2)
    obtain rfl := HE.out _ _ _ h2
    have HF := Lib.hid (HQ.out _ _ h2)
    clear h2 X1 HQ HE
    go_wp2_with fail
    exact bodyPost_end (v := .tuple #[]) (by simp [results, Try.results31, go_sem]) rfl HF.out

set_option maxHeartbeats 8000000 in
set_option maxRecDepth 100000 in
theorem fol4_c {w : World} {c mb : Nat} {ex : Bool} {tm : Int} {tv : Value} {R : List Tm} (h : Ch w c mb ex tm tv false (.slice none 0 0) (mk R)) (hR : Apart R) (hz : SzR R) (tl : List ByteArray) (hta : AddrsG 0 true w tv tl) (hu : Up tl) (hs : ∀ s ∈ tl, s.size ≤ maxLen) (hn : R.length + tl.length ≤ 1000) (end_ : Int) :
    Calls Try.prog 31 #[.pointer (some ⟨c, 0, none⟩), .int .i64 4, .int .i64 end_] w (FoPost w c mb tv (folP ex tm R 4 tl end_) ) := by
  have H := Lib.hid h
  have c1 := h.c1
  obtain ⟨tp, tc, rfl⟩ := hta.slice
  have X1 := Lib.hid (exclude_c h hR hz tl hta hu hs hn tm end_)
  have HT := Lib.hid hta
  have O1 := Lib.hid (fun U (h' : Ch U c mb true end_ (.slice tp tl.length tc) false (.slice none 0 0) (mk (excR R tl tm))) (ha : AddrsAt U (.slice tp tl.length tc) tl) => onlyR2_c h' (.slice tp tl.length tc) tl (by omega) ha hs)
  have HQ := Lib.hid (show ∀ U v, Ch U c mb true end_ (.slice tp tl.length tc) false v (mk (excR R tl tm)) → AddrsG w.heap.size true U v (tl.filter fun s => decide (0 < getR (excR R tl tm) s)) → Tw w U c mb → FoPost w c mb (.slice tp tl.length tc) (folP ex tm R 4 tl end_) (.returned (.tuple #[])) U from fun U v h1 h2 h3 => ⟨v, rfl, h1, h2, h3⟩)
  generalize FoPost w c mb (.slice tp tl.length tc) (folP ex tm R 4 tl end_) = Q at HQ ⊢
  generalize (tl.filter fun s => decide (0 < getR (excR R tl tm) s)) = al at O1 HQ
  unfold ExPost at X1
  generalize excR R tl tm = R1 at X1 O1 HQ
  clear h hR hz hta hu hs hn
  go_enter Try.func31, Try.ntmps31
  go_wp2_with fail
  ((with_reducible refine X1.out.mono ?_); rintro e w2 ⟨rfl, h2, k2⟩)
  have H2 := Lib.hid h2
  have T2 := Lib.hid (ad_tw HT.out H.out k2)
  have K2 := Lib.hid k2
  clear h2 k2 X1 H HT c1
  have c3 := H2.out.c3
  go_wp2_with fail
  ((with_reducible refine (O1.out _ H2.out T2.out.at).mono ?_); rintro e w3 ⟨u3, rfl, a3, k3⟩)
  obtain ⟨p3, q3, rfl⟩ := a3.slice
  have H3 := Lib.hid (H2.out.below k3)
  have K3 := Lib.hid (K2.out.trans (Tw.ofBelow k3))
  have A3 := Lib.hid a3
  have hsz := K2.out.size
  clear c3
  have c5 := H3.out.c5
  have f5 := H3.out.fz 5
  have HW := Lib.hid (show AddrsG w.heap.size true (w3.setCell ⟨c, 5, none⟩ (.slice p3 al.length q3)) (.slice p3 al.length q3) al from (ad_tw a3 H3.out (Tw.setCell w3 c mb 5 _)).mono hsz (fun h => h))
  have HF := Lib.hid (HQ.out _ _ (set5 H3.out _) HW.out (K3.out.trans (Tw.setCell w3 c mb 5 _)))
  clear a3 k3 O1 HQ
  go_wp2_with fail
  exact bodyPost_end (v := .tuple #[]) (by simp [results, Try.results31, go_sem]) rfl HF.out

set_option maxHeartbeats 8000000 in
set_option maxRecDepth 100000 in
theorem fol3_c {w : World} {c mb : Nat} {ex : Bool} {tm : Int} {tv : Value} {R : List Tm} (h : Ch w c mb ex tm tv false (.slice none 0 0) (mk R)) (hR : Apart R) (hz : SzR R) (tl : List ByteArray) (hta : AddrsG 0 true w tv tl) (hu : Up tl) (hs : ∀ s ∈ tl, s.size ≤ maxLen) (hn : R.length + tl.length ≤ 1000) (end_ : Int) :
    Calls Try.prog 31 #[.pointer (some ⟨c, 0, none⟩), .int .i64 3, .int .i64 end_] w (FoPost w c mb tv (folP ex tm R 3 tl end_) ) := by
  have H := Lib.hid h
  obtain ⟨tp, tc, rfl⟩ := hta.slice
  have HT := Lib.hid hta
  have hkl : (keysR R).length ≤ 1000 := by rw [keys_len hR]; omega
  have S1 := Lib.hid (fun U (h' : Ch U c mb ex tm (.slice tp tl.length tc) false (.slice none 0 0) (mk R)) => src2_c h' hR (by omega))
  have O1 := Lib.hid (fun U v (h' : Ch U c mb ex tm (.slice tp tl.length tc) false (.slice none 0 0) (mk R)) (ha : AddrsAt U v (keysR R)) => onlyR2_c h' v (keysR R) (by omega) ha hz.keys)
  have hfl := Nat.le_trans (List.length_filter_le (fun s => decide (0 < getR R s)) (keysR R)) hkl
  have O2 := Lib.hid (fun U v (h' : Ch U c mb ex tm (.slice tp tl.length tc) false (.slice none 0 0) (mk R)) (ht : AddrsG 0 true U (.slice tp tl.length tc) tl) (ha : AddrsAt U v ((keysR R).filter fun s => decide (0 < getR R s))) => onlyT2_c h' tl (by omega) ht hu v ((keysR R).filter fun s => decide (0 < getR R s)) (by omega) ha)
  have P1 := Lib.hid (fun U av (h' : Ch U c mb ex tm (.slice tp tl.length tc) ex av (mk R)) (ha : AddrsAt U (.slice tp tl.length tc) tl) => put_c h' (.slice tp tl.length tc) tl end_ (by rw [mk_len]; omega) ha hs)
  have HQ := Lib.hid (show ∀ U v, Ch U c mb ex tm (.slice tp tl.length tc) ex v (putL (mk R) tl end_) → AddrsG w.heap.size true U v (((keysR R).filter fun s => decide (0 < getR R s)).filter fun s => !hasS tl s) → Tw w U c mb → FoPost w c mb (.slice tp tl.length tc) (folP ex tm R 3 tl end_) (.returned (.tuple #[])) U from fun U v h1 h2 h3 => ⟨v, rfl, by rw [mk_putL] at h1; exact h1, h2, h3⟩)
  generalize FoPost w c mb (.slice tp tl.length tc) (folP ex tm R 3 tl end_) = Q at HQ ⊢
  generalize (((keysR R).filter fun s => decide (0 < getR R s)).filter fun s => !hasS tl s) = al at O2 HQ
  generalize ((keysR R).filter fun s => decide (0 < getR R s)) = fl at O1 O2 hfl
  generalize keysR R = kl at S1 O1 hkl
  have k0 := Below.refl w.heap.size w
  have c0 := H.out.c0
  clear h hR hz hta hu hs hn hkl hfl
  go_enter Try.func31, Try.ntmps31
  go_upto_region 7 with fail
  go_region_held3 (fun U => U.cell? ⟨c, 0, none⟩ = some (.bool ex))
    (first | with_reducible exact (set45 (H.out.below k3) _ _).c0 | with_reducible exact (H.out.below k3).c0 | with_reducible exact (H.out.below k2).c0 | with_reducible exact (H.out.below k1).c0 | with_reducible exact (H.out.below k0.drew).c0)
    (first
      | (go_at_call 43; (with_reducible refine (S1.out _ (H.out.below k0.drew)).mono ?_); rintro e w1 ⟨u1, rfl, a1, h1⟩; obtain ⟨p1, q1, rfl⟩ := a1.slice; have k1 := gk_call k0.drew h1)
      | (go_at_call 42; (with_reducible refine (O1.out _ _ (H.out.below k1) a1.at).mono ?_); rintro e w2 ⟨u2, rfl, a2, h2⟩; obtain ⟨p2, q2, rfl⟩ := a2.slice; have k2 := gk_call k1 h2)
      | (go_at_call 42; (with_reducible refine (O2.out _ _ (H.out.below k2) (HT.out.below k2) a2.at).mono ?_); rintro e w3 ⟨u3, rfl, a3, h3⟩; obtain ⟨p3, q3, rfl⟩ := a3.slice; have k3 := gk_call k2 h3; have c4 := (H.out.below k3).c4; have c5 := (H.out.below k3).c5; have f4 := (H.out.below k3).fz 4; have f5 := (H.out.below k3).fz 5))
  all_goals
    rename_i hh
    clear hh c4 c5 f4 f5
    have H3 := Lib.hid (H.out.below k3)
    have H4 := Lib.hid (set45 H3.out ex (.slice p3 al.length q3))
    have t4 := (Tw.setCell w3 c mb 4 (.bool ex)).trans (Tw.setCell (w3.setCell ⟨c, 4, none⟩ (.bool ex)) c mb 5 (.slice p3 al.length q3))
    have T4 := Lib.hid (ad_tw (HT.out.below k3) H3.out t4)
    have K4 := Lib.hid ((Tw.ofBelow (p := c) (mb := mb) k3).trans t4)
    have A4 := Lib.hid ((ad_tw a3 H3.out t4).mono k2.size (fun h => h))
    have c3 := H4.out.c3
    clear a1 h1 k1 a2 h2 k2 a3 h3 k3 t4 c0
    generalize (w3.setCell ⟨c, 4, none⟩ (.bool ex)).setCell ⟨c, 5, none⟩ (.slice p3 al.length q3) = W4 at H4 T4 K4 A4 c3 ⊢
    go_wp2_with fail
    ((with_reducible refine (P1.out _ _ H4.out T4.out.at).mono ?_); rintro e w5 ⟨rfl, h5, t5⟩)
    have HF := Lib.hid (HQ.out _ _ h5 (ad_tw A4.out H4.out t5) (K4.out.trans t5))
    clear h5 t5
    go_wp2_with fail
    exact bodyPost_end (v := .tuple #[]) (by simp [results, Try.results31, go_sem]) rfl HF.out

set_option maxHeartbeats 8000000 in
set_option maxRecDepth 100000 in
theorem fol6a_c {w : World} {c mb : Nat} {tm : Int} {tv : Value} {R : List Tm} (h : Ch w c mb true tm tv false (.slice none 0 0) (mk R)) (hR : Apart R) (hz : SzR R) (tl : List ByteArray) (hta : AddrsG 0 true w tv tl) (hu : Up tl) (hs : ∀ s ∈ tl, s.size ≤ maxLen) (hn : R.length + tl.length ≤ 1000) (end_ : Int) :
    Calls Try.prog 31 #[.pointer (some ⟨c, 0, none⟩), .int .i64 6, .int .i64 end_] w (FoPost w c mb tv (folP true tm R 6 tl end_) ) := by
  have H := Lib.hid h
  obtain ⟨tp, tc, rfl⟩ := hta.slice
  have HT := Lib.hid hta
  have O1 := Lib.hid (fun U (h' : Ch U c mb true tm (.slice tp tl.length tc) false (.slice none 0 0) (mk R)) (ha : AddrsAt U (.slice tp tl.length tc) tl) => onlyU2_c h' (.slice tp tl.length tc) tl (by omega) ha hs)
  have hfl := List.length_filter_le (fun s => !(look R s).isSome) tl
  have hfs : ∀ s ∈ tl.filter (fun s => !(look R s).isSome), s.size ≤ maxLen := fun s hm => hs s (List.mem_filter.1 hm).1
  have P1 := Lib.hid (fun U v (h' : Ch U c mb true tm (.slice tp tl.length tc) false (.slice none 0 0) (mk R)) (ha : AddrsAt U v (tl.filter fun s => !(look R s).isSome)) => put_c h' v (tl.filter fun s => !(look R s).isSome) tm (by rw [mk_len]; omega) ha hfs)
  have EK := Lib.hid (show putL (mk R) (tl.filter fun s => !(look R s).isSome) tm = mk (excA R tl tm) from mk_putL _ _ _)
  generalize (tl.filter fun s => !(look R s).isSome) = fl at O1 hfl hfs P1 EK
  have O2 := Lib.hid (fun U (h' : Ch U c mb true tm (.slice tp tl.length tc) false (.slice none 0 0) (mk (excA R tl tm))) (ha : AddrsAt U (.slice tp tl.length tc) tl) => onlyR2_c h' (.slice tp tl.length tc) tl (by omega) ha hs)
  have HQ := Lib.hid (show ∀ U v, Ch U c mb true tm (.slice tp tl.length tc) false v (mk (excA R tl tm)) → AddrsG w.heap.size true U v (tl.filter fun s => decide (0 < getR (excA R tl tm) s)) → Tw w U c mb → FoPost w c mb (.slice tp tl.length tc) (folP true tm R 6 tl end_) (.returned (.tuple #[])) U from fun U v h1 h2 h3 => ⟨v, rfl, h1, h2, h3⟩)
  generalize FoPost w c mb (.slice tp tl.length tc) (folP true tm R 6 tl end_) = Q at HQ ⊢
  generalize (tl.filter fun s => decide (0 < getR (excA R tl tm) s)) = al at O2 HQ
  generalize excA R tl tm = R1 at EK O2 HQ
  have k0 := Below.refl w.heap.size w
  have c3 := H.out.c3
  have c1 := H.out.c1
  have c0 := H.out.c0
  clear h hR hz hta hu hs hn hfl hfs
  go_enter Try.func31, Try.ntmps31
  go_upto_region 15 with fail
  go_region_held3 (fun U => U.cell? ⟨c, 3, none⟩ = some (.slice tp tl.length tc) ∧ U.cell? ⟨c, 1, none⟩ = some (.int .i64 tm))
    (first | with_reducible exact And.intro h2.c3 h2.c1 | with_reducible exact And.intro (H.out.below k1).c3 (H.out.below k1).c1 | with_reducible exact And.intro (H.out.below k0.drew).c3 (H.out.below k0.drew).c1)
    (first
      | (go_at_call 42; (with_reducible refine (O1.out _ (H.out.below k0.drew) (HT.out.below k0.drew).at).mono ?_); rintro e w1 ⟨u1, rfl, a1, h1⟩; obtain ⟨p1, q1, rfl⟩ := a1.slice; have k1 := gk_call k0.drew h1)
      | (go_at_call 46; (with_reducible refine (P1.out _ _ (H.out.below k1) a1.at).mono ?_); rintro e w2 ⟨rfl, h2, t2⟩))
  all_goals
    rename_i hh
    clear hh c1 c3 c0
    rw [EK.out] at h2
    have H2 := Lib.hid h2
    have T2 := Lib.hid (ad_tw (HT.out.below k1) (H.out.below k1) t2)
    have K2 := Lib.hid ((Tw.ofBelow (p := c) (mb := mb) k1).trans t2)
    clear a1 h1 k1 h2 t2
    have c3 := H2.out.c3
    go_wp2_with fail
    ((with_reducible refine (O2.out _ H2.out T2.out.at).mono ?_); rintro e w3 ⟨u3, rfl, a3, k3⟩)
    obtain ⟨p3, q3, rfl⟩ := a3.slice
    have H3 := Lib.hid (H2.out.below k3)
    have K3 := Lib.hid (K2.out.trans (Tw.ofBelow k3))
    have hsz := K2.out.size
    clear c3
    have c5 := H3.out.c5
    have f5 := H3.out.fz 5
    have HW := Lib.hid (show AddrsG w.heap.size true (w3.setCell ⟨c, 5, none⟩ (.slice p3 al.length q3)) (.slice p3 al.length q3) al from (ad_tw a3 H3.out (Tw.setCell w3 c mb 5 _)).mono hsz (fun h => h))
    have HF := Lib.hid (HQ.out _ _ (set5 H3.out _) HW.out (K3.out.trans (Tw.setCell w3 c mb 5 _)))
    clear a3 k3
    go_wp2_with fail
    exact bodyPost_end (v := .tuple #[]) (by simp [results, Try.results31, go_sem]) rfl HF.out

set_option maxHeartbeats 8000000 in
set_option maxRecDepth 100000 in
theorem fol6b_c {w : World} {c mb : Nat} {tm : Int} {tv : Value} {R : List Tm} (h : Ch w c mb false tm tv false (.slice none 0 0) (mk R)) (hR : Apart R) (hz : SzR R) (tl : List ByteArray) (hta : AddrsG 0 true w tv tl) (hu : Up tl) (hs : ∀ s ∈ tl, s.size ≤ maxLen) (hn : R.length + tl.length ≤ 1000) (end_ : Int) :
    Calls Try.prog 31 #[.pointer (some ⟨c, 0, none⟩), .int .i64 6, .int .i64 end_] w (FoPost w c mb tv (folP false tm R 6 tl end_) ) := by
  have H := Lib.hid h
  obtain ⟨tp, tc, rfl⟩ := hta.slice
  have HT := Lib.hid hta
  have O2 := Lib.hid (onlyR2_c h (.slice tp tl.length tc) tl (by omega) hta.at hs)
  have HQ := Lib.hid (show ∀ U v, Ch U c mb false tm (.slice tp tl.length tc) false v (mk R) → AddrsG w.heap.size true U v (tl.filter fun s => decide (0 < getR R s)) → Tw w U c mb → FoPost w c mb (.slice tp tl.length tc) (folP false tm R 6 tl end_) (.returned (.tuple #[])) U from fun U v h1 h2 h3 => ⟨v, rfl, h1, h2, h3⟩)
  generalize FoPost w c mb (.slice tp tl.length tc) (folP false tm R 6 tl end_) = Q at HQ ⊢
  generalize (tl.filter fun s => decide (0 < getR R s)) = al at O2 HQ
  have c3 := H.out.c3
  have c0 := H.out.c0
  clear h hR hz hta hu hs hn
  go_enter Try.func31, Try.ntmps31
  go_wp2_with fail
  ((with_reducible refine O2.out.mono ?_); rintro e w3 ⟨u3, rfl, a3, k3⟩)
  obtain ⟨p3, q3, rfl⟩ := a3.slice
  have H3 := Lib.hid (H.out.below k3)
  have K3 := Lib.hid (Tw.ofBelow (p := c) (mb := mb) k3)
  clear c3 c0
  have c5 := H3.out.c5
  have f5 := H3.out.fz 5
  have HW := Lib.hid (show AddrsG w.heap.size true (w3.setCell ⟨c, 5, none⟩ (.slice p3 al.length q3)) (.slice p3 al.length q3) al from ad_tw a3 H3.out (Tw.setCell w3 c mb 5 _))
  have HF := Lib.hid (HQ.out _ _ (set5 H3.out _) HW.out (K3.out.trans (Tw.setCell w3 c mb 5 _)))
  clear a3 k3 O2 HQ
  go_wp2_with fail
  exact bodyPost_end (v := .tuple #[]) (by simp [results, Try.results31, go_sem]) rfl HF.out

end Go.Proofs.Ytceilgeefegbmaa
