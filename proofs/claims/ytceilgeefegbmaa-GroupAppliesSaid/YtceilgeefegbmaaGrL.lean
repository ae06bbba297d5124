/-
  The change over its plain list: sources, only, exclude. Contracts over the translated program.
-/
import Derived.Test.YtceilgeefegbmaaGrP
import Derived.Test.YtceilgeefegbmaaGrF
import Derived.Test.YtceilgeefegbmaaGrG
namespace Go.Proofs.Ytceilgeefegbmaa
open Go Go.Maps Go.WideMaps
open Go.RowKit
set_option linter.unusedVariables false
set_option linter.unusedSimpArgs false

/-- Sources that are not too long. -/
def SzR (R : List Tm) : Prop := ∀ x ∈ R, x.1.size ≤ maxLen
theorem SzR.nm {R : List Tm} (h : SzR R) : ∀ s ∈ nmS R, s.size ≤ maxLen := by
  intro s hs
  obtain ⟨x, hx, rfl⟩ := List.mem_map.1 hs
  exact h x hx
theorem SzR.keys {R : List Tm} (h : SzR R) : ∀ s ∈ keysR R, s.size ≤ maxLen := fun s hs => h.nm s ((ris_mem _ _).1 hs)
theorem SzR.put {R : List Tm} (h : SzR R) {s : ByteArray} (hs : s.size ≤ maxLen) (e : Int) : SzR (putR R s e) := by
  intro x hx
  unfold putR delR at hx
  rcases List.mem_append.1 hx with hx | hx
  · exact h x (List.mem_filter.1 hx).1
  · simp at hx
    subst hx
    exact hs
theorem SzR.putA {e : Int} : ∀ (l : List ByteArray) {R : List Tm}, SzR R → (∀ s ∈ l, s.size ≤ maxLen) → SzR (putA R l e)
  | [], R, h, _ => h
  | s :: r, R, h, hs => SzR.putA r (h.put (hs s (by simp)) e) (fun t ht => hs t (by simp [ht]))
theorem SzR.hurA {e : Int} : ∀ (l : List ByteArray) {R : List Tm}, SzR R → (∀ s ∈ l, s.size ≤ maxLen) → SzR (hurA R l e)
  | [], R, h, _ => h
  | s :: r, R, h, hs => SzR.hurA r (h.put (hs s (by simp)) _) (fun t ht => hs t (by simp [ht]))
theorem SzR.delA : ∀ (l : List ByteArray) {R : List Tm}, SzR R → SzR (delA R l)
  | [], R, h => h
  | s :: r, R, h => SzR.delA r (fun x hx => h x (List.mem_filter.1 hx).1)
theorem putA_len (e : Int) : ∀ (l : List ByteArray) (R : List Tm), (putA R l e).length ≤ R.length + l.length
  | [], R => by simp [putA]
  | s :: r, R => by
    have h1 := putA_len e r (putR R s e)
    have h2 : (putR R s e).length ≤ R.length + 1 := by
      unfold putR delR
      have := List.length_filter_le (fun x : Tm => !decide (x.1 = s)) R
      simp
      omega
    have h3 : putA R (s :: r) e = putA (putR R s e) r e := rfl
    rw [h3, List.length_cons]
    omega
theorem hurA_len (e : Int) : ∀ (l : List ByteArray) (R : List Tm), (hurA R l e).length ≤ R.length + l.length
  | [], R => by simp [hurA]
  | s :: r, R => by
    have h1 := hurA_len e r (putR R s (min (getR R s) e))
    have h2 : (putR R s (min (getR R s) e)).length ≤ R.length + 1 := by
      unfold putR delR
      have := List.length_filter_le (fun x : Tm => !decide (x.1 = s)) R
      simp
      omega
    have h3 : hurA R (s :: r) e = hurA (putR R s (min (getR R s) e)) r e := rfl
    rw [h3, List.length_cons]
    omega
theorem delA_len : ∀ (l : List ByteArray) (R : List Tm), (delA R l).length ≤ R.length
  | [], R => by simp [delA]
  | s :: r, R => by
    have h1 := delA_len r (delR R s)
    have h2 : (delR R s).length ≤ R.length := List.length_filter_le _ _
    have h3 : delA R (s :: r) = delA (delR R s) r := rfl
    rw [h3]
    omega
theorem delA_take {l : List ByteArray} {k : Nat} {s : ByteArray} (R : List Tm) (h : l[k]? = some s) : delA R (l.take (k + 1)) = delR (delA R (l.take k)) s := by
  rw [List.take_succ_eq_append_getElem (List.getElem?_eq_some_iff.1 h).1, (List.getElem?_eq_some_iff.1 h).2]
  simp [delA]

/-- What lies in a row of addresses stays, whatever the change's block and map turn. -/
theorem ad_tw {B : Nat} {w w' : World} {c mb : Nat} {ex : Bool} {tm : Int} {tv av : Value} {ag : Bool} {L : List T3} {v : Value} {l : List ByteArray} (h : AddrsG B true w v l) (hc : Ch w c mb ex tm tv ag av L) (k : Tw w w' c mb) : AddrsG B true w' v l := by
  obtain ⟨p, cap, b, off, hv, hp, hx⟩ := h
  have same : l ≠ [] → w'.heap[b]? = w.heap[b]? := by
    intro hl
    obtain ⟨cs, f, hb⟩ := (hp hl).2.2 rfl
    refine k.block b (lt_of_block hb) ?_ ?_
    · rintro rfl
      have h1 := hc.1
      rw [hb] at h1
      simp only [Option.some.injEq, Obj.cells.injEq] at h1
      exact absurd h1.2.1 (by decide)
    · rintro rfl
      obtain ⟨l', _, es, clock, h2, _⟩ := hc.2
      rw [hb] at h2
      cases h2
  refine ⟨p, cap, b, off, hv, fun hl => ⟨(hp hl).1, (hp hl).2.1, fun ht => ?_⟩, fun i s hi => ?_⟩
  · obtain ⟨cs, f, hb⟩ := (hp hl).2.2 ht
    exact ⟨cs, f, (same hl).trans hb⟩
  · have hl : l ≠ [] := by rintro rfl; simp at hi
    rw [← hx i s hi]
    exact World.cell?_of_block (w := w) (same hl)

theorem src2_c {w : World} {c mb : Nat} {ex : Bool} {tm : Int} {tv av : Value} {ag : Bool} {R : List Tm} (h : Ch w c mb ex tm tv ag av (mk R)) (ha : Apart R) (hn : R.length ≤ 1000000) :
    Calls Try.prog 43 #[.pointer (some ⟨c, 0, none⟩)] w fun e w' => ∃ v, e = .returned v ∧ AddrsG w.heap.size true w' v (keysR R) ∧ Below w.heap.size w w' :=
  (sources_c h (by rw [mk_len]; exact hn)).mono fun e w' ⟨v, ss, l, he, hp, hS, hrow, hb⟩ => by
    refine ⟨v, he, ?_, hb⟩
    have := perm_up ha hp hS
    rw [enc_toB, this] at hrow
    exact (AddrsG.of_owns hrow).mono (Nat.le_succ _) (fun h => h)
theorem onlyR2_c {w : World} {c mb : Nat} {ex : Bool} {tm : Int} {tv av : Value} {ag : Bool} {R : List Tm} (h : Ch w c mb ex tm tv ag av (mk R)) (v : Value) (l : List ByteArray) (hl : l.length ≤ 1000000) (ha : AddrsAt w v l) (hs : ∀ s ∈ l, s.size ≤ maxLen) :
    Calls Try.prog 42 #[v, .func (.func 44) #[.pointer (some ⟨c, 0, none⟩)] #[]] w fun e w' => ∃ u, e = .returned u ∧ AddrsG w.heap.size true w' u (l.filter fun s => decide (0 < getR R s)) ∧ Below w.heap.size w w' :=
  onlyR_c c _ v l w hl ha fun s U hm k => (runs_c (h.below k) s (hs s hm)).mono fun e w' h2 => by
    rw [mk_get] at h2
    exact ⟨h2.1, by rw [h2.2]; exact Below.refl _ _⟩
theorem onlyU2_c {w : World} {c mb : Nat} {ex : Bool} {tm : Int} {tv av : Value} {ag : Bool} {R : List Tm} (h : Ch w c mb ex tm tv ag av (mk R)) (v : Value) (l : List ByteArray) (hl : l.length ≤ 1000000) (ha : AddrsAt w v l) (hs : ∀ s ∈ l, s.size ≤ maxLen) :
    Calls Try.prog 42 #[v, .func (.func 48) #[.pointer (some ⟨c, 0, none⟩)] #[]] w fun e w' => ∃ u, e = .returned u ∧ AddrsG w.heap.size true w' u (l.filter fun s => !(look R s).isSome) ∧ Below w.heap.size w w' :=
  onlyU_c c _ v l w hl ha fun s U hm k => (unknown_c (h.below k) s (hs s hm)).mono fun e w' h2 => by
    rw [mk_has] at h2
    exact ⟨h2.1, by rw [h2.2]; exact Below.refl _ _⟩
theorem onlyT2_c {w : World} {c mb : Nat} {ex : Bool} {tm : Int} {tv av : Value} {ag : Bool} {R : List Tm} (h : Ch w c mb ex tm tv ag av (mk R)) (tl : List ByteArray) (htl : tl.length ≤ 1000000) (hta : AddrsG 0 true w tv tl) (hu : Up tl) (v : Value) (l : List ByteArray) (hl : l.length ≤ 1000000) (ha : AddrsAt w v l) :
    Calls Try.prog 42 #[v, .func (.func 45) #[.pointer (some ⟨c, 0, none⟩)] #[]] w fun e w' => ∃ u, e = .returned u ∧ AddrsG w.heap.size true w' u (l.filter fun s => !hasS tl s) ∧ Below w.heap.size w w' :=
  onlyT_c c _ v l w hl ha fun s U hm k => untold_c (h.below k) tl htl (hta.below k).at hu s

/-- The map behind exclude. -/
def excA (R : List Tm) (tl : List ByteArray) (fresh : Int) : List Tm := putA R (tl.filter fun s => !(look R s).isSome) fresh
def excR (R : List Tm) (tl : List ByteArray) (fresh : Int) : List Tm := delA (excA R tl fresh) ((keysR (excA R tl fresh)).filter fun s => !hasS tl s)
def ExPost (w : World) (c mb : Nat) (end_ : Int) (tv av : Value) (ag : Bool) (R : List Tm) (e : Ending) (w' : World) : Prop := e = .returned (.tuple #[]) ∧ Ch w' c mb true end_ tv ag av (mk R) ∧ Tw w w' c mb

set_option maxHeartbeats 8000000 in
set_option maxRecDepth 100000 in
theorem exclude_c {w : World} {c mb : Nat} {ex : Bool} {tm : Int} {tv av : Value} {ag : Bool} {R : List Tm} (h : Ch w c mb ex tm tv ag av (mk R)) (hR : Apart R) (hz : SzR R) (tl : List ByteArray) (hta : AddrsG 0 true w tv tl) (hu : Up tl) (hs : ∀ s ∈ tl, s.size ≤ maxLen) (hn : R.length + tl.length ≤ 1000) (fresh end_ : Int) :
    Calls Try.prog 47 #[.pointer (some ⟨c, 0, none⟩), .int .i64 fresh, .int .i64 end_] w (ExPost w c mb end_ tv av ag (excR R tl fresh)) := by
  have H := Lib.hid h
  have c3 := h.c3
  obtain ⟨tp, tc, htv⟩ := hta.slice
  have HTV := Lib.hid htv
  have O1 := Lib.hid (onlyU2_c h tv tl (by omega) hta.at hs)
  have hfl : (tl.filter fun s => !(look R s).isSome).length ≤ tl.length := List.length_filter_le _ _
  have hfs : ∀ s ∈ tl.filter (fun s => !(look R s).isSome), s.size ≤ maxLen := fun s hm => hs s (List.mem_filter.1 hm).1
  have EA := Lib.hid (show excA R tl fresh = putA R (tl.filter fun s => !(look R s).isSome) fresh from rfl)
  have hA1 : Apart (excA R tl fresh) := hR.putA _
  have hZ1 : SzR (excA R tl fresh) := hz.putA _ hfs
  have hL1 : (excA R tl fresh).length ≤ 1000 := by have := putA_len fresh (tl.filter fun s => !(look R s).isSome) R; unfold excA; omega
  have P1 := Lib.hid (fun (U : World) (v : Value) (h' : Ch U c mb ex tm tv ag av (mk R)) (ha : AddrsAt U v (tl.filter fun s => !(look R s).isSome)) => put_c h' v _ fresh (by rw [mk_len]; omega) ha hfs)
  generalize (tl.filter fun s => !(look R s).isSome) = fl at O1 hfl hfs EA P1
  have ER := Lib.hid (show excR R tl fresh = delA (excA R tl fresh) ((keysR (excA R tl fresh)).filter fun s => !hasS tl s) from rfl)
  generalize excR R tl fresh = RR at ER ⊢
  have EK := Lib.hid (mk_putL fresh fl R)
  rw [← EA.out] at EK
  generalize excA R tl fresh = R1 at EA hA1 hZ1 hL1 ER EK
  have S1 := Lib.hid (fun (U : World) (h' : Ch U c mb ex tm tv ag av (mk R1)) => src2_c h' hA1 (by omega))
  have hk1 : (keysR R1).length ≤ 1000 := by rw [keys_len hA1]; exact hL1
  have T1 := Lib.hid (fun (U : World) (v : Value) (h' : Ch U c mb ex tm tv ag av (mk R1)) (ht : AddrsG 0 true U tv tl) (ha : AddrsAt U v (keysR R1)) => onlyT2_c h' tl (by omega) ht hu v (keysR R1) (by omega) ha)
  have hls : ∀ s ∈ (keysR R1).filter (fun s => !hasS tl s), s.size ≤ maxLen := fun s hm => hZ1.keys s (List.mem_filter.1 hm).1
  have hll : ((keysR R1).filter fun s => !hasS tl s).length ≤ 1000 := Nat.le_trans (List.length_filter_le _ _) hk1
  generalize ((keysR R1).filter fun s => !hasS tl s) = ll at T1 hls hll ER
  have HLS := Lib.hid hls
  have HT := Lib.hid hta
  obtain ⟨n, hn2⟩ : ∃ n, n = ll.length := ⟨_, rfl⟩
  have HNN := Lib.hid hn2
  rw [← hn2] at hll
  have HQ := Lib.hid (show ∀ U, Ch U c mb true end_ tv ag av (mk RR) → Tw w U c mb → ExPost w c mb end_ tv av ag RR (.returned (.tuple #[])) U from fun U h1 h2 => ⟨rfl, h1, h2⟩)
  generalize ExPost w c mb end_ tv av ag RR = Q at HQ ⊢
  clear h hta hu hs hn hfl hfs hA1 hZ1 hL1 hk1 hls hn2 hR hz
  subst htv
  go_enter Try.func47, Try.ntmps47
  go_wp2_with fail
  ((with_reducible refine O1.out.mono ?_); rintro e w1 ⟨u1, rfl, a1, k1⟩)
  have H1 := Lib.hid (H.out.below k1)
  have A1 := Lib.hid a1.at
  have K1 := Lib.hid (Tw.ofBelow (p := c) (mb := mb) k1)
  have T2 := Lib.hid (HT.out.below k1)
  obtain ⟨p1, cp1, rfl⟩ := a1.slice
  clear a1 k1 O1 c3
  go_wp2_with fail
  ((with_reducible refine (P1.out _ _ H1.out A1.out).mono ?_); rintro e w2 ⟨rfl, h2, k2⟩)
  rw [EK.out] at h2
  have H2 := Lib.hid h2
  have T3 := Lib.hid (ad_tw T2.out H1.out k2)
  have K2 := Lib.hid (K1.out.trans k2)
  clear h2 k2 P1 A1 T2 K1 H1
  go_wp2_with fail
  ((with_reducible refine (S1.out _ H2.out).mono ?_); rintro e w3 ⟨u3, rfl, a3, k3⟩)
  have H3 := Lib.hid (H2.out.below k3)
  have A3 := Lib.hid a3.at
  have T4 := Lib.hid (T3.out.below k3)
  have K3 := Lib.hid (K2.out.trans (Tw.ofBelow k3))
  obtain ⟨p3, cp3, rfl⟩ := a3.slice
  clear a3 k3 S1 T3 K2 H2
  go_wp2_with fail
  ((with_reducible refine (T1.out _ _ H3.out T4.out A3.out).mono ?_); rintro e w4 ⟨u4, rfl, a4, k4⟩)
  have H4 := Lib.hid (H3.out.below k4)
  have K4 := Lib.hid (K3.out.trans (Tw.ofBelow k4))
  have A4 := Lib.hid a4
  obtain ⟨p4, cp4, rfl⟩ := a4.slice
  clear a4 k4 T1 T4 A3 K3 H3
  obtain ⟨pp, cap, b, off, hv, hp, hc⟩ := A4.out
  simp only [Value.slice.injEq, true_and] at hv
  obtain ⟨rfl, rfl⟩ := hv
  have HP := Lib.hid hp
  have HC := Lib.hid hc
  rw [← HNN.out]
  clear hp hc A4
  go_wp2_with fail
  go_loopw [7, 24] (fun _ i wr => ∃ k : Nat, k ≤ n ∧ i = .int .i64 k ∧ Hid (Ch wr c mb ex tm (.slice tp tl.length tc) ag av (mk (delA R1 (ll.take k)))) ∧ Hid (Tw w wr c mb) ∧ Hid (∀ j s, ll[j]? = some s → wr.cell? ⟨b, off + j, none⟩ = some (.string s))) (fun _ i _ => n - (intOf i).toNat)
  case atStart => exact ⟨0, Nat.zero_le _, rfl, H4, K4, HC⟩
  case round =>
    clear H4 K4 HC
    obtain ⟨k, hk, rfl, HH, HTw, HR⟩ := hrel
    by_cases hlt : k < n
    · obtain ⟨s, hx⟩ : ∃ s, ll[k]? = some s := ⟨_, List.getElem?_eq_getElem (by rw [← HNN.out]; exact hlt)⟩
      have hne : ll ≠ [] := by rintro rfl; simp at hx
      obtain rfl := (HP.out hne).1
      have HTK := Lib.hid (show mk (delA R1 (ll.take (k + 1))) = delT (mk (delA R1 (ll.take k))) (ky s) by rw [mk_del, delA_take R1 hx])
      have hkey := Lib.hid (keyA s (HLS.out s (List.mem_of_getElem? hx)))
      have x0 : wr.cell? ⟨b, off + k, none⟩ = some (.string s) := HR.out k s hx
      have c2 := HH.out.c2
      have hm := Lib.hid HH.out.2
      have d1 : decide (k < n) = true := decide_eq_true hlt
      have d2 : decide ((k : Int) < (n : Int)) = true := decide_eq_true (by omega)
      have d3 : decide (n ≤ k) = false := decide_eq_false (by omega)
      have d4 : decide (0 ≤ (k : Int)) = true := decide_eq_true (by omega)
      clear hx hne
      generalize mk (delA R1 (ll.take k)) = Lk at HH HTK hm
      go_wp2_with (first | (at_delete; refine wpList_delete_mp _ rfl _ _ 69 25 rfl 3 law_KA und_MA mb Lk rfl hm.out _ _ rfl hkey.out ?_; intro w5 hm5 ht5) | go_in)
      have HH5 := Lib.hid (HH.out.turn hm5 ht5)
      have HT5 := Lib.hid (HTw.out.trans (Tw.turned (p := c) ht5))
      have HR5 := Lib.hid (fun j s hj => cell_turn hm.out ht5 (HR.out j s hj))
      go_roundw
      case rel => exact ⟨k + 1, by omega, by go_num, Lib.hid (by rw [HTK.out]; exact HH5.out), HT5, HR5⟩
      case measure => simp [intOf]; omega
    · obtain rfl : k = n := by omega
      rw [List.take_of_length_le (by rw [HNN.out]; exact Nat.le_refl _), ← ER.out] at HH
      have c0 := HH.out.c0
      have c1 := HH.out.c1
      have f0 := HH.out.fz 0
      have f1 := HH.out.fz 1
      have H5 : Ch (wr.setCell ⟨c, 0, none⟩ (.bool true)) c mb true tm (.slice tp tl.length tc) ag av (mk RR) := ⟨heap_store (j := 0) (v := .bool true) HH.out.1, HH.out.2.setCell HH.out.ne _⟩
      have H6 : Ch ((wr.setCell ⟨c, 0, none⟩ (.bool true)).setCell ⟨c, 1, none⟩ (.int .i64 end_)) c mb true end_ (.slice tp tl.length tc) ag av (mk RR) := ⟨heap_store (j := 1) (v := .int .i64 end_) H5.1, H5.2.setCell H5.ne _⟩
      have HF := Lib.hid (HQ.out _ H6 ((HTw.out.trans (Tw.setCell wr c mb 0 (.bool true))).trans (Tw.setCell _ c mb 1 (.int .i64 end_))))
      clear hlt HH HTw HR HQ H5 H6
      go_wp2_with fail
      exact bodyPost_end (v := .tuple #[]) (by simp [results, Try.results47, go_sem]) rfl HF.out
end Go.Proofs.Ytceilgeefegbmaa
