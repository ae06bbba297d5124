/-
  VLANs: the members of a VLAN: vlan.Members and the document's; what the laws call few. Contracts over the translated program.
-/
import Derived.Test.YtgoibogpebbkaaaVlG
namespace Go.Proofs.Ytgoibogpebbkaaa
open Go.RowKit
set_option linter.unusedVariables false

/-- What Members answers. -/
def MemPost (l : List Int) (w : World) (e : Ending) (w' : World) : Prop := ∃ v, e = .returned v ∧ IntsAt w' v l ∧ Below w.heap.size w w'
theorem info_intm : (Try.prog.info? 3).map (fun i => (i.zero, i.size, i.bytes)) = some (some (.int .i64 0), 1, 8) := by kernel_rfl
theorem cells1i (w : World) (o : Obj) (x : Value) (t : TypeId) : ∀ j u, [x][j]? = some u → (w.alloc (.cells #[x] t)).cell? ((⟨w.heap.size, 0, none⟩ : Addr).add j) = some u := by
  intro j u hj
  have e : (⟨w.heap.size, 0, none⟩ : Addr).add j = ⟨w.heap.size, j, none⟩ := by unfold Addr.add; split <;> simp_all
  rw [e]
  exact cell_of_block (heap_new _ _) (by simpa using hj)
theorem memb_step (L : List Pt) (k : Nat) (v : Int) (h : k < L.length) : (memB L[k] v = false → membI (L.take (k + 1)) v = membI (L.take k) v) ∧ (memB L[k] v = true → membI (L.take (k + 1)) v = membI (L.take k) v ++ [(k : Int)]) := by
  have hl : (L.take k).length = k := by rw [List.length_take]; omega
  have := membGo_snoc v (L.take k) L[k] 0
  rw [← List.take_succ_eq_append_getElem h] at this
  unfold membI
  rw [this, hl, Nat.zero_add]
  refine ⟨fun hm => by rw [hm]; simp, fun hm => by rw [hm]; simp⟩

set_option maxHeartbeats 4000000 in
set_option maxRecDepth 100000 in
theorem members_c (u : Value) (L : List Pt) (v : Int) (w : World) (hl : L.length ≤ 1000) (hp : PtsL L) (ha : PtsAt w u L) :
    Calls Try.prog 10 #[u, .int .i64 v] w (MemPost (membI L v) w) := by
  obtain ⟨p, cap, b, off, rfl, hpp, hc⟩ := ha
  have HP := Lib.hid hpp
  have HC := Lib.hid hc
  have HL := Lib.hid hp
  obtain ⟨i0, hi, hz0, hz1, hz2⟩ := info_parts info_intm
  clear hpp hc hp
  go_enter Try.func10, Try.ntmps10
  go_wp2_with fail
  go_loopw [5, 6, 7, 10] (fun m _ _ i wr => ∃ k : Nat, k ≤ L.length ∧ i = .int .i64 k ∧ Hid ((membI (L.take k) v).length ≤ k) ∧ Hid (wr.ownsRow w.heap.size 3 1 m (membI (L.take k) v).length ((membI (L.take k) v).map (Value.int .i64))) ∧ Hid (Below w.heap.size w wr)) (fun m _ _ i _ => L.length - (intOf i).toNat)
  case atStart => exact ⟨0, Nat.zero_le _, rfl, Lib.hid (Nat.le_refl _), Lib.hid (World.ownsRow_nil _ _ _ _), Lib.hid (Below.refl _ _)⟩
  case round =>
    obtain ⟨k, hk, rfl, hlen, hown, hb⟩ := hrel
    by_cases hlt : k < L.length
    · have hne : L ≠ [] := by rintro rfl; simp at hlt
      obtain rfl := HP.out hne
      obtain ⟨y0, vt, vp, y1, y2, a1, a2⟩ := HC.out k _ (List.getElem?_eq_getElem hlt)
      have hS := Lib.hid (memb_step L k v hlt)
      have hM := Lib.hid (HL.out _ (List.getElem_mem hlt))
      generalize L[k] = r at y0 y1 y2 a1 a2 hS hM
      obtain ⟨d, tg, pl⟩ := r
      simp only at y0 hM a1 a2
      have x0 : wr.cell? ⟨b, off + k * 3, none⟩ = some (.int .i64 d) := (icell_below (w := w) hb.out y0)
      have x1 : wr.cell? ⟨b, off + k * 3 + 1, none⟩ = some vt := (icell_below (w := w) hb.out y1)
      have x2 : wr.cell? ⟨b, off + k * 3 + 2, none⟩ = some vp := (icell_below (w := w) hb.out y2)
      have HQ := Lib.hid fun (U : World) (hU : Below wr.heap.size wr U) => member_c ⟨d, tg, pl⟩ vt vp v U (by have := hM.out.1; simp only; omega) (by have := hM.out.2; simp only; omega) ((a1.below hb.out).below hU) ((a2.below hb.out).below hU)
      simp only at HQ
      have B0 := Lib.hid fun o => (Below.refl wr.heap.size wr).alloc (Nat.le_refl _) o
      obtain ⟨p1, c1, rfl⟩ := a1.slice
      obtain ⟨p2, c2, rfl⟩ := a2.slice
      generalize tg.length = n1 at *
      generalize pl.length = n2 at *
      have hlt' : (k : Int) < (L.length : Int) := by omega
      clear hne y0 y1 y2 a1 a2 hM
      rcases hz : memB ⟨d, tg, pl⟩ v with _ | _
      · have E := Lib.hid (hS.out.1 hz)
        rw [hz] at HQ
        clear hz hS
        go_wp2_with fail
        ((with_reducible refine (HQ.out _ (B0.out _)).mono ?_); rintro e w1 ⟨rfl, h1⟩)
        have HB := Lib.hid ((B0.out _).trans (h1.mono (B0.out _).size))
        have HO := Lib.hid (iowns_below hown.out HB.out)
        have HB2 := Lib.hid (hb.out.trans (HB.out.mono hb.out.size))
        clear h1
        go_wp2_with fail
        go_roundw
        case rel => exact ⟨k + 1, by omega, by go_num, Lib.hid (by rw [E.out]; have := hlen.out; omega), Lib.hid (by rw [E.out]; exact HO.out), HB2⟩
        case measure => simp [intOf]; omega
      · have E := Lib.hid (hS.out.2 hz)
        rw [hz] at HQ
        clear hz hS
        go_wp2_with fail
        ((with_reducible refine (HQ.out _ (B0.out _)).mono ?_); rintro e w1 ⟨rfl, h1⟩)
        have HB := Lib.hid ((B0.out _).trans (h1.mono (B0.out _).size))
        have HO := Lib.hid (iowns_below hown.out HB.out)
        have HB2 := Lib.hid (hb.out.trans (HB.out.mono hb.out.size))
        clear h1
        have hl2 := hlen.out
        generalize hml : (membI (L.take k) v) = ml at HO hl2 E hlen hown
        clear hml
        go_wp2_with (at_builtin; refine wpList_append_own _ rfl _ _ 25 rfl w.heap.size 3 i0 (.int .i64 0) 1 8 Try.underlying25 hi hz0 hz1 hz2 rfl (by decide) _ _ _ rfl (HO.out.alloc _) ⟨w1.heap.size, 0, none⟩ 1 1 [.int .i64 k] rfl rfl ?c1 ?c2 ?c3 ?c4 ?c5 ?_)
        case c1 => exact cells1i _ (.cells #[] 0) _ _
        case c2 => intro u hu; simp at hu; subst hu; rfl
        case c3 => unfold maxLen; omega
        case c4 => omega
        case c5 => have := HB2.out.size; simp at this ⊢; omega
        intro v' w5 hown' hgrow _
        have HO2 := Lib.hid hown'
        have HB3 := Lib.hid ((HB2.out.alloc HB2.out.size _).grown hgrow (by have := HB2.out.size; simp at this ⊢; omega) (fun j hj => (HO.out.lt j hj).1))
        clear hown' hgrow
        go_wp2_with fail
        go_roundw
        case rel => exact ⟨k + 1, by omega, by go_num, Lib.hid (by rw [E.out]; simp; omega), Lib.hid (by rw [E.out]; simpa using HO2.out), HB3⟩
        case measure => simp [intOf]; omega
    · obtain rfl : k = L.length := by omega
      have V := Lib.hid (show L.take L.length = L from List.take_length)
      rw [V.out] at hown
      clear hlt V
      go_wp2_with fail
      go_ret
      exact ⟨_, rfl, IntsAt.of_owns hown.out, hb.out⟩

set_option maxHeartbeats 4000000 in
set_option maxRecDepth 100000 in
theorem rmembers_c (u : Value) (L : List Pt) (v : Int) (w : World) (hl : L.length ≤ 1000) (hp : PtsL L) (ha : PtsAt w u L) :
    Calls Try.prog 14 #[u, .int .i64 v] w (MemPost (membI L v) w) := by
  obtain ⟨p, cap, b, off, rfl, hpp, hc⟩ := ha
  have HP := Lib.hid hpp
  have HC := Lib.hid hc
  have HL := Lib.hid hp
  obtain ⟨i0, hi, hz0, hz1, hz2⟩ := info_parts info_intm
  clear hpp hc hp
  go_enter Try.func14, Try.ntmps14
  go_wp2_with fail
  go_loopw [5, 6] (fun m i wr => ∃ k : Nat, k ≤ L.length ∧ i = .int .i64 k ∧ Hid ((membI (L.take k) v).length ≤ k) ∧ Hid (wr.ownsRow w.heap.size 3 1 m (membI (L.take k) v).length ((membI (L.take k) v).map (Value.int .i64))) ∧ Hid (Below w.heap.size w wr)) (fun m i _ => L.length - (intOf i).toNat)
  case atStart => exact ⟨0, Nat.zero_le _, rfl, Lib.hid (Nat.le_refl _), Lib.hid (World.ownsRow_nil _ _ _ _), Lib.hid (Below.refl _ _)⟩
  case round =>
    obtain ⟨k, hk, rfl, hlen, hown, hb⟩ := hrel
    by_cases hlt : k < L.length
    · have hne : L ≠ [] := by rintro rfl; simp at hlt
      obtain rfl := HP.out hne
      obtain ⟨y0, vt, vp, y1, y2, a1, a2⟩ := HC.out k _ (List.getElem?_eq_getElem hlt)
      have hS := Lib.hid (memb_step L k v hlt)
      have hM := Lib.hid (HL.out _ (List.getElem_mem hlt))
      generalize L[k] = r at y0 y1 y2 a1 a2 hS hM
      obtain ⟨d, tg, pl⟩ := r
      simp only at y0 hM a1 a2
      have x0 : wr.cell? ⟨b, off + k * 3, none⟩ = some (.int .i64 d) := (icell_below (w := w) hb.out y0)
      have x1 : wr.cell? ⟨b, off + k * 3 + 1, none⟩ = some vt := (icell_below (w := w) hb.out y1)
      have x2 : wr.cell? ⟨b, off + k * 3 + 2, none⟩ = some vp := (icell_below (w := w) hb.out y2)
      have HQ := Lib.hid fun (U : World) (hU : Below wr.heap.size wr U) => rmember_c ⟨d, tg, pl⟩ vt vp v U (by have := hM.out.1; simp only; omega) (by have := hM.out.2; simp only; omega) ((a1.below hb.out).below hU) ((a2.below hb.out).below hU)
      simp only at HQ
      have B0 := Lib.hid (Below.refl wr.heap.size wr)
      obtain ⟨p1, c1, rfl⟩ := a1.slice
      obtain ⟨p2, c2, rfl⟩ := a2.slice
      generalize tg.length = n1 at *
      generalize pl.length = n2 at *
      have hlt' : (k : Int) < (L.length : Int) := by omega
      clear hne y0 y1 y2 a1 a2 hM
      rcases hz : memB ⟨d, tg, pl⟩ v with _ | _
      · have E := Lib.hid (hS.out.1 hz)
        rw [hz] at HQ
        clear hz hS
        go_wp2_with fail
        ((with_reducible refine (HQ.out _ B0.out).mono ?_); rintro e w1 ⟨rfl, h1⟩)
        have HB := Lib.hid ((B0.out).trans (h1.mono (B0.out).size))
        have HO := Lib.hid (iowns_below hown.out HB.out)
        have HB2 := Lib.hid (hb.out.trans (HB.out.mono hb.out.size))
        clear h1
        go_wp2_with fail
        go_roundw
        case rel => exact ⟨k + 1, by omega, by go_num, Lib.hid (by rw [E.out]; have := hlen.out; omega), Lib.hid (by rw [E.out]; exact HO.out), HB2⟩
        case measure => simp [intOf]; omega
      · have E := Lib.hid (hS.out.2 hz)
        rw [hz] at HQ
        clear hz hS
        go_wp2_with fail
        ((with_reducible refine (HQ.out _ B0.out).mono ?_); rintro e w1 ⟨rfl, h1⟩)
        have HB := Lib.hid ((B0.out).trans (h1.mono (B0.out).size))
        have HO := Lib.hid (iowns_below hown.out HB.out)
        have HB2 := Lib.hid (hb.out.trans (HB.out.mono hb.out.size))
        clear h1
        have hl2 := hlen.out
        generalize hml : (membI (L.take k) v) = ml at HO hl2 E hlen hown
        clear hml
        go_wp2_with (at_builtin; refine wpList_append_own _ rfl _ _ 25 rfl w.heap.size 3 i0 (.int .i64 0) 1 8 Try.underlying25 hi hz0 hz1 hz2 rfl (by decide) _ _ _ rfl (HO.out.alloc _) ⟨w1.heap.size, 0, none⟩ 1 1 [.int .i64 k] rfl rfl ?c1 ?c2 ?c3 ?c4 ?c5 ?_)
        case c1 => exact cells1i _ (.cells #[] 0) _ _
        case c2 => intro u hu; simp at hu; subst hu; rfl
        case c3 => unfold maxLen; omega
        case c4 => omega
        case c5 => have := HB2.out.size; simp at this ⊢; omega
        intro v' w5 hown' hgrow _
        have HO2 := Lib.hid hown'
        have HB3 := Lib.hid ((HB2.out.alloc HB2.out.size _).grown hgrow (by have := HB2.out.size; simp at this ⊢; omega) (fun j hj => (HO.out.lt j hj).1))
        clear hown' hgrow
        go_wp2_with fail
        go_roundw
        case rel => exact ⟨k + 1, by omega, by go_num, Lib.hid (by rw [E.out]; simp; omega), Lib.hid (by rw [E.out]; simpa using HO2.out), HB3⟩
        case measure => simp [intOf]; omega
    · obtain rfl : k = L.length := by omega
      have V := Lib.hid (show L.take L.length = L from List.take_length)
      rw [V.out] at hown
      clear hlt V
      go_wp2_with fail
      go_ret
      exact ⟨_, rfl, IntsAt.of_owns hown.out, hb.out⟩


def fewP (r : Pt) : Bool := decide (r.tag.length ≤ 60) && decide (r.pln.length ≤ 60)
def fewGo : List Pt → Bool
  | [] => true
  | r :: t => fewP r && fewGo t
def fewV (L : List Pt) : Bool := decide (L.length ≤ 20) && fewGo L
theorem fewGo_snoc (L : List Pt) (r : Pt) : fewGo (L ++ [r]) = (fewGo L && fewP r) := by
  induction L with
  | nil => simp [fewGo]
  | cons y t ih => simp only [List.cons_append, fewGo, ih, Bool.and_assoc]
theorem fewGo_no (L M : List Pt) (r : Pt) (h : fewP r = false) : fewGo (L ++ r :: M) = false := by
  induction L with
  | nil => simp [fewGo, h]
  | cons y t ih => simp only [List.cons_append, fewGo, ih, Bool.and_false]
theorem fewGo_at (L : List Pt) (h : fewGo L = true) : ∀ r ∈ L, fewP r = true := by
  induction L with
  | nil => intro r hr; simp at hr
  | cons y t ih =>
    intro r hr
    simp only [fewGo, Bool.and_eq_true] at h
    rcases List.mem_cons.1 hr with rfl | hr
    · exact h.1
    · exact ih h.2 r hr
theorem few_len (L : List Pt) (h : fewV L = true) : L.length ≤ 20 ∧ PtsL L := by
  unfold fewV at h
  simp only [Bool.and_eq_true, decide_eq_true_iff] at h
  refine ⟨h.1, fun r hr => ?_⟩
  have := fewGo_at L h.2 r hr
  unfold fewP at this
  simp only [Bool.and_eq_true, decide_eq_true_iff] at this
  omega
theorem few_step (L : List Pt) (k : Nat) (h : k < L.length) (ha : fewGo (L.take k) = true) : (fewP L[k] = true → fewGo (L.take (k + 1)) = true) ∧ (fewP L[k] = false → fewV L = false) := by
  refine ⟨fun hp => by rw [List.take_succ_eq_append_getElem h, fewGo_snoc, ha, hp]; rfl, fun hp => ?_⟩
  have := fewGo_no (L.take k) (L.drop (k + 1)) L[k] hp
  unfold fewV
  have e : L = L.take k ++ L[k] :: L.drop (k + 1) := by rw [← List.drop_eq_getElem_cons h, List.take_append_drop]
  rw [← e] at this
  rw [this, Bool.and_false]

set_option maxHeartbeats 2000000 in
set_option maxRecDepth 100000 in
theorem fewv_c (u : Value) (L : List Pt) (w : World) (hl : L.length ≤ 9223372036854775807) (ha : PtsAt w u L) :
    Calls Try.prog 8 #[u] w fun e w' => e = .returned (.bool (fewV L)) ∧ w = w' := by
  obtain ⟨p, cap, b, off, rfl, hpp, hc⟩ := ha
  have HP := Lib.hid hpp
  have HC := Lib.hid hc
  clear hpp hc
  by_cases h0 : 20 < L.length
  · have V := Lib.hid (show fewV L = false by unfold fewV; rw [decide_eq_false (by omega)]; rfl)
    have d1 : decide ((20 : Int) < (L.length : Int)) = true := decide_eq_true (by omega)
    clear h0
    go_enter Try.func8, Try.ntmps8
    go_wp2_with fail
    go_ret
    exact ⟨by rw [V.out]; rfl, rfl⟩
  · have d1 : decide ((20 : Int) < (L.length : Int)) = false := decide_eq_false (by omega)
    have V0 := Lib.hid (show fewV L = fewGo L by unfold fewV; rw [decide_eq_true (by omega)]; rfl)
    clear h0
    go_enter Try.func8, Try.ntmps8
    go_wp2_with fail
    go_loop [3] (fun i => ∃ k : Nat, k ≤ L.length ∧ i = .int .i64 k ∧ Hid (fewGo (L.take k) = true)) (fun i => L.length - (intOf i).toNat)
    case atStart => exact ⟨0, Nat.zero_le _, rfl, Lib.hid rfl⟩
    case round =>
      obtain ⟨k, hk, rfl, hall⟩ := hrel
      by_cases hlt : k < L.length
      · have hne : L ≠ [] := by rintro rfl; simp at hlt
        obtain rfl := HP.out hne
        obtain ⟨y0, vt, vp, y1, y2, a1, a2⟩ := HC.out k _ (List.getElem?_eq_getElem hlt)
        have hS := Lib.hid (few_step L k hlt hall.out)
        generalize L[k] = r at y0 y1 y2 a1 a2 hS
        obtain ⟨d, tg, pl⟩ := r
        simp only at y0 a1 a2
        obtain ⟨p1, c1, rfl⟩ := a1.slice
        obtain ⟨p2, c2, rfl⟩ := a2.slice
        have hV := Lib.hid (show fewP ⟨d, tg, pl⟩ = (decide (tg.length ≤ 60) && decide (pl.length ≤ 60)) from rfl)
        generalize fewP ⟨d, tg, pl⟩ = fp at hS hV
        generalize tg.length = n1 at *
        generalize pl.length = n2 at *
        have hlt' : (k : Int) < (L.length : Int) := by omega
        clear hne a1 a2 y0
        by_cases h1 : 60 < n1
        · have V := Lib.hid (hS.out.2 (by rw [hV.out, decide_eq_false (by omega)]; rfl))
          have d2 : decide ((60 : Int) < (n1 : Int)) = true := decide_eq_true (by omega)
          clear h1
          go_wp2_with fail
          go_ret
          exact ⟨by rw [V.out]; rfl, rfl⟩
        · have d2 : decide ((60 : Int) < (n1 : Int)) = false := decide_eq_false (by omega)
          by_cases h2 : 60 < n2
          · have V := Lib.hid (hS.out.2 (by rw [hV.out, decide_eq_true (show n1 ≤ 60 by omega), decide_eq_false (by omega)]; rfl))
            have d3 : decide ((60 : Int) < (n2 : Int)) = true := decide_eq_true (by omega)
            clear h1 h2
            go_wp2_with fail
            go_ret
            exact ⟨by rw [V.out]; rfl, rfl⟩
          · have d3 : decide ((60 : Int) < (n2 : Int)) = false := decide_eq_false (by omega)
            have A2 := Lib.hid (hS.out.1 (by rw [hV.out, decide_eq_true (show n1 ≤ 60 by omega), decide_eq_true (show n2 ≤ 60 by omega)]; rfl))
            clear h1 h2
            go_wp2_with fail
            go_round
            case rel => exact ⟨k + 1, by omega, by go_num, A2⟩
            case measure => simp [intOf]; omega
      · obtain rfl : k = L.length := by omega
        have V := Lib.hid (show fewV L = true by have h := hall.out; rw [List.take_length] at h; rw [V0.out, h])
        clear hlt
        go_wp2_with fail
        go_ret
        exact ⟨by rw [V.out]; rfl, rfl⟩

end Go.Proofs.Ytgoibogpebbkaaa
