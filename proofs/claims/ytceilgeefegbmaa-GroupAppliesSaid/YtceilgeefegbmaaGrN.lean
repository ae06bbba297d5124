/-
  'group.change.state'. A contract over the translated program.
-/
import Derived.Test.YtceilgeefegbmaaGrL
import Derived.Test.YtceilgeefegbmaaGrB
import Derived.Deep.AppendLies
import Derived.Deep.RegionLaw
import Derived.RegionTactic
namespace Go.Proofs.Ytceilgeefegbmaa
open Go Go.Maps Go.WideMaps
open Go.RowKit
set_option linter.unusedVariables false
set_option linter.unusedSimpArgs false

/-- The change's sources with their times, rising. -/
def staR (R : List Tm) : List Tm := (keysR R).map fun a => (a, getR R a)
theorem sta_take {R : List Tm} {k : Nat} {s : ByteArray} (h : (keysR R)[k]? = some s) : ((staR R).take (k + 1)).flatMap cellsTm = ((staR R).take k).flatMap cellsTm ++ [.string s, .int .i64 (getR R s)] := by
  have h2 : (staR R)[k]? = some (s, getR R s) := by simp [staR, h]
  rw [List.take_succ_eq_append_getElem (List.getElem?_eq_some_iff.1 h2).1, (List.getElem?_eq_some_iff.1 h2).2, List.flatMap_append]
  simp [cellsTm]
theorem sta_len {R : List Tm} (h : Apart R) : (staR R).length = R.length := by simp [staR, keys_len h]
def SPost (ex : Bool) (tm : Int) (l : List Tm) (w : World) (e : Ending) (w' : World) : Prop := ∃ vs m, e = .returned (.agg #[.bool ex, .int .i64 tm, vs]) ∧ w'.ownsRow w.heap.size 56 2 vs m (l.flatMap cellsTm) ∧ Below w.heap.size w w'

set_option maxHeartbeats 8000000 in
set_option maxRecDepth 100000 in
theorem state_c {w : World} {c mb : Nat} {ex : Bool} {tm : Int} {tv av : Value} {ag : Bool} {R : List Tm} (h : Ch w c mb ex tm tv ag av (mk R)) (hR : Apart R) (hz : SzR R) (hn : R.length ≤ 1000) :
    Calls Try.prog 33 #[.pointer (some ⟨c, 0, none⟩)] w (SPost ex tm (staR R) w) := by
  have H := Lib.hid h
  have S1 := Lib.hid (fun (U : World) (h' : Ch U c mb ex tm tv ag av (mk R)) => src2_c h' hR (by omega))
  have hkl := keys_len hR
  have HTK0 := Lib.hid (fun k s (h : (keysR R)[k]? = some s) => sta_take h)
  have HGK := Lib.hid (fun (U : World) s (hs : s ∈ keysR R) (h' : Ch U c mb ex tm tv ag av (mk R)) => show (Instr.lookup 69 (.map (some mb)) (.string s) false).run Try.prog U = .ok (.int .i64 (getR R s)) U from by
    have := h'.2.look1 law_KA und_MA (zero_IA U) (keyA s (hz.keys s hs))
    rw [mk_get] at this
    exact this)
  have HST := Lib.hid (show (staR R).length = (keysR R).length by simp [staR])
  obtain ⟨i0, hi0, hz0, hz1, hz2⟩ := info_parts info_Tm
  have HQ := Lib.hid (show ∀ U vs m, U.ownsRow w.heap.size 56 2 vs m ((staR R).flatMap cellsTm) → Below w.heap.size w U → SPost ex tm (staR R) w (.returned (.agg #[.bool ex, .int .i64 tm, vs])) U from fun U vs m h1 h2 => ⟨vs, m, rfl, h1, h2⟩)
  generalize SPost ex tm (staR R) w = Q at HQ ⊢
  generalize staR R = sl at HTK0 HST HQ
  have HK0 := Lib.hid (show ∀ s ∈ keysR R, s ∈ keysR R from fun s hs => hs)
  obtain ⟨n, hn2⟩ : ∃ n, n = (keysR R).length := ⟨_, rfl⟩
  have HNN := Lib.hid hn2
  have hnb : n ≤ 1000 := by omega
  obtain ⟨ll, hll⟩ : ∃ ll, ll = keysR R := ⟨_, rfl⟩
  rw [← hll] at HTK0 HST HNN S1
  have HLL := Lib.hid hll
  have HB1 := Lib.hid ((Below.refl w.heap.size w).alloc (Nat.le_refl _) (.cells #[.bool false, .int .i64 0, .slice none 0 0] 24))
  have HRB := Lib.hid (heap_new w (.cells #[.bool false, .int .i64 0, .slice none 0 0] 24))
  have hcl := H.out.lt
  have hml := H.out.2.lt
  have H1 := Lib.hid (H.out.below ((Below.refl w.heap.size w).alloc (Nat.le_refl _) (.cells #[.bool false, .int .i64 0, .slice none 0 0] 24)))
  clear h hR hz hn hkl hn2 hll HK0
  go_enter Try.func33, Try.ntmps33
  go_upto_region 1 with fail
  have hs1 : (w.alloc (.cells #[.bool false, .int .i64 0, .slice none 0 0] 24)).heap.size = w.heap.size + 1 := by simp
  generalize w.alloc (.cells #[.bool false, .int .i64 0, .slice none 0 0] 24) = W1 at HB1 HRB H1 hs1 ⊢
  have c0 := H1.out.c0
  have c1 := H1.out.c1
  have hcl1 := H1.out.lt
  have HW2 := Lib.hid (show Below w.heap.size w ((W1.alloc (.cells #[.bool ex, .int .i64 tm, .slice none 0 0] 24)).drew) from (HB1.out.alloc HB1.out.size (.cells #[.bool ex, .int .i64 tm, .slice none 0 0] 24)).drew)
  have HRB2 := Lib.hid (show ((W1.alloc (.cells #[.bool ex, .int .i64 tm, .slice none 0 0] 24)).drew).heap[w.heap.size]? = _ from heap_old HRB.out)
  have HSB2 := Lib.hid (show ((W1.alloc (.cells #[.bool ex, .int .i64 tm, .slice none 0 0] 24)).drew).heap[W1.heap.size]? = _ from heap_new W1 (.cells #[.bool ex, .int .i64 tm, .slice none 0 0] 24))
  go_region
  rw [hs1] at HSB2
  have hgb : w.heap.size ≤ w.heap.size + 1 := Nat.le_succ _
  have hH2 : Ch ((W1.alloc (.cells #[.bool ex, .int .i64 tm, .slice none 0 0] 24)).drew) c mb ex tm tv ag av (mk R) := H.out.below HW2.out
  have H2 := Lib.hid hH2
  clear hH2 c0 c1 hcl1 hs1 HB1 HRB H1
  generalize (W1.alloc (.cells #[.bool ex, .int .i64 tm, .slice none 0 0] 24)).drew = W2 at HW2 HRB2 HSB2 H2 ⊢
  obtain ⟨sb, hsb⟩ : ∃ sb, sb = w.heap.size + 1 := ⟨_, rfl⟩
  obtain ⟨rb, hrb⟩ : ∃ rb, rb = w.heap.size := ⟨_, rfl⟩
  rw [← hsb] at HSB2 ⊢
  rw [← hrb] at HRB2
  have HSR := Lib.hid (show sb ≠ rb by omega)
  have HGS := Lib.hid (show w.heap.size ≤ sb ∧ w.heap.size ≤ rb by omega)
  have hsb2 : w.heap.size = rb := hrb.symm
  clear hsb hrb hgb
  go_wp2_with fail
  ((with_reducible refine (S1.out _ H2.out).mono ?_); rintro e w3 ⟨u3, rfl, a3, k3⟩)
  have HW3 := Lib.hid (HW2.out.trans (k3.mono HW2.out.size))
  have HSB3 := Lib.hid (below_block k3 (lt_of_block HSB2.out) HSB2.out)
  have HRB3 := Lib.hid (below_block k3 (lt_of_block HRB2.out) HRB2.out)
  obtain ⟨pp, cap, b, off, rfl, hp, hc⟩ := a3
  have HP := Lib.hid hp
  have HC := Lib.hid hc
  rw [← HNN.out]
  clear hp hc k3 S1 H2 HW2 HSB2 HRB2
  go_wp2_with fail
  go_loopw [5, 18] (fun _ i wr => ∃ (k : Nat) (sv : Value), k ≤ n ∧ i = .int .i64 k ∧ Hid (wr.ownsRow w.heap.size 56 2 sv k ((sl.take k).flatMap cellsTm)) ∧ Hid (wr.heap[sb]? = some (.cells #[.bool ex, .int .i64 tm, sv] 24 (0, 0))) ∧ Hid (wr.heap[rb]? = some (.cells #[.bool false, .int .i64 0, .slice none 0 0] 24 (0, 0))) ∧ Hid (Below w.heap.size w wr) ∧ Hid (ll ≠ [] → wr.heap[b]? = w3.heap[b]?)) (fun _ i _ => n - (intOf i).toNat)
  case atStart => exact ⟨0, _, Nat.zero_le _, rfl, Lib.hid (World.ownsRow_nil _ _ _ _), HSB3, HRB3, HW3, Lib.hid (fun _ => rfl)⟩
  case round =>
    clear HSB3 HRB3 HW3
    obtain ⟨k, sv, hk, rfl, HO, HSB, HRB, KB, HBK⟩ := hrel
    by_cases hlt : k < n
    · obtain ⟨s, hx⟩ : ∃ s, ll[k]? = some s := ⟨_, List.getElem?_eq_getElem (by rw [← HNN.out]; exact hlt)⟩
      have hne : ll ≠ [] := by rintro rfl; simp at hx
      obtain ⟨rfl, hbB, hbT⟩ := HP.out hne
      have HTK := Lib.hid (HTK0.out k s hx)
      have x0 : wr.cell? ⟨b, off + k, none⟩ = some (.string s) := (World.cell?_of_block (w := w3) (HBK.out hne)).trans (HC.out k s hx)
      have HHc := Lib.hid (H.out.below KB.out)
      have LK := Lib.hid (fun U h' => HGK.out U s (by rw [← HLL.out]; exact List.mem_of_getElem? hx) h')
      have HBW := Lib.hid (show wr.heap[b]? = w3.heap[b]? from HBK.out hne)
      obtain ⟨bcs, bf, hb3⟩ := hbT (by trivial)
      have HB3 := Lib.hid hb3
      have HBX := Lib.hid (HBW.out.trans hb3)
      generalize getR R s = ga at HTK LK
      have d1 : decide (k < n) = true := decide_eq_true hlt
      have d2 : decide ((k : Int) < (n : Int)) = true := decide_eq_true (by omega)
      have d3 : decide (n ≤ k) = false := decide_eq_false (by omega)
      have d4 : decide (0 ≤ (k : Int)) = true := decide_eq_true (by omega)
      go_upto_region 5 with fail
      obtain ⟨po, co, hsv⟩ := g_slice HO.out
      subst hsv
      have c2 := HHc.out.c2
      have l1 := LK.out wr HHc.out
      have l2 := LK.out wr.drew HHc.out
      have s2 : wr.cell? ⟨sb, 2, none⟩ = some (.slice po k co) := cell_of_block HSB.out rfl
      have OA := Lib.hid (show ((wr.alloc (.cells #[.string s, .int .i64 ga] 56)).drew).ownsRow w.heap.size 56 2 (.slice po k co) k ((sl.take k).flatMap cellsTm) from HO.out.alloc _)
      have CA := Lib.hid (show ∀ j u, [Value.string s, .int .i64 ga][j]? = some u → ((wr.alloc (.cells #[.string s, .int .i64 ga] 56)).drew).cell? ((⟨wr.heap.size, 0, none⟩ : Addr).add j) = some u from g_new wr [.string s, .int .i64 ga] 56)
      have n1 := Lib.hid (show k + 1 ≤ maxLen by unfold maxLen; omega)
      have n2 := Lib.hid (show (k + 1) * 24 ≤ 140737488355328 by omega)
      have hszw := KB.out.size
      have hsz1 := Lib.hid (show w.heap.size ≤ ((wr.alloc (.cells #[.string s, .int .i64 ga] 56)).drew).heap.size by show w.heap.size ≤ (wr.alloc _).heap.size; simp; omega)
      have oc := Lib.hid (one_tm s ga)
      have hsl : sb < wr.heap.size := lt_of_block HSB.out
      have hcw : c < wr.heap.size := HHc.out.lt
      have SBA := Lib.hid (show ((wr.alloc (.cells #[.string s, .int .i64 ga] 56)).drew).heap[sb]? = _ from heap_old HSB.out)
      have RBA := Lib.hid (show ((wr.alloc (.cells #[.string s, .int .i64 ga] 56)).drew).heap[rb]? = _ from heap_old HRB.out)
      have BXA := Lib.hid (show ((wr.alloc (.cells #[.string s, .int .i64 ga] 56)).drew).heap[b]? = _ from heap_old HBX.out)
      have KBA := Lib.hid (show Below w.heap.size w ((wr.alloc (.cells #[.string s, .int .i64 ga] 56)).drew) from (KB.out.alloc KB.out.size (.cells #[.string s, .int .i64 ga] 56)).drew)
      clear x0 hbB hbT hb3
      go_region_law (refine step_append_lies _ rfl _ _ 22 rfl w.heap.size 56 i0 (.agg #[.string ByteArray.empty, .int .i64 0]) 2 24 Try.underlying22 hi0 hz0 hz1 hz2 rfl (by decide) (.slice po k co) k ((sl.take k).flatMap cellsTm) rfl OA.out ⟨wr.heap.size, 0, none⟩ 1 1 [.string s, .int .i64 ga] rfl rfl CA.out oc.out (by decide) n1.out n2.out hsz1.out _ rfl ?_; intro g7 c7 w7 hown7 hg7 hat7 hlt7; have SB7 := Lib.hid (g_keeps OA.out hg7 SBA.out (by decide)); have RB7 := Lib.hid (g_keeps OA.out hg7 RBA.out (by decide)); have BX7 := Lib.hid (g_keeps OA.out hg7 BXA.out (by decide)); have OW7 := Lib.hid hown7; have KB7 := Lib.hid (KBA.out.grown hg7 hsz1.out (fun j hj => (OA.out.lt j hj).1)); have z1 := cell_of_block (j := 2) SB7.out rfl; have fr := (fun j : Nat => free_of_block (j := j) SB7.out); clear hown7 hg7 hat7 hlt7)
      all_goals
        have OW8 := Lib.hid (g_set (t := sb) (j := 2) (u := .slice (some ⟨g7, 0, none⟩) (k + 1) c7) OW7.out SB7.out (by decide))
        have SB8 := Lib.hid (heap_store (j := 2) (v := .slice (some ⟨g7, 0, none⟩) (k + 1) c7) SB7.out)
        have RB8 := Lib.hid (heap_store_other (c := sb) (j := 2) (v := .slice (some ⟨g7, 0, none⟩) (k + 1) c7) RB7.out (Ne.symm HSR.out))
        have HNB : b ≠ sb := fun e => by
          have h1 := BX7.out
          rw [e, SB7.out] at h1
          simp only [Option.some.injEq, Obj.cells.injEq] at h1
          exact absurd h1.2.1 (by decide)
        have BX8 := Lib.hid (heap_store_other (c := sb) (j := 2) (v := .slice (some ⟨g7, 0, none⟩) (k + 1) c7) BX7.out HNB)
        have KB8 := Lib.hid (KB7.out.setCell (p := ⟨sb, 2, none⟩) HGS.out.1 (.slice (some ⟨g7, 0, none⟩) (k + 1) c7))
        clear z1 fr HNB
        go_wp2_with fail
        go_roundw
        case rel => exact ⟨k + 1, _, by omega, by go_num, Lib.hid (by rw [HTK.out]; exact OW8.out), SB8, RB8, KB8, Lib.hid (fun _ => BX8.out.trans HB3.out.symm)⟩
        case measure => simp [intOf]; omega
    · obtain rfl : k = n := by omega
      have HSL := Lib.hid (show sl.take k = sl from List.take_of_length_le (by rw [HST.out, HNN.out]; exact Nat.le_refl _))
      rw [HSL.out] at HO
      obtain ⟨po, co, hsv⟩ := g_slice HO.out
      subst hsv
      have s0 := cell_of_block (j := 0) HSB.out rfl
      have s1 := cell_of_block (j := 1) HSB.out rfl
      have s2 := cell_of_block (j := 2) HSB.out rfl
      have r0 := cell_of_block (j := 0) HRB.out rfl
      have r1 := cell_of_block (j := 1) HRB.out rfl
      have r2 := cell_of_block (j := 2) HRB.out rfl
      have rf := (fun j : Nat => free_of_block (j := j) HRB.out)
      clear hlt
      have HZ := Lib.hid (heap_store (j := 2) (v := .slice po k co) (heap_store (j := 1) (v := .int .i64 tm) (heap_store (j := 0) (v := .bool ex) HRB.out)))
      have KZ := Lib.hid (((KB.out.setCell (p := ⟨rb, 0, none⟩) HGS.out.2 (.bool ex)).setCell (p := ⟨rb, 1, none⟩) HGS.out.2 (.int .i64 tm)).setCell (p := ⟨rb, 2, none⟩) HGS.out.2 (.slice po k co))
      have HA := Lib.hid ((g_set (t := rb) (j := 2) (u := .slice po k co) (g_set (t := rb) (j := 1) (u := .int .i64 tm) (g_set (t := rb) (j := 0) (u := .bool ex) HO.out HRB.out (by decide)) (heap_store (j := 0) (v := .bool ex) HRB.out) (by decide)) (heap_store (j := 1) (v := .int .i64 tm) (heap_store (j := 0) (v := .bool ex) HRB.out)) (by decide)))
      go_wp2_with fail
      have z0 := cell_of_block (j := 0) HZ.out rfl
      have z1 := cell_of_block (j := 1) HZ.out rfl
      have z2 := cell_of_block (j := 2) HZ.out rfl
      exact bodyPost_ret (v := .agg #[.bool ex, .int .i64 tm, .slice po k co]) (by simp [results, Try.results33, go_sem, z0, z1, z2]) rfl (HQ.out _ _ _ HA.out KZ.out)
end Go.Proofs.Ytceilgeefegbmaa
