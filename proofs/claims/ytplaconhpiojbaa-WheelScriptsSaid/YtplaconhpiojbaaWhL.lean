/-
  The wheel at keys of type int: Due. A contract over the translated program.
-/
import Derived.Test.YtplaconhpiojbaaWhJ
import Derived.Maps.AppendAt
import Derived.Test.YtplaconhpiojbaaWhK
namespace Go.Proofs.Ytplaconhpiojbaa
open Go Go.Maps Go.WideMaps
open Go.RowKit
set_option linter.unusedVariables false
set_option linter.unusedSimpArgs false

theorem kindI {w : World} {p mb : Nat} {room armed : Int} {L D D' : List T3} {now : Int} (h : HasI w p mb room armed L) (h1 : L.Perm D) (h2 : (dueL now D).Perm D') : ∀ x ∈ D', ∃ s : Int, x.1.value = .int .i64 s := by
  intro x hx
  have m1 : x ∈ L := h1.mem_iff.2 (List.mem_filter.1 (h2.mem_iff.2 hx)).1
  obtain ⟨v, hv⟩ := mp_kinds h.2 x m1
  obtain ⟨s, rfl⟩ := invI v _ hv
  exact ⟨s, litofI hv⟩

theorem info_KI : (Try.prog.info? 3).map (fun i => (i.zero, i.size, i.bytes)) = some (some (.int .i64 0), 1, 8) := by kernel_rfl

/-- WHAT Due LEAVES. -/
def DuePostI (now : Int) (p mb : Nat) (room armed : Int) (L : List T3) (w : World) (e : Ending) (w' : World) : Prop :=
  ∃ v D' mb', e = .returned v ∧ (dueL now L).Perm D' ∧ SortedT D' ∧ w'.ownsRow w.heap.size 3 1 v D'.length (D'.map (fun x => x.1.value)) ∧
    HasI w' p mb' room armed (latL now L) ∧ Tw w w' p mb ∧ (mb' = mb ∨ w.heap.size ≤ mb')

set_option maxHeartbeats 8000000 in
set_option maxRecDepth 100000 in
theorem dueI_c {w : World} {p mb : Nat} {room armed : Int} {L : List T3} (h : HasI w p mb room armed L) (now : Int) (hl : L.length < 1000000000) :
    Calls Try.prog 20 #[.pointer (some ⟨p, 0, none⟩), .int .i64 now] w (DuePostI now p mb room armed L w) := by
  have HN := Lib.hid (nextI_c h)
  have H := Lib.hid h
  clear h
  obtain ⟨i0, hi, hz0, hz1, hz2⟩ := info_parts info_KI
  go_enter Try.func20, Try.ntmps20
  go_upto_region 2 with (go_at_call 22; refine HN.out.mono ?_; rintro e w1 ⟨f, hb, rfl, hBe, hb1⟩)
  have HB1 := Lib.hid hb1
  have HBe := Lib.hid hBe
  clear hb1 hBe
  cases hb with
  | false =>
    go_wp2
    go_ret
    obtain ⟨e1, e2⟩ := due_none (now := now) (Or.inl HBe.out)
    unfold DuePostI
    rw [e1, e2]
    exact ⟨_, [], mb, rfl, List.Perm.refl _, List.Pairwise.nil, World.ownsRow_nil _ _ _ _, H.out.below HB1.out, Tw.ofBelow HB1.out, Or.inl rfl⟩
  | true =>
    by_cases hq : now < f
    · have k1 : decide (now < f) = true := decide_eq_true hq
      have E := Lib.hid (due_none (now := now) (Or.inr ⟨HBe.out, hq⟩))
      clear hq
      go_wp2
      go_ret
      unfold DuePostI
      rw [E.out.1, E.out.2]
      exact ⟨_, [], mb, rfl, List.Perm.refl _, List.Pairwise.nil, World.ownsRow_nil _ _ _ _, H.out.below HB1.out, Tw.ofBelow HB1.out, Or.inl rfl⟩
    · have k1 : decide (now < f) = false := decide_eq_false hq
      clear hq HBe HN
      have HS := Lib.hid (splitI_c (H.out.below HB1.out) now hl)
      go_upto_region 5 with (go_at_call 38; refine HS.out.mono ?_; rintro e w2 ⟨v, D, rfl, hP, hO, hM, hb2⟩)
      have HP := Lib.hid hP
      have HB2 := Lib.hid hb2
      have HO := Lib.hid hO
      have HM := Lib.hid hM
      have H2 := Lib.hid ((H.out.below HB1.out).below hb2)
      have hp1 := Lib.hid (H.out.below HB1.out).lt
      have hdl := Lib.hid (show (dueL now D).length < 1000000000 by have := List.length_filter_le (fun x : T3 => decide (x.2.1 ≤ now)) D; have := hP.length_eq; unfold dueL; omega)
      clear hP hb2 hO hM HS
      have f2 := H2.out.fz 2
      have c2 := H2.out.c2
      go_upto_region 6 with fail
      have HT3 := Lib.hid (Tw.setCell w2 p mb 2 (.map (some w1.heap.size)))
      have HO3 := Lib.hid (HO.out.kept (row := some p) (w' := w2.setCell ⟨p, 2, none⟩ (.map (some w1.heap.size))) ⟨rfl, rfl, rfl, by simp [World.setCell], fun k _ hk => Below.heap_setCell _ _ _ _ (fun e => hk (by rw [e]))⟩ (own_far HO.out (by have := hp1.out; omega)))
      have H3 := Lib.hid (show HasI (w2.setCell ⟨p, 2, none⟩ (.map (some w1.heap.size))) p w1.heap.size room armed (latL now D) from
        ⟨by simpa using heap_store (j := 2) (v := .map (some w1.heap.size)) H2.out.1, HM.out.setCell (fun e => by have := hp1.out; simp at e; omega) _⟩)
      clear f2 c2 HO HM H2
      generalize w2.setCell ⟨p, 2, none⟩ (.map (some w1.heap.size)) = w3 at HT3 HO3 H3 ⊢
      have HSo := Lib.hid (sortI_c HO3.out hdl.out)
      clear HO3
      go_wp2_with (go_at_call 39; refine HSo.out.mono ?_; rintro e w4 ⟨rfl, D', hPD, hSo, ⟨pp, off, cap, rfl, hC⟩, hb4⟩)
      have HPD := Lib.hid hPD
      have HSS := Lib.hid hSo
      have HC := Lib.hid hC
      have HB4 := Lib.hid hb4
      have hDl := Lib.hid (show D'.length < 1000000000 by have := hPD.length_eq; have := hdl.out; omega)
      have HKD := Lib.hid (kindI H.out HP.out hPD)
      clear hPD hSo hC hb4 HSo
      go_loopw [9, 11, 38] (fun s9 _ i wr => ∃ k : Nat, k ≤ D'.length ∧ i = .int .i64 k ∧ Hid (wr.ownsRow w4.heap.size 3 1 s9 k ((D'.take k).map (fun x => x.1.value))) ∧ Hid (Below w4.heap.size w4 wr)) (fun _ _ i _ => D'.length - (intOf i).toNat)
      case atStart => exact ⟨0, Nat.zero_le _, rfl, Lib.hid (World.ownsRow_nil _ _ _ _), Lib.hid (Below.refl _ _)⟩
      case round =>
        obtain ⟨k, hk, rfl, hown, hbw⟩ := hrel
        by_cases hlt : k < D'.length
        · have hKT := Lib.hid (keys_take D' k hlt)
          obtain ⟨g, rfl, hgl, x0, x1, x2⟩ := HC.out k D'[k] (List.getElem?_eq_getElem hlt)
          obtain ⟨kv, hkv⟩ := HKD.out D'[k] (List.getElem_mem hlt)
          rw [hkv] at hKT x0
          clear hkv
          generalize D'[k] = x at x1 x2
          obtain ⟨xk, xa, xt⟩ := x
          simp only at x1 x2
          replace x0 := (hbw.out.cell (p := ⟨g, off + k * 3, none⟩) hgl).trans x0
          replace x1 := (hbw.out.cell (p := ⟨g, off + k * 3 + 1, none⟩) hgl).trans x1
          replace x2 := (hbw.out.cell (p := ⟨g, off + k * 3 + 2, none⟩) hgl).trans x2
          have hlt' : (k : Int) < (D'.length : Int) := by omega
          have hln := hDl.out
          clear hgl HC
          simp only [Option.map_some]
          go_upto_region 11 with fail
          have hg5 := Lib.hid (World.grownBy_alloc wr (.cells #[.int .i64 kv, .int .i64 xa, .int .i64 xt] 82) none)
          have z0 : (wr.alloc (.cells #[.int .i64 kv, .int .i64 xa, .int .i64 xt] 82)).cell? ⟨wr.heap.size, 0, none⟩ = some (.int .i64 kv) := by simp [go_sem]
          generalize wr.alloc (.cells #[.int .i64 kv, .int .i64 xa, .int .i64 xt] 82) = w5 at hg5 z0 ⊢
          have hO5 := Lib.hid (hown.out.kept hg5.out (none_or _))
          have hB5 := Lib.hid (hbw.out.grown hg5.out hbw.out.size (fun j hj => by cases hj))
          clear x0 x1 x2 hg5 hown
          go_wp2_with (at_builtin; refine wpList_append_own _ rfl _ _ 45 rfl w4.heap.size 3 i0 (.int .i64 0) 1 8 Try.underlying45 hi hz0 hz1 hz2 rfl (by decide) _ _ _ rfl (hO5.out.alloc _) ⟨w5.heap.size, 0, none⟩ 1 1 [.int .i64 kv] rfl rfl ?c1 ?c2 ?c3 ?c4 ?c5 ?_)
          case c1 => exact cell_one_new _ _ _
          case c2 => intro u hu; simp at hu; subst hu; rfl
          case c3 => unfold maxLen; omega
          case c4 => omega
          case c5 => have := hB5.out.size; simp; omega
          intro v' w6 hown' hgrow _
          have hO6 := Lib.hid hown'
          have hB6 := Lib.hid ((hB5.out.alloc hB5.out.size (.cells #[.int .i64 kv] 3)).grown hgrow (by have := hB5.out.size; simp; omega) (fun j hj => ((hO5.out.alloc (.cells #[.int .i64 kv] 3)).lt j hj).1))
          clear hown' hgrow hO5 hB5 hbw z0
          go_wp2_with fail
          go_roundw
          case rel => exact ⟨k + 1, by omega, by go_num, Lib.hid (by rw [hKT.out]; first | exact hO6.out | (rw [List.map_take]; exact hO6.out)), hB6⟩
          case measure => simp [intOf]; omega
        · obtain rfl : k = D'.length := by omega
          have hlt' : decide ((D'.length : Int) < (D'.length : Int)) = false := by simp
          go_wp2
          go_ret
          have hLD := HP.out
          have hmem := H3.out.lt
          have e1 : HasI w4 p w1.heap.size room armed (latL now D) := H3.out.ofHeap (HB4.out.block p (by have := hp1.out; omega)) (HB4.out.block w1.heap.size (by omega))
          refine ⟨_, D', w1.heap.size, rfl, ((hLD.filter _).trans HPD.out), HSS.out, ?_, ?_, tw_due HB1.out HB2.out HT3.out HB4.out hbw.out, Or.inr HB1.out.size⟩
          · have := hown.out
            rw [List.take_length] at this
            exact own_base this (by have := HB1.out.size; have := HB2.out.size; have := HT3.out.size; have := HB4.out.size; omega)
          · have e2 := e1.below hbw.out
            exact ⟨e2.1, e2.2.perm (hLD.symm.filter _)⟩

end Go.Proofs.Ytplaconhpiojbaa
