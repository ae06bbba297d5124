/-
  The wheel at keys of type string: Due. A contract over the translated program.
-/
import Derived.Test.YtplaconhpiojbaaWhI
import Derived.Maps.AppendAt
namespace Go.Proofs.Ytplaconhpiojbaa
open Go Go.Maps Go.WideMaps
open Go.RowKit
set_option linter.unusedVariables false
set_option linter.unusedSimpArgs false

theorem due_none {now f : Int} {L : List T3} (h : Best L f false ∨ (Best L f true ∧ now < f)) : dueL now L = [] ∧ latL now L = L := by
  have key : ∀ x ∈ L, ¬ x.2.1 ≤ now := by
    rcases h with h | ⟨h, hn⟩
    · rcases h with ⟨_, _, h3⟩ | ⟨h1, _⟩
      · subst h3; intro x hx; cases hx
      · cases h1
    · rcases h with ⟨h1, _⟩ | ⟨_, _, h3⟩
      · cases h1
      · intro x hx
        have := h3 x hx
        omega
  constructor
  · unfold dueL
    rw [List.filter_eq_nil_iff]
    intro x hx
    simpa using key x hx
  · unfold latL
    rw [List.filter_eq_self]
    intro x hx
    simpa using key x hx

theorem keys_take (D : List T3) (k : Nat) (hk : k < D.length) : (D.take (k + 1)).map (fun x => x.1.value) = (D.take k).map (fun x => x.1.value) ++ [D[k].1.value] := by
  rw [List.take_add_one, List.getElem?_eq_getElem hk, List.map_append]
  rfl

theorem mp_kinds {P : Program} {k : TypeId} {w : World} {b : Nat} {L : List T3} (h : Mp w P k b L) : ∀ x ∈ L, KeysOf P k x.1 := by
  obtain ⟨l, h1, es, clock, hb, F, hs, hD⟩ := h
  intro x hx
  have hm : enc3 x ∈ l := h1.mem_iff.2 (List.mem_map.2 ⟨x, hx, rfl⟩)
  simp only [DataW.map.injEq] at hD
  rw [hD] at hm
  exact Maps.fit_keys F (enc3 x) (mem_sorted.1 hm)

theorem own_base {w : World} {base base' e size n : Nat} {v : Value} {xs : List Value} (h : w.ownsRow base e size v n xs) (hb : base' ≤ base) : w.ownsRow base' e size v n xs := by
  refine ⟨h.1, ?_⟩
  rcases h.2 with h0 | ⟨g, cap, cur, h1, h2, h3⟩
  · exact Or.inl h0
  · exact Or.inr ⟨g, cap, cur, h1, Nat.le_trans hb h2, h3⟩

theorem tw_due {w w1 w2 w3 w4 wr : World} {p mb : Nat} (h1 : Below w.heap.size w w1) (h2 : Below w1.heap.size w1 w2) (h3 : Tw w2 w3 p mb) (h4 : Below (w1.heap.size + 2) w3 w4) (h5 : Below w4.heap.size w4 wr) : Tw w wr p mb := by
  have s1 := h1.size
  have s2 := h2.size
  have s3 := h3.size
  have s4 := h4.size
  have s5 := h5.size
  refine ⟨((((h5.os.trans h4.os).trans h3.os).trans h2.os).trans h1.os), ((((h5.tape.trans h4.tape).trans h3.tape).trans h2.tape).trans h1.tape), ((((h5.output.trans h4.output).trans h3.output).trans h2.output).trans h1.output), by omega, fun i hi a b => ?_⟩
  rw [h5.block i (by omega), h4.block i (by omega), h3.block i (by omega) a b, h2.block i (by omega), h1.block i (by omega)]

theorem kindS {w : World} {p mb : Nat} {room armed : Int} {L D D' : List T3} {now : Int} (h : HasS w p mb room armed L) (h1 : L.Perm D) (h2 : (dueL now D).Perm D') : ∀ x ∈ D', ∃ s : ByteArray, x.1.value = .string s := by
  intro x hx
  have m1 : x ∈ L := h1.mem_iff.2 (List.mem_filter.1 (h2.mem_iff.2 hx)).1
  obtain ⟨v, hv⟩ := mp_kinds h.2 x m1
  obtain ⟨s, rfl⟩ := invS v _ hv
  exact ⟨s, litofS hv⟩

theorem info_KS : (Try.prog.info? 9).map (fun i => (i.zero, i.size, i.bytes)) = some (some (.string ⟨#[]⟩), 1, 16) := by kernel_rfl

/-- WHAT Due LEAVES. -/
def DuePostS (now : Int) (p mb : Nat) (room armed : Int) (L : List T3) (w : World) (e : Ending) (w' : World) : Prop :=
  ∃ v D' mb', e = .returned v ∧ (dueL now L).Perm D' ∧ SortedT D' ∧ w'.ownsRow w.heap.size 9 1 v D'.length (D'.map (fun x => x.1.value)) ∧
    HasS w' p mb' room armed (latL now L) ∧ Tw w w' p mb ∧ (mb' = mb ∨ w.heap.size ≤ mb')

set_option maxHeartbeats 8000000 in
set_option maxRecDepth 100000 in
theorem dueS_c {w : World} {p mb : Nat} {room armed : Int} {L : List T3} (h : HasS w p mb room armed L) (now : Int) (hl : L.length < 1000000000) :
    Calls Try.prog 17 #[.pointer (some ⟨p, 0, none⟩), .int .i64 now] w (DuePostS now p mb room armed L w) := by
  have HN := Lib.hid (nextS_c h)
  have H := Lib.hid h
  clear h
  obtain ⟨i0, hi, hz0, hz1, hz2⟩ := info_parts info_KS
  go_enter Try.func17, Try.ntmps17
  go_upto_region 2 with (go_at_call 14; refine HN.out.mono ?_; rintro e w1 ⟨f, hb, rfl, hBe, hb1⟩)
  have HB1 := Lib.hid hb1
  have HBe := Lib.hid hBe
  clear hb1 hBe
  cases hb with
  | false =>
    go_wp2
    go_ret
    obtain ⟨e1, e2⟩ := due_none (now := now) (Or.inl HBe.out)
    unfold DuePostS
    rw [e1, e2]
    exact ⟨_, [], mb, rfl, List.Perm.refl _, List.Pairwise.nil, World.ownsRow_nil _ _ _ _, H.out.below HB1.out, Tw.ofBelow HB1.out, Or.inl rfl⟩
  | true =>
    by_cases hq : now < f
    · have k1 : decide (now < f) = true := decide_eq_true hq
      have E := Lib.hid (due_none (now := now) (Or.inr ⟨HBe.out, hq⟩))
      clear hq
      go_wp2
      go_ret
      unfold DuePostS
      rw [E.out.1, E.out.2]
      exact ⟨_, [], mb, rfl, List.Perm.refl _, List.Pairwise.nil, World.ownsRow_nil _ _ _ _, H.out.below HB1.out, Tw.ofBelow HB1.out, Or.inl rfl⟩
    · have k1 : decide (now < f) = false := decide_eq_false hq
      clear hq HBe HN
      have HS := Lib.hid (splitS_c (H.out.below HB1.out) now hl)
      go_upto_region 5 with (go_at_call 32; refine HS.out.mono ?_; rintro e w2 ⟨v, D, rfl, hP, hO, hM, hb2⟩)
      have HP := Lib.hid hP
      have HB2 := Lib.hid hb2
      have HO := Lib.hid hO
      have HM := Lib.hid hM
      have H2 := Lib.hid ((H.out.below HB1.out).below hb2)
      have hp1 := Lib.hid (H.out.below HB1.out).lt
      have hdl := Lib.hid (show (dueL now D).length < 1000000000 by have := List.length_filter_le (fun x : T3 => decide (x.2.1 ≤ now)) D; have := hP.length_eq; unfold dueL; omega)
      clear hP hb2 hO hM HS
      have f2 := H2.out.fz 2
      have c2 := H2.out.c2
      go_upto_region 6 with fail
      have HT3 := Lib.hid (Tw.setCell w2 p mb 2 (.map (some w1.heap.size)))
      have HO3 := Lib.hid (HO.out.kept (row := some p) (w' := w2.setCell ⟨p, 2, none⟩ (.map (some w1.heap.size))) ⟨rfl, rfl, rfl, by simp [World.setCell], fun k _ hk => Below.heap_setCell _ _ _ _ (fun e => hk (by rw [e]))⟩ (own_far HO.out (by have := hp1.out; omega)))
      have H3 := Lib.hid (show HasS (w2.setCell ⟨p, 2, none⟩ (.map (some w1.heap.size))) p w1.heap.size room armed (latL now D) from
        ⟨by simpa using heap_store (j := 2) (v := .map (some w1.heap.size)) H2.out.1, HM.out.setCell (fun e => by have := hp1.out; simp at e; omega) _⟩)
      clear f2 c2 HO HM H2
      generalize w2.setCell ⟨p, 2, none⟩ (.map (some w1.heap.size)) = w3 at HT3 HO3 H3 ⊢
      have HSo := Lib.hid (sortS_c HO3.out hdl.out)
      clear HO3
      go_wp2_with (go_at_call 33; refine HSo.out.mono ?_; rintro e w4 ⟨rfl, D', hPD, hSo, ⟨pp, off, cap, rfl, hC⟩, hb4⟩)
      have HPD := Lib.hid hPD
      have HSS := Lib.hid hSo
      have HC := Lib.hid hC
      have HB4 := Lib.hid hb4
      have hDl := Lib.hid (show D'.length < 1000000000 by have := hPD.length_eq; have := hdl.out; omega)
      have HKD := Lib.hid (kindS H.out HP.out hPD)
      clear hPD hSo hC hb4 HSo
      go_loopw [9, 11, 38] (fun s9 _ i wr => ∃ k : Nat, k ≤ D'.length ∧ i = .int .i64 k ∧ Hid (wr.ownsRow w4.heap.size 9 1 s9 k ((D'.take k).map (fun x => x.1.value))) ∧ Hid (Below w4.heap.size w4 wr)) (fun _ _ i _ => D'.length - (intOf i).toNat)
      case atStart => exact ⟨0, Nat.zero_le _, rfl, Lib.hid (World.ownsRow_nil _ _ _ _), Lib.hid (Below.refl _ _)⟩
      case round =>
        obtain ⟨k, hk, rfl, hown, hbw⟩ := hrel
        by_cases hlt : k < D'.length
        · have hKT := Lib.hid (keys_take D' k hlt)
          obtain ⟨g, rfl, hgl, x0, x1, x2⟩ := HC.out k D'[k] (List.getElem?_eq_getElem hlt)
          obtain ⟨kv, hkv⟩ := HKD.out D'[k] (List.getElem_mem hlt)
          rw [hkv] at hKT x0
          clear hkv
          generalize D'[k] = x at x1 x2
          obtain ⟨xk, xa, xt⟩ := x
          simp only at x1 x2
          replace x0 := (hbw.out.cell (p := ⟨g, off + k * 3, none⟩) hgl).trans x0
          replace x1 := (hbw.out.cell (p := ⟨g, off + k * 3 + 1, none⟩) hgl).trans x1
          replace x2 := (hbw.out.cell (p := ⟨g, off + k * 3 + 2, none⟩) hgl).trans x2
          have hlt' : (k : Int) < (D'.length : Int) := by omega
          have hln := hDl.out
          clear hgl HC
          simp only [Option.map_some]
          go_upto_region 11 with fail
          have hg5 := Lib.hid (World.grownBy_alloc wr (.cells #[.string kv, .int .i64 xa, .int .i64 xt] 69) none)
          have z0 : (wr.alloc (.cells #[.string kv, .int .i64 xa, .int .i64 xt] 69)).cell? ⟨wr.heap.size, 0, none⟩ = some (.string kv) := by simp [go_sem]
          generalize wr.alloc (.cells #[.string kv, .int .i64 xa, .int .i64 xt] 69) = w5 at hg5 z0 ⊢
          have hO5 := Lib.hid (hown.out.kept hg5.out (none_or _))
          have hB5 := Lib.hid (hbw.out.grown hg5.out hbw.out.size (fun j hj => by cases hj))
          clear x0 x1 x2 hg5 hown
          go_wp2_with (at_builtin; refine wpList_append_own _ rfl _ _ 42 rfl w4.heap.size 9 i0 (.string ⟨#[]⟩) 1 16 Try.underlying42 hi hz0 hz1 hz2 rfl (by decide) _ _ _ rfl (hO5.out.alloc _) ⟨w5.heap.size, 0, none⟩ 1 1 [.string kv] rfl rfl ?c1 ?c2 ?c3 ?c4 ?c5 ?_)
          case c1 => exact cell_one_new _ _ _
          case c2 => intro u hu; simp at hu; subst hu; rfl
          case c3 => unfold maxLen; omega
          case c4 => omega
          case c5 => have := hB5.out.size; simp; omega
          intro v' w6 hown' hgrow _
          have hO6 := Lib.hid hown'
          have hB6 := Lib.hid ((hB5.out.alloc hB5.out.size (.cells #[.string kv] 9)).grown hgrow (by have := hB5.out.size; simp; omega) (fun j hj => ((hO5.out.alloc (.cells #[.string kv] 9)).lt j hj).1))
          clear hown' hgrow hO5 hB5 hbw z0
          go_wp2_with fail
          go_roundw
          case rel => exact ⟨k + 1, by omega, by go_num, Lib.hid (by rw [hKT.out]; first | exact hO6.out | (rw [List.map_take]; exact hO6.out)), hB6⟩
          case measure => simp [intOf]; omega
        · obtain rfl : k = D'.length := by omega
          have hlt' : decide ((D'.length : Int) < (D'.length : Int)) = false := by simp
          go_wp2
          go_ret
          have hLD := HP.out
          have hmem := H3.out.lt
          have e1 : HasS w4 p w1.heap.size room armed (latL now D) := H3.out.ofHeap (HB4.out.block p (by have := hp1.out; omega)) (HB4.out.block w1.heap.size (by omega))
          refine ⟨_, D', w1.heap.size, rfl, ((hLD.filter _).trans HPD.out), HSS.out, ?_, ?_, tw_due HB1.out HB2.out HT3.out HB4.out hbw.out, Or.inr HB1.out.size⟩
          · have := hown.out
            rw [List.take_length] at this
            exact own_base this (by have := HB1.out.size; have := HB2.out.size; have := HT3.out.size; have := HB4.out.size; omega)
          · have e2 := e1.below hbw.out
            exact ⟨e2.1, e2.2.perm (hLD.symm.filter _)⟩

end Go.Proofs.Ytplaconhpiojbaa
