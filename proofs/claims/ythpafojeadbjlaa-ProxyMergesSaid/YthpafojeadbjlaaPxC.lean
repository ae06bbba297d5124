/-
  The document's Filter and Merge. Contracts over the translated program.
-/
import Derived.Test.YthpafojeadbjlaaPxAB
import Derived.Test.YthpafojeadbjlaaTwM
import Derived.Test.YthpafojeadbjlaaPxR
import Derived.Test.YthpafojeadbjlaaFlQ
import Derived.Deep.RegionLaw
namespace Go.Proofs.Ythpafojeadbjlaa
open Go Go.Maps Go.RowKit
set_option linter.unusedVariables false
set_option linter.unusedSimpArgs false

set_option maxHeartbeats 8000000 in
set_option maxRecDepth 100000 in
theorem rfil_c (ex : Bool) (tm : Int) (v : Value) (l : List Tm) (now : Int) (w : World) (hl : l.length ≤ 1000000) (h : RowsAt 2 cellsTm w v l) : Calls Try.prog 13 #[.agg #[.bool ex, .int .i64 tm, v], .int .i64 now] w (FAt (filP ⟨ex, tm, l⟩ now) w) := by
  have GX := Lib.hid fun (U : World) (kz : Below w.heap.size w U) => rexp17_c ex tm v l now U hl (h.below kz)
  have HV : filP ⟨ex, tm, l⟩ now = ⟨(expS ⟨ex, tm, l⟩ now).1.ex, nmS ((expS ⟨ex, tm, l⟩ now).1.src.filter (selX (expS ⟨ex, tm, l⟩ now).1.ex))⟩ := rfl
  have HLEN := Lib.hid (Nat.le_trans (exp_len ⟨ex, tm, l⟩ now) hl)
  have HNO := Lib.hid (exp_none ⟨ex, tm, l⟩ now)
  obtain ⟨p, cap, rfl⟩ := h.slice
  rw [HV]
  generalize expS ⟨ex, tm, l⟩ now = X at GX HLEN HNO ⊢
  obtain ⟨⟨fe, ft, fl⟩, is⟩ := X
  dsimp only at GX HLEN HNO ⊢
  generalize l.length = n at hl GX ⊢
  have NM := Lib.hid (fun U v2 (h2 : RowsAt 2 cellsTm U v2 fl) => names17_c fe ft v2 fl fe U HLEN.out h2)
  have HQ := Lib.hid (show ∀ U e, FAt ⟨fe, nmS (fl.filter fun x => decide (x.2 = 0) == fe)⟩ w e U → FAt ⟨fe, nmS (fl.filter (selX fe))⟩ w e U from fun U e h => h)
  have HQN := Lib.hid (show ∀ U v, is = false → AddrsAt U v [] → Below w.heap.size w U → FAt ⟨fe, nmS (fl.filter (selX fe))⟩ w (.returned (.agg #[.bool false, v])) U from fun U v h h1 h2 => by
    obtain ⟨e1, e2⟩ := HNO.out h
    subst e1 e2
    exact ⟨v, rfl, h1, h2⟩)
  generalize FAt ⟨fe, nmS (fl.filter (selX fe))⟩ w = Q at HQ HQN ⊢
  clear h hl HV
  have hB1 := Lib.hid (show Below w.heap.size w ((w.alloc (.cells #[.bool ex, .int .i64 tm, .slice p n cap] 32)).alloc (.cells #[.bool false, .slice none 0 0] 28)) from ((Below.refl _ w).alloc (Nat.le_refl _) _).alloc (by simp) _)
  have RB1 := Lib.hid (show ((w.alloc (.cells #[.bool ex, .int .i64 tm, .slice p n cap] 32)).alloc (.cells #[.bool false, .slice none 0 0] 28)).heap[w.heap.size + 1]? = some (.cells #[.bool false, .slice none 0 0] 28 (0, 0)) from by simpa using heap_new (w.alloc (.cells #[.bool ex, .int .i64 tm, .slice p n cap] 32)) (.cells #[.bool false, .slice none 0 0] 28))
  go_enter Try.func13, Try.ntmps13
  go_wp2_with fail
  ((with_reducible refine (GX.out _ hB1.out).mono ?_); rintro e w3 ⟨vs, rfl, hr, k3⟩)
  have hB3 := Lib.hid (hB1.out.trans (k3.mono hB1.out.size))
  have RB3 := Lib.hid (below_block k3 (lt_of_block RB1.out) RB1.out)
  obtain ⟨q, qc, hqv⟩ := hr.slice
  subst hqv
  have HR := Lib.hid hr
  obtain ⟨m, hm⟩ : ∃ m, m = fl.length := ⟨_, rfl⟩
  rw [← hm] at HR ⊢
  clear hr hm k3 hB1 GX RB1
  go_upto_region 2 with fail
  have HLB := Lib.hid (heap_new w3 (.cells #[.bool fe, .int .i64 ft, .slice q m qc] 32))
  have K4 := (Below.refl w3.heap.size w3).alloc (Nat.le_refl _) (.cells #[.bool fe, .int .i64 ft, .slice q m qc] 32)
  have HR4 := Lib.hid (HR.out.below K4)
  have RB4 := Lib.hid (below_block K4 (lt_of_block RB3.out) RB3.out)
  have hB4 := Lib.hid (hB3.out.trans (K4.mono hB3.out.size))
  have hsb := Lib.hid (show w.heap.size + 1 < w3.heap.size from lt_of_block RB3.out)
  clear HR RB3 hB3 K4
  generalize w3.alloc (.cells #[.bool fe, .int .i64 ft, .slice q m qc] 32) = W at HLB HR4 RB4 hB4 ⊢
  generalize w3.heap.size = lb at HLB hsb ⊢
  have y0 := cell_of_block (j := 0) RB4.out rfl
  have y1 := cell_of_block (j := 1) RB4.out rfl
  have fr := (fun j : Nat => free_of_block (j := j) RB4.out)
  rcases Bool.eq_false_or_eq_true is with rfl | rfl
  · clear y0 y1 fr
    go_upto_region 4 with fail
    have HL0 : W.drew.heap[lb]? = some (.cells #[.bool fe, .int .i64 ft, .slice q m qc] 32 (0, 0)) := HLB.out
    have RB0 : W.drew.heap[w.heap.size + 1]? = some (.cells #[.bool false, .slice none 0 0] 28 (0, 0)) := RB4.out
    have nn : lb ≠ w.heap.size + 1 := by
      rintro rfl
      have := HLB.out.symm.trans RB4.out
      simp at this
    have K3 : ∀ U : World, U.heap[lb]? = some (.cells #[.bool fe, .int .i64 ft, .slice q m qc] 32 (0, 0)) → (U.cell? ⟨lb, 0, none⟩ = some (.bool fe) ∧ U.cell? ⟨lb, 1, none⟩ = some (.int .i64 ft) ∧ U.cell? ⟨lb, 2, none⟩ = some (.slice q m qc)) := fun U h => ⟨cell_of_block h rfl, cell_of_block h rfl, cell_of_block h rfl⟩
    have K3H := Lib.hid K3
    have kk := Lib.hid (Below.refl W.heap.size W)
    clear K3
    go_region_held3 (fun U => U.cell? ⟨lb, 0, none⟩ = some (.bool fe) ∧ U.cell? ⟨lb, 1, none⟩ = some (.int .i64 ft) ∧ U.cell? ⟨lb, 2, none⟩ = some (.slice q m qc))
      (first | with_reducible exact K3H.out _ (heap_store_other (heap_store_other HL5 nn) nn) | with_reducible exact K3H.out _ HL5 | with_reducible exact K3H.out _ HL0)
      ((go_at_call 31; (with_reducible refine (NM.out _ _ (HR4.out.below kk.out.drew)).mono ?_); rintro e w5 ⟨v5, rfl, a5, h5⟩; obtain ⟨p5, n5, c5, rfl⟩ := addrs_slice a5; have HL5 := below_block h5 (lt_of_block HL0) HL0; have RB5 := below_block h5 (lt_of_block RB0) RB0; have y0 := cell_of_block (j := 0) RB5 rfl; have y1 := cell_of_block (j := 1) RB5 rfl; have fr := (fun j : Nat => free_of_block (j := j) RB5)))
    all_goals
      have e5 : n5 = (nmS (fl.filter fun x => decide (x.2 = 0) == fe)).length := by obtain ⟨p9, c9, hv⟩ := a5.slice; simp only [Value.slice.injEq] at hv; exact hv.2.1
      have RB6 := heap_store (j := 1) (v := .slice p5 n5 c5) (heap_store (j := 0) (v := .bool fe) RB5)
      have z0 : ((w5.setCell ⟨w.heap.size + 1, 0, none⟩ (.bool fe)).setCell ⟨w.heap.size + 1, 1, none⟩ (.slice p5 n5 c5)).cell? ⟨w.heap.size + 1, 0, none⟩ = some (.bool fe) := cell_of_block RB6 rfl
      have z1 : ((w5.setCell ⟨w.heap.size + 1, 0, none⟩ (.bool fe)).setCell ⟨w.heap.size + 1, 1, none⟩ (.slice p5 n5 c5)).cell? ⟨w.heap.size + 1, 1, none⟩ = some (.slice p5 n5 c5) := cell_of_block RB6 rfl
      have k5 : Below w.heap.size w w5 := hB4.out.drew.trans (h5.mono hB4.out.size)
      have HP : FAt ⟨fe, nmS (fl.filter fun x => decide (x.2 = 0) == fe)⟩ w (.returned (.agg #[.bool fe, .slice p5 n5 c5])) ((w5.setCell ⟨w.heap.size + 1, 0, none⟩ (.bool fe)).setCell ⟨w.heap.size + 1, 1, none⟩ (.slice p5 n5 c5)) :=
        ⟨_, rfl, addrs_set (addrs_set a5 (NoStr.of RB5 no_str_bs)) (NoStr.of (heap_store (j := 0) (v := .bool fe) RB5) no_str_bs), (k5.setCell (p := ⟨w.heap.size + 1, 0, none⟩) (by show _ ≤ w.heap.size + 1; omega) _).setCell (p := ⟨w.heap.size + 1, 1, none⟩) (by show _ ≤ w.heap.size + 1; omega) _⟩
      generalize (w5.setCell ⟨w.heap.size + 1, 0, none⟩ (.bool fe)).setCell ⟨w.heap.size + 1, 1, none⟩ (.slice p5 n5 c5) = wz at z0 z1 HP ⊢
      have HPP := Lib.hid (HQ.out _ _ HP)
      clear HP RB6
      go_wp2_with fail
      exact bodyPost_ret (v := .agg #[.bool fe, .slice p5 n5 c5]) (by simp [results, Try.results13, go_sem, z0, z1]) rfl HPP.out
  · have HN := Lib.hid (HQN.out ((W.setCell ⟨w.heap.size + 1, 0, none⟩ (.bool false)).setCell ⟨w.heap.size + 1, 1, none⟩ (.slice none 0 0)) (.slice none 0 0) rfl (AddrsG.nil _ _ _) ((hB4.out.setCell (p := ⟨w.heap.size + 1, 0, none⟩) (by show _ ≤ w.heap.size + 1; omega) _).setCell (p := ⟨w.heap.size + 1, 1, none⟩) (by show _ ≤ w.heap.size + 1; omega) _))
    go_wp2_with fail
    exact bodyPost_ret (v := .agg #[.bool false, .slice none 0 0]) (by simp [results, Try.results13, go_sem, y0, y1]) rfl HN.out

theorem filsR_take {L : List StR} {now : Int} {k : Nat} {r : StR} (h : L[k]? = some r) : mergeF (filsR (L.take (k + 1)) now) = orF (mergeF (filsR (L.take k) now)) (filP (stO r) now) := by
  have e : filsR (L.take (k + 1)) now = (filsR L now).take (k + 1) := by unfold filsR; rw [List.map_take]
  have e2 : filsR (L.take k) now = (filsR L now).take k := by unfold filsR; rw [List.map_take]
  rw [e, e2]
  refine fold_take ?_
  unfold filsR
  rw [List.getElem?_map, h]
  rfl

set_option maxHeartbeats 8000000 in
set_option maxRecDepth 100000 in
theorem rmerge_c (v : Value) (L : List StR) (now : Int) (w : World) (hl : L.length ≤ 10) (h : StsAt w v L) : Calls Try.prog 15 #[v, .int .i64 now] w (FAt (mergeF (filsR L now)) w) := by
  obtain ⟨p, cap, b, off, rfl, hp, hc⟩ := h.1
  have HP := Lib.hid hp
  have HC := Lib.hid hc
  have HS := Lib.hid h.2.2
  obtain ⟨n, hn⟩ : ∃ n, n = L.length := ⟨_, rfl⟩
  have HN := Lib.hid hn
  rw [← hn] at hl ⊢
  have HQ := Lib.hid (show ∀ U v, AddrsAt U v (mergeF (filsR L now)).src → Below w.heap.size w U → FAt (mergeF (filsR L now)) w (.returned (.agg #[.bool (mergeF (filsR L now)).ex, v])) U from fun U v h1 h2 => ⟨v, rfl, h1, h2⟩)
  generalize FAt (mergeF (filsR L now)) w = Q at HQ ⊢
  clear h hp hc hn
  have K0 := Lib.hid (show Below w.heap.size w ((w.alloc (.cells #[.bool false, .slice none 0 0] 28)).alloc (.cells #[.bool false, .slice none 0 0] 28)) from ((Below.refl _ w).alloc (Nat.le_refl _) _).alloc (by simp) _)
  have RB := Lib.hid (heap_old (p := .cells #[.bool false, .slice none 0 0] 28) (heap_new w (.cells #[.bool false, .slice none 0 0] 28)))
  have OB := Lib.hid (show ((w.alloc (.cells #[.bool false, .slice none 0 0] 28)).alloc (.cells #[.bool false, .slice none 0 0] 28)).heap[w.heap.size + 1]? = some (.cells #[.bool false, .slice none 0 0] 28 (0, 0)) from by simpa using heap_new (w.alloc (.cells #[.bool false, .slice none 0 0] 28)) (.cells #[.bool false, .slice none 0 0] 28))
  go_enter Try.func15, Try.ntmps15
  go_upto_region 2 with fail
  generalize (w.alloc (.cells #[.bool false, .slice none 0 0] 28)).alloc (.cells #[.bool false, .slice none 0 0] 28) = W at K0 RB OB ⊢
  go_wp2_with fail
  go_loopw [6] (fun i wr => ∃ (k : Nat) (sv : Value), k ≤ n ∧ i = .int .i64 k ∧ Hid (wr.heap[w.heap.size + 1]? = some (.cells #[.bool (mergeF (filsR (L.take k) now)).ex, sv] 28 (0, 0))) ∧ Hid (wr.heap[w.heap.size]? = some (.cells #[.bool false, .slice none 0 0] 28 (0, 0))) ∧ Hid (AddrsAt wr sv (mergeF (filsR (L.take k) now)).src) ∧ Hid (Below w.heap.size w wr)) (fun i _ => n - (intOf i).toNat)
  case atStart => exact ⟨0, _, Nat.zero_le _, rfl, OB, RB, Lib.hid (AddrsG.nil _ _ _), K0⟩
  case round =>
    clear K0 RB OB
    obtain ⟨k, sv, hk, rfl, OB, RB, AV, KB⟩ := hrel
    obtain ⟨sq, sc, hsv⟩ := AV.out.slice
    have hml := mergeR_len (L.take k) now
    have hmk : (L.take k).length ≤ 10 := by rw [List.length_take]; omega
    by_cases hlt : k < n
    · obtain ⟨r, hx⟩ : ∃ r, L[k]? = some r := ⟨_, List.getElem?_eq_getElem (by rw [← HN.out]; exact hlt)⟩
      have hne : L ≠ [] := by rintro rfl; simp at hx
      obtain rfl := HP.out hne
      have HT := Lib.hid (filsR_take (now := now) hx)
      have hbw : b < w.heap.size := gcell_lt (HC.out k r hx 0 _ rfl)
      have x0 : w.cell? ⟨b, off + k * 3, none⟩ = some (.bool r.ex) := HC.out k r hx 0 _ rfl
      have x1 : w.cell? ⟨b, off + k * 3 + 1, none⟩ = some (.int .i64 r.tm) := HC.out k r hx 1 _ rfl
      have x2 : w.cell? ⟨b, off + k * 3 + 2, none⟩ = some r.srcv := HC.out k r hx 2 _ rfl
      have hr := HS.out r (List.mem_of_getElem? hx)
      have hfl := fil_len (stO r) now
      have FC := Lib.hid (fun U (kz : Below w.heap.size w U) => rfil_c r.ex r.tm r.srcv r.src now U hr.2 (hr.1.below kz))
      rw [show filP ⟨r.ex, r.tm, r.src⟩ now = filP (stO r) now from rfl] at FC
      generalize filP (stO r) now = G at HT FC hfl
      obtain ⟨ge, gl⟩ := G
      generalize hF1 : mergeF (filsR (L.take (k + 1)) now) = F1 at HT
      have HF1 := Lib.hid hF1
      clear hF1
      generalize mergeF (filsR (L.take k) now) = F0 at OB AV hml HT hsv
      obtain ⟨fe, fl⟩ := F0
      have OR := Lib.hid (fun U v1 v2 h1 h2 => ror_c fe ge v1 v2 fl gl U (by simp only at hml; omega) (by simp only at hfl; omega) h1 h2)
      rw [← HT.out] at OR
      obtain ⟨re, rl⟩ := F1
      unfold FPost at OR
      unfold FAt at FC
      simp only at OR FC OB AV hsv
      subst hsv
      generalize r.ex = rx at x0 FC
      generalize r.tm = rt at x1 FC
      generalize r.srcv = rv at x2 FC
      have K3 := Lib.hid (show ∀ U : World, U.heap[b]? = w.heap[b]? → (U.cell? ⟨b, off + k * 3, none⟩ = some (.bool rx) ∧ U.cell? ⟨b, off + k * 3 + 1, none⟩ = some (.int .i64 rt) ∧ U.cell? ⟨b, off + k * 3 + 2, none⟩ = some rv) from fun U hU => ⟨(World.cell?_of_block (w := w) hU).trans x0, (World.cell?_of_block (w := w) hU).trans x1, (World.cell?_of_block (w := w) hU).trans x2⟩)
      have nb : b ≠ w.heap.size + 1 := by omega
      have ES := Lib.hid (fun (U : World) (k : Below w.heap.size w U) => k.block b hbw)
      have ESS := Lib.hid (fun (U : World) (k : Below w.heap.size w U) (v1 v2 : Value) => show ((U.setCell ⟨w.heap.size + 1, 0, none⟩ v1).setCell ⟨w.heap.size + 1, 1, none⟩ v2).heap[b]? = w.heap[b]? from ((k.setCell (p := ⟨w.heap.size + 1, 0, none⟩) (by show _ ≤ w.heap.size + 1; omega) v1).setCell (p := ⟨w.heap.size + 1, 1, none⟩) (by show _ ≤ w.heap.size + 1; omega) v2).block b hbw)
      have d1 : decide (k < n) = true := decide_eq_true hlt
      have d2 : decide ((k : Int) < (n : Int)) = true := decide_eq_true (by omega)
      have d4 : decide (0 ≤ (k : Int)) = true := decide_eq_true (by omega)
      have KF := Lib.hid (fun (U : World) (k : Below w.heap.size w U) => K3.out U (ES.out U k))
      clear hx hne x0 x1 x2 hr hml hfl
      go_upto_region 5 with fail
      have OB9 : wr.drew.heap[w.heap.size + 1]? = some (.cells #[.bool fe, .slice sq fl.length sc] 28 (0, 0)) := OB.out
      have RB9 : wr.drew.heap[w.heap.size]? = some (.cells #[.bool false, .slice none 0 0] 28 (0, 0)) := RB.out
      have kk : Below w.heap.size w wr.drew := KB.out.drew
      have a0 : AddrsAt wr.drew (.slice sq fl.length sc) fl := AV.out
      clear OB RB KB AV K3 ES
      refine wp_region_held_drew (S := fun U => U.cell? ⟨b, off + k * 3, none⟩ = some (.bool rx) ∧ U.cell? ⟨b, off + k * 3 + 1, none⟩ = some (.int .i64 rt) ∧ U.cell? ⟨b, off + k * 3 + 2, none⟩ = some rv) (by kernel_rfl) (KF.out _ kk) (fun hH => ?_)
      generalize wr.drew = Y0 at kk OB9 RB9 a0 hH ⊢
      refine wpAnyH_take (i := 1) (oi := { dst := some 15, op := Op.move (Operand.tmp 0), type := 22, pos := "ref.go:24", after := #[], guard := none }) (v := .slice (some ⟨b, off, none⟩) n cap) rfl (by kernel_rfl) (by kernel_rfl) (by kernel_rfl) (fun _ _ _ h => h) (Or.inl ⟨by kernel_rfl, ?_⟩) hH ?_
      · intro w hSw; (try dsimp only at hSw); go_simp; (try rfl)
      try simp only [Act.put, List.setIfInBounds_toArray, List.set_cons_zero, List.set_cons_succ]
      refine wpAnyH_take (i := 2) (oi := { dst := some 16, op := Op.move (Operand.tmp 6), type := 3, pos := "ref.go:24", after := #[], guard := none }) (v := .int .i64 k) rfl (by kernel_rfl) (by kernel_rfl) (by kernel_rfl) (fun _ _ _ h => h) (Or.inl ⟨by kernel_rfl, ?_⟩) hH ?_
      · intro w hSw; (try dsimp only at hSw); go_simp; (try rfl)
      try simp only [Act.put, List.setIfInBounds_toArray, List.set_cons_zero, List.set_cons_succ]
      refine wpAnyH_take (i := 3) (oi := { dst := some 17, op := Op.indexAddr 22 (Operand.tmp 15) (Operand.tmp 16), type := 0, pos := "ref.go:24", after := #[{ on := 1, ground := Ground.data }, { on := 2, ground := Ground.data }], guard := none }) (v := .pointer (some ⟨b, off + k * 3, none⟩)) rfl (by kernel_rfl) (by kernel_rfl) (by kernel_rfl) (fun _ _ _ h => h) (Or.inl ⟨by kernel_rfl, ?_⟩) hH ?_
      · intro w hSw; (try dsimp only at hSw); go_simp; (try rfl)
      try simp only [Act.put, List.setIfInBounds_toArray, List.set_cons_zero, List.set_cons_succ]
      refine wpAnyH_take (i := 4) (oi := { dst := some 18, op := Op.load 32 (Operand.tmp 17), type := 32, pos := "ref.go:24", after := #[{ on := 3, ground := Ground.data }], guard := none }) (v := .agg #[.bool rx, .int .i64 rt, rv]) rfl (by kernel_rfl) (by kernel_rfl) (by kernel_rfl) (fun _ _ _ h => h) (Or.inl ⟨by kernel_rfl, ?_⟩) hH ?_
      · intro w hSw; (try dsimp only at hSw); go_simp; (try rfl)
      try simp only [Act.put, List.setIfInBounds_toArray, List.set_cons_zero, List.set_cons_succ]
      refine wpAnyH_take (i := 5) (oi := { dst := some 19, op := Op.move (Operand.tmp 1), type := 3, pos := "ref.go:24", after := #[], guard := none }) (v := .int .i64 now) rfl (by kernel_rfl) (by kernel_rfl) (by kernel_rfl) (fun _ _ _ h => h) (Or.inl ⟨by kernel_rfl, ?_⟩) hH ?_
      · intro w hSw; (try dsimp only at hSw); go_simp; (try rfl)
      try simp only [Act.put, List.setIfInBounds_toArray, List.set_cons_zero, List.set_cons_succ]
      refine wpAnyH_ready (rs := [0, 6]) (by kernel_rfl) (by simp) ?_
      refine AllReadyH.cons rfl (fun K hK => ?_) ?_
      · have y0 := cell_of_block (j := 0) OB9 rfl
        have y1 := cell_of_block (j := 1) OB9 rfl
        go_simp
        clear y0 y1
        refine hK.out _ _ (KF.out _ kk) (fun hH => ?_)
        clear hK K
        try simp only [Act.put, List.setIfInBounds_toArray, List.set_cons_zero, List.set_cons_succ]
        refine wpAnyH_ready (rs := [6]) (by kernel_rfl) (by simp) ?_
        refine AllReadyH.cons rfl (fun K hK => ?_) AllReadyH.nil
        go_simp
        with_reducible refine (FC.out _ kk).mono ?_
        rintro e Y1 ⟨vf, rfl, af, hb⟩
        (try go_wp2_with fail)
        replace OB9 := below_block hb (lt_of_block OB9) OB9
        replace RB9 := below_block hb (lt_of_block RB9) RB9
        replace a0 := a0.below hb
        replace kk := kk.trans (hb.mono kk.size)
        clear hb
        obtain ⟨qf, nf, cf, rfl⟩ := addrs_slice af
        refine hK.out _ _ (KF.out _ kk) (fun hH => ?_)
        clear hK K
        try simp only [Act.put, List.setIfInBounds_toArray, List.set_cons_zero, List.set_cons_succ]
        refine wpAnyH_ready (rs := [7]) (by kernel_rfl) (by simp) ?_
        refine AllReadyH.cons rfl (fun K hK => ?_) AllReadyH.nil
        go_simp
        with_reducible refine (OR.out _ _ _ a0 af).mono ?_
        rintro e Y2 ⟨vo, rfl, ao, hb⟩
        (try go_wp2_with fail)
        replace OB9 := below_block hb (lt_of_block OB9) OB9
        replace RB9 := below_block hb (lt_of_block RB9) RB9
        replace a0 := a0.below hb
        replace af := af.below hb
        replace kk := kk.trans (hb.mono kk.size)
        clear hb
        obtain ⟨qo, co, rfl⟩ := ao.slice
        refine hK.out _ _ (KF.out _ kk) (fun hH => ?_)
        clear hK K
        try simp only [Act.put, List.setIfInBounds_toArray, List.set_cons_zero, List.set_cons_succ]
        refine wpAnyH_ready (rs := [8]) (by kernel_rfl) (by simp) ?_
        refine AllReadyH.cons rfl (fun K hK => ?_) AllReadyH.nil
        have y0 := cell_of_block (j := 0) OB9 rfl
        have y1 := cell_of_block (j := 1) OB9 rfl
        have fr := (fun j : Nat => free_of_block (j := j) OB9)
        go_simp
        clear y0 y1 fr
        have nz : w.heap.size ≠ w.heap.size + 1 := by omega
        have OB3 := Lib.hid (heap_store (j := 1) (v := .slice qo rl.length co) (heap_store (j := 0) (v := .bool re) OB9))
        have RB3 := Lib.hid (heap_store_other (c := w.heap.size + 1) (j := 1) (v := .slice qo rl.length co) (heap_store_other (c := w.heap.size + 1) (j := 0) (v := .bool re) RB9 nz) nz)
        have AV3 := Lib.hid (addrs_set (p := w.heap.size + 1) (j := 1) (u := .slice qo rl.length co) (addrs_set (p := w.heap.size + 1) (j := 0) (u := .bool re) ao.at (NoStr.of OB9 no_str_bs)) (NoStr.of (heap_store (j := 0) (v := .bool re) OB9) no_str_bs))
        have KB3 := Lib.hid ((kk.setCell (p := ⟨w.heap.size + 1, 0, none⟩) (by show _ ≤ w.heap.size + 1; omega) (.bool re)).setCell (p := ⟨w.heap.size + 1, 1, none⟩) (by show _ ≤ w.heap.size + 1; omega) (.slice qo rl.length co))
        refine hK.out _ _ (KF.out _ KB3.out) (fun hH => ?_)
        clear hK K
        try simp only [Act.put, List.setIfInBounds_toArray, List.set_cons_zero, List.set_cons_succ]
        refine wpAnyH_done (by kernel_rfl) ?_ _
        clear hH kk OB9 RB9 ao
        go_wp2_with fail
        go_roundw
        case rel => exact ⟨k + 1, _, by omega, by go_num, by rw [HF1.out]; exact OB3, RB3, by rw [HF1.out]; exact AV3, KB3⟩
        case measure => simp [intOf]; omega
      · refine AllReadyH.cons rfl (fun K hK => ?_) AllReadyH.nil
        go_simp
        with_reducible refine (FC.out _ kk).mono ?_
        rintro e Y1 ⟨vf, rfl, af, hb⟩
        (try go_wp2_with fail)
        replace OB9 := below_block hb (lt_of_block OB9) OB9
        replace RB9 := below_block hb (lt_of_block RB9) RB9
        replace a0 := a0.below hb
        replace kk := kk.trans (hb.mono kk.size)
        clear hb
        obtain ⟨qf, nf, cf, rfl⟩ := addrs_slice af
        refine hK.out _ _ (KF.out _ kk) (fun hH => ?_)
        clear hK K
        try simp only [Act.put, List.setIfInBounds_toArray, List.set_cons_zero, List.set_cons_succ]
        refine wpAnyH_ready (rs := [0]) (by kernel_rfl) (by simp) ?_
        refine AllReadyH.cons rfl (fun K hK => ?_) AllReadyH.nil
        have y0 := cell_of_block (j := 0) OB9 rfl
        have y1 := cell_of_block (j := 1) OB9 rfl
        go_simp
        clear y0 y1
        refine hK.out _ _ (KF.out _ kk) (fun hH => ?_)
        clear hK K
        try simp only [Act.put, List.setIfInBounds_toArray, List.set_cons_zero, List.set_cons_succ]
        refine wpAnyH_ready (rs := [7]) (by kernel_rfl) (by simp) ?_
        refine AllReadyH.cons rfl (fun K hK => ?_) AllReadyH.nil
        go_simp
        with_reducible refine (OR.out _ _ _ a0 af).mono ?_
        rintro e Y2 ⟨vo, rfl, ao, hb⟩
        (try go_wp2_with fail)
        replace OB9 := below_block hb (lt_of_block OB9) OB9
        replace RB9 := below_block hb (lt_of_block RB9) RB9
        replace a0 := a0.below hb
        replace af := af.below hb
        replace kk := kk.trans (hb.mono kk.size)
        clear hb
        obtain ⟨qo, co, rfl⟩ := ao.slice
        refine hK.out _ _ (KF.out _ kk) (fun hH => ?_)
        clear hK K
        try simp only [Act.put, List.setIfInBounds_toArray, List.set_cons_zero, List.set_cons_succ]
        refine wpAnyH_ready (rs := [8]) (by kernel_rfl) (by simp) ?_
        refine AllReadyH.cons rfl (fun K hK => ?_) AllReadyH.nil
        have y0 := cell_of_block (j := 0) OB9 rfl
        have y1 := cell_of_block (j := 1) OB9 rfl
        have fr := (fun j : Nat => free_of_block (j := j) OB9)
        go_simp
        clear y0 y1 fr
        have nz : w.heap.size ≠ w.heap.size + 1 := by omega
        have OB3 := Lib.hid (heap_store (j := 1) (v := .slice qo rl.length co) (heap_store (j := 0) (v := .bool re) OB9))
        have RB3 := Lib.hid (heap_store_other (c := w.heap.size + 1) (j := 1) (v := .slice qo rl.length co) (heap_store_other (c := w.heap.size + 1) (j := 0) (v := .bool re) RB9 nz) nz)
        have AV3 := Lib.hid (addrs_set (p := w.heap.size + 1) (j := 1) (u := .slice qo rl.length co) (addrs_set (p := w.heap.size + 1) (j := 0) (u := .bool re) ao.at (NoStr.of OB9 no_str_bs)) (NoStr.of (heap_store (j := 0) (v := .bool re) OB9) no_str_bs))
        have KB3 := Lib.hid ((kk.setCell (p := ⟨w.heap.size + 1, 0, none⟩) (by show _ ≤ w.heap.size + 1; omega) (.bool re)).setCell (p := ⟨w.heap.size + 1, 1, none⟩) (by show _ ≤ w.heap.size + 1; omega) (.slice qo rl.length co))
        refine hK.out _ _ (KF.out _ KB3.out) (fun hH => ?_)
        clear hK K
        try simp only [Act.put, List.setIfInBounds_toArray, List.set_cons_zero, List.set_cons_succ]
        refine wpAnyH_done (by kernel_rfl) ?_ _
        clear hH kk OB9 RB9 ao
        go_wp2_with fail
        go_roundw
        case rel => exact ⟨k + 1, _, by omega, by go_num, by rw [HF1.out]; exact OB3, RB3, by rw [HF1.out]; exact AV3, KB3⟩
        case measure => simp [intOf]; omega
    · obtain rfl : k = n := by omega
      rw [List.take_of_length_le (by rw [HN.out]; exact Nat.le_refl _)] at OB AV hsv
      generalize mergeF (filsR L now) = F at OB AV hsv HQ
      obtain ⟨fe, fl⟩ := F
      simp only at OB AV hsv HQ
      subst hsv
      have f0 : wr.cell? ⟨w.heap.size + 1, 0, none⟩ = some (.bool fe) := cell_of_block OB.out rfl
      have f1 : wr.cell? ⟨w.heap.size + 1, 1, none⟩ = some (.slice sq fl.length sc) := cell_of_block OB.out rfl
      have y0 := cell_of_block (j := 0) RB.out rfl
      have y1 := cell_of_block (j := 1) RB.out rfl
      have fr := (fun j : Nat => free_of_block (j := j) RB.out)
      have HF := Lib.hid (HQ.out ((wr.setCell ⟨w.heap.size, 0, none⟩ (.bool fe)).setCell ⟨w.heap.size, 1, none⟩ (.slice sq fl.length sc)) (.slice sq fl.length sc)
        (addrs_set (addrs_set AV.out (NoStr.of RB.out no_str_bs)) (NoStr.of (heap_store (j := 0) (v := .bool fe) RB.out) no_str_bs))
        ((KB.out.setCell (p := ⟨w.heap.size, 0, none⟩) (Nat.le_refl _) _).setCell (p := ⟨w.heap.size, 1, none⟩) (Nat.le_refl _) _))
      clear hml hmk hlt
      go_wp2_with fail
      exact bodyPost_ret (v := .agg #[.bool fe, .slice sq fl.length sc]) (by simp [results, Try.results15, go_sem, y0, y1]) rfl HF.out

end Go.Proofs.Ythpafojeadbjlaa
