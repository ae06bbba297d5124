/-
  'tree.mesh.told' at any end, and 'tree.mesh.heard': what a bridge's ends hear. Contracts over the translated program.
-/
import Derived.Test.YtolmkflhddlcnaaTaH
import Derived.Test.YtolmkflhddlcnaaTrJ
import Derived.Deep.RegionHeld3
import Derived.Deep.AppendLies
import Derived.Deep.RegionLaw
namespace Go.Proofs.Ytolmkflhddlcnaa
open Go.RowKit
set_option linter.unusedVariables false
set_option linter.unusedSimpArgs false

/-- What comes to an end, as the row of a call. -/
def toldV (v : V4) : Value := .agg #[.int .u64 v.1, .int .i64 v.2.1, .int .u64 v.2.2.1, .int .i64 v.2.2.2]
theorem told_c {w : World} {m : Nat} {vi vl vb : Value} {ab cap : Nat} {ids : List Int} {L : List Lk} {R : List Pe} {bf : Nat → V4} (h : HasM w m vi vl vb ab cap ids L R (listB ids.length bf)) (n12 : ids.length ≤ 12) (l40 : L.length ≤ 40)
    {e : Pe} {en : En} (he : EnOf L e en) (hok : EndOk ids.length en) :
    Calls Try.prog 42 #[.pointer (some ⟨m, 0, none⟩), .agg #[.int .i64 e.1, .int .i64 e.2.1, .int .i64 e.2.2.1, .int .i64 e.2.2.2]] w fun r w' => r = .returned (toldV (vecH (hearH (idAt ids) bf en))) ∧ Below w.heap.size w w' := by
  obtain ⟨i, l, hl, h1 | h1⟩ := he
  · obtain ⟨rfl, rfl⟩ := h1
    obtain ⟨a, pa, b, pb, k⟩ := l
    have t0 : 0 ≤ b := hok.t0
    have t1 : b < ids.length := hok.t1
    obtain ⟨β, rfl⟩ : ∃ β : Nat, b = (β : Int) := ⟨b.toNat, by omega⟩
    exact told_0 h n12 l40 a pa i β a pa pb k hl (idAt ids β) (idAt_at (by omega)) (bf β).1 (bf β).2.1 (bf β).2.2.1 (bf β).2.2.2 (listB_at bf (by omega))
  · obtain ⟨rfl, rfl⟩ := h1
    obtain ⟨a, pa, b, pb, k⟩ := l
    have t0 : 0 ≤ a := hok.t0
    have t1 : a < ids.length := hok.t1
    obtain ⟨β, rfl⟩ : ∃ β : Nat, a = (β : Int) := ⟨a.toNat, by omega⟩
    exact told_1 h n12 l40 b pb i β b pb pa k hl (idAt ids β) (idAt_at (by omega)) (bf β).1 (bf β).2.1 (bf β).2.2.1 (bf β).2.2.2 (listB_at bf (by omega))

theorem info_Hp : (Try.prog.info? 84).map (fun i => (i.zero, i.size, i.bytes)) = some (some (.agg #[.bool false, .int .u64 0, .int .i64 0, .int .u64 0, .int .i64 0, .int .i64 0]), 6, 48) := by kernel_rfl
set_option maxHeartbeats 8000000 in
set_option maxRecDepth 100000 in
theorem heard_c {w : World} {m : Nat} {vi vl vb : Value} {ab cap : Nat} {ids : List Int} {L : List Lk} {R : List Pe} {bf : Nat → V4} (h : HasM w m vi vl vb ab cap ids L R (listB ids.length bf)) (hR : RowR ids L R) (b : Nat) (hb : b < ids.length) :
    Calls Try.prog 28 #[.pointer (some ⟨m, 0, none⟩), .int .i64 (b : Int)] w fun r w' => ∃ u, r = .returned u ∧ RowsAt 6 cellsHd w' u (heardP (idAt ids) L R bf b) ∧ Below w.heap.size w w' := by
  have n12 := hR.may.n12
  have l40 := hR.may.l40
  obtain ⟨va, ha, hva⟩ := h.at_ b hb
  obtain ⟨pl, capl, bl, offl, rfl, hpl, hcl⟩ := h.lkr
  obtain ⟨pa, capa, ba, offa, rfl, hpa, hca⟩ := hva
  obtain ⟨i0, hi, hz0, hz1, hz2⟩ := info_parts info_Hp
  have HH := Lib.hid h
  have HRR := Lib.hid hR
  have HPA := Lib.hid hpa
  have HPL := Lib.hid hpl
  have HCA := Lib.hid hca
  have HCL := Lib.hid hcl
  have HD80 := Lib.hid (show (atP R b).length ≤ 80 by
    have h1 : (atP R b).length ≤ R.length := List.length_filter_le _ _
    have h2 := hR.perm.length_eq
    rw [pends_len] at h2
    omega)
  have HLS := Lib.hid (fun k (hk : k ≤ (atP R b).length) => hR.last_le (b := b) hk)
  obtain ⟨D, hD⟩ : ∃ D, D = atP R b := ⟨_, rfl⟩
  have HDD := Lib.hid hD
  rw [← hD] at ha HPA HCA HD80 HLS
  obtain ⟨nd, hnd⟩ : ∃ nd, nd = D.length := ⟨_, rfl⟩
  have HND := Lib.hid hnd
  rw [← hnd] at ha HD80 HLS
  have m2 : w.cell? ⟨m, 2, none⟩ = some (.slice (some ⟨ab, 0, none⟩) ids.length cap) := cell_of_block h.mesh rfl
  have d1 : decide (b < ids.length) = true := decide_eq_true hb
  have d2 : decide ((b : Int) < (ids.length : Int)) = true := decide_eq_true (by omega)
  have d3 : decide (ids.length ≤ b) = false := decide_eq_false (by omega)
  have d4 : decide (0 ≤ (b : Int)) = true := decide_eq_true (by omega)
  clear hR hpa hca hpl hcl h hD hnd
  go_enter Try.func28, Try.ntmps28
  go_wp2_with fail
  clear d1 d2 d3 d4 m2 ha
  go_loopw [5, 7, 16] (fun s5 _ i wr => ∃ k : Nat, k ≤ nd ∧ i = .int .i64 k ∧ Hid (wr.ownsRow w.heap.size 84 6 s5 (lastP D k) (((hdsT (idAt ids) (endsL L) bf b).take (lastP D k)).flatMap cellsHd)) ∧ Hid (Below w.heap.size w wr)) (fun _ _ i _ => nd - (intOf i).toNat)
  case atStart => exact ⟨0, Nat.zero_le _, rfl, Lib.hid (World.ownsRow_nil _ _ _ _), Lib.hid (Below.refl _ _)⟩
  case round =>
    obtain ⟨k, hk, rfl, HO, KB⟩ := hrel
    by_cases hlt : k < nd
    · obtain ⟨e, hx⟩ : ∃ e, D[k]? = some e := ⟨_, List.getElem?_eq_getElem (by rw [← HND.out]; exact hlt)⟩
      have hmem : e ∈ atP R b := by rw [← HDD.out]; exact List.mem_of_getElem? hx
      have hne : D ≠ [] := by rintro rfl; simp at hx
      obtain rfl := HPA.out hne
      obtain ⟨en, hen, hok, e1, e2⟩ := HRR.out.at_ok hmem
      obtain ⟨hg1, hg2⟩ := HRR.out.gap (id := idAt ids) (bst := bf) (b := b) (k := k) (by rw [← HDD.out]; exact hx)
      rw [← HDD.out] at hg1 hg2
      obtain ⟨hp0, hp15⟩ := HRR.out.port hmem
      have HL1 := Lib.hid (lastP_succ hx)
      obtain ⟨i, l, hl, hpe⟩ := id hen
      have HEN := Lib.hid hen
      have HOK := Lib.hid hok
      obtain ⟨xb, xp, xl, xs⟩ := e
      obtain ⟨p, rfl⟩ : ∃ p : Nat, xp = (p : Int) := ⟨xp.toNat, by simp only at hp0; omega⟩
      obtain rfl : xl = (i : Int) := by rcases hpe with ⟨h1, -⟩ | ⟨h1, -⟩ <;> (have := congrArg (fun x : Pe => x.2.2.1) h1; exact this)
      have hcost : en.2.2.2.2 = l.2.2.2.2 := by rcases hpe with ⟨-, h1⟩ | ⟨-, h1⟩ <;> rw [h1] <;> rfl
      have hil : i < L.length := (List.getElem?_eq_some_iff.1 hl).1
      have hneL : L ≠ [] := by rintro rfl; simp at hil
      obtain rfl := HPL.out hneL
      have hp16 : p < 16 := by simp only at hp15; omega
      have hgp : lastP D k ≤ p := by simp only [Int.toNat_natCast] at hg1; exact hg1
      have HGAP := Lib.hid (show ∀ j, lastP D k ≤ j → j < p → hdAt (idAt ids) (endsL L) bf b j = blankH by simp only [Int.toNat_natCast] at hg2; exact hg2)
      have HAT := Lib.hid (HRR.out.hd_at (id := idAt ids) (bst := bf) hmem hen (p := p) rfl)
      replace HL1 : Hid (lastP D (k + 1) = p + 1) := by have h1 := HL1.out; simp only [Int.toNat_natCast] at h1; exact Lib.hid h1
      have x0 : wr.cell? ⟨ba, offa + k * 4, none⟩ = some (.int .i64 xb) := gcell_below KB.out (HCA.out k _ hx 0 _ rfl)
      have x1 : wr.cell? ⟨ba, offa + k * 4 + 1, none⟩ = some (.int .i64 (p : Int)) := gcell_below KB.out (HCA.out k _ hx 1 _ rfl)
      have x2 : wr.cell? ⟨ba, offa + k * 4 + 2, none⟩ = some (.int .i64 (i : Int)) := gcell_below KB.out (HCA.out k _ hx 2 _ rfl)
      have x3 : wr.cell? ⟨ba, offa + k * 4 + 3, none⟩ = some (.int .i64 xs) := gcell_below KB.out (HCA.out k _ hx 3 _ rfl)
      have HC4 := Lib.hid (show w.cell? ⟨bl, offl + i * 5 + 4, none⟩ = some (.int .i64 en.2.2.2.2) by rw [hcost]; exact HCL.out i l hl 4 _ rfl)
      have d1 : decide (k < nd) = true := decide_eq_true hlt
      have d2 : decide ((k : Int) < (nd : Int)) = true := decide_eq_true (by omega)
      have d3 : decide (nd ≤ k) = false := decide_eq_false (by omega)
      have d4 : decide (0 ≤ (k : Int)) = true := decide_eq_true (by omega)
      clear hx hmem hne hen hok e1 e2 hg1 hg2 hp0 hp15 hl hpe hcost hneL
      go_upto_region 5 with fail
      have HE1 := Lib.hid (heap_new wr (.cells #[.int .i64 xb, .int .i64 (p : Int), .int .i64 (i : Int), .int .i64 xs] 54))
      have HO1 := Lib.hid (HO.out.alloc (.cells #[.int .i64 xb, .int .i64 (p : Int), .int .i64 (i : Int), .int .i64 xs] 54))
      have KB1 := Lib.hid (KB.out.alloc KB.out.size (.cells #[.int .i64 xb, .int .i64 (p : Int), .int .i64 (i : Int), .int .i64 xs] 54))
      clear x0 x1 x2 x3 d1 d2 d3 d4 HO KB
      generalize wr.alloc (.cells #[.int .i64 xb, .int .i64 (p : Int), .int .i64 (i : Int), .int .i64 xs] 54) = W1 at HE1 HO1 KB1 ⊢
      generalize wr.heap.size = eb at HE1 ⊢
      obtain ⟨q, hq⟩ : ∃ q, q = lastP D k := ⟨_, rfl⟩
      have HQ := Lib.hid hq
      rw [← hq] at HO1 hgp HGAP
      clear hq
      go_loopw [5] (fun s5 wr2 => ∃ j : Nat, q ≤ j ∧ j ≤ p ∧ slLen s5 = j ∧ Hid (wr2.ownsRow w.heap.size 84 6 s5 j (((hdsT (idAt ids) (endsL L) bf b).take j).flatMap cellsHd)) ∧ Hid (wr2.heap[eb]? = some (.cells #[.int .i64 xb, .int .i64 (p : Int), .int .i64 (i : Int), .int .i64 xs] 54 (0, 0))) ∧ Hid (Below w.heap.size w wr2)) (fun s5 _ => p - slLen s5)
      case atStart => exact ⟨q, Nat.le_refl _, hgp, by obtain ⟨a, c, h1⟩ := owns_slice HO1.out; rw [h1]; rfl, HO1, HE1, KB1⟩
      case round =>
        clear HO1 HE1 KB1
        obtain ⟨j, hj1, hj2, hj3, HO, HE, KB⟩ := hrel
        obtain ⟨a, c, hs⟩ := owns_slice HO.out
        subst hs
        clear hj3
        have z1 : wr.cell? ⟨eb, 1, none⟩ = some (.int .i64 (p : Int)) := cell_of_block HE.out rfl
        by_cases hjp : j < p
        · have HTT := Lib.hid (hds_snoc (x := blankH) (by omega) (HGAP.out j hj1 hjp))
          have d1 : decide (j < p) = true := decide_eq_true hjp
          have d2 : decide ((j : Int) < (p : Int)) = true := decide_eq_true (by omega)
          have d3 : decide (p ≤ j) = false := decide_eq_false (by omega)
          have NEW := Lib.hid (cells_new wr [.bool false, .int .u64 0, .int .i64 0, .int .u64 0, .int .i64 0, .int .i64 0] 84)
          have HO3 := Lib.hid (HO.out.alloc (.cells #[.bool false, .int .u64 0, .int .i64 0, .int .u64 0, .int .i64 0, .int .i64 0] 84))
          have K3 := Lib.hid (KB.out.alloc KB.out.size (.cells #[.bool false, .int .u64 0, .int .i64 0, .int .u64 0, .int .i64 0, .int .i64 0] 84))
          have HE3 := Lib.hid (heap_old (p := .cells #[.bool false, .int .u64 0, .int .i64 0, .int .u64 0, .int .i64 0, .int .i64 0] 84) HE.out)
          have n1 := Lib.hid (show j + 1 ≤ maxLen by unfold maxLen; omega)
          have n2 := Lib.hid (show (j + 1) * 48 ≤ 140737488355328 by omega)
          have n3 := Lib.hid (show w.heap.size ≤ (wr.alloc (.cells #[.bool false, .int .u64 0, .int .i64 0, .int .u64 0, .int .i64 0, .int .i64 0] 84)).heap.size from K3.out.size)
          have oc := Lib.hid (hd_one blankH)
          clear HO KB HE
          go_wp2_with (at_builtin; refine wpList_append_own _ rfl _ _ 60 rfl w.heap.size 84 i0 (.agg #[.bool false, .int .u64 0, .int .i64 0, .int .u64 0, .int .i64 0, .int .i64 0]) 6 48 Try.underlying60 hi hz0 hz1 hz2 rfl (by decide) _ _ _ rfl HO3.out ⟨wr.heap.size, 0, none⟩ 1 1 [.bool false, .int .u64 0, .int .i64 0, .int .u64 0, .int .i64 0, .int .i64 0] rfl rfl NEW.out oc.out n1.out n2.out n3.out ?_)
          intro v' w6 hown' hgrow _
          have HO6 := Lib.hid hown'
          have K6 := Lib.hid (K3.out.grown hgrow n3.out (fun j hj => (HO3.out.lt j hj).1))
          have HE6 := Lib.hid (own_keeps HO3.out hgrow HE3.out (by decide))
          clear hown' hgrow HO3 K3 NEW HE3 z1
          go_wp2_with fail
          go_roundw
          case rel => exact ⟨j + 1, by omega, by omega, by obtain ⟨a, c, h1⟩ := owns_slice HO6.out; rw [h1]; rfl, Lib.hid (by rw [HTT.out]; exact HO6.out), HE6, K6⟩
          case measure =>
            obtain ⟨a', c', h1⟩ := owns_slice HO6.out
            rw [h1]
            simp [slLen]
            omega
        · obtain rfl : p = j := by omega
          have HTT := Lib.hid (hds_snoc (x := hearH (idAt ids) bf en) hp16 HAT.out)
          have HM1 := Lib.hid (HH.out.below KB.out)
          have m1 : wr.cell? ⟨m, 1, none⟩ = some (.slice (some ⟨bl, offl, none⟩) L.length capl) := cell_of_block HM1.out.mesh rfl
          have c4 : wr.cell? ⟨bl, offl + i * 5 + 4, none⟩ = some (.int .i64 en.2.2.2.2) := gcell_below KB.out HC4.out
          have z0 : wr.cell? ⟨eb, 0, none⟩ = some (.int .i64 xb) := cell_of_block HE.out rfl
          have z2 : wr.cell? ⟨eb, 2, none⟩ = some (.int .i64 (i : Int)) := cell_of_block HE.out rfl
          have z3 : wr.cell? ⟨eb, 3, none⟩ = some (.int .i64 xs) := cell_of_block HE.out rfl
          have d1 : decide (p < p) = false := decide_eq_false (by omega)
          have d2 : decide (i < L.length) = true := decide_eq_true hil
          have d3 : decide ((i : Int) < (L.length : Int)) = true := decide_eq_true (by omega)
          have d4 : decide (L.length ≤ i) = false := decide_eq_false (by omega)
          have d5 : decide (0 ≤ (i : Int)) = true := decide_eq_true (by omega)
          clear hjp hj1 hj2
          go_upto_region 7 with fail
          have KF := Lib.hid fun (U : World) (kz : Below wr.heap.size wr U) => (⟨gcell_below kz m1, gcell_below kz c4, gcell_below kz z0, gcell_below kz z1, gcell_below kz z2, gcell_below kz z3⟩ : U.cell? ⟨m, 1, none⟩ = some (.slice (some ⟨bl, offl, none⟩) L.length capl) ∧ U.cell? ⟨bl, offl + i * 5 + 4, none⟩ = some (.int .i64 en.2.2.2.2) ∧ U.cell? ⟨eb, 0, none⟩ = some (.int .i64 xb) ∧ U.cell? ⟨eb, 1, none⟩ = some (.int .i64 (p : Int)) ∧ U.cell? ⟨eb, 2, none⟩ = some (.int .i64 (i : Int)) ∧ U.cell? ⟨eb, 3, none⟩ = some (.int .i64 xs))
          have k0 := (Below.refl wr.heap.size wr).drew
          have TC := Lib.hid fun (U : World) (kz : Below wr.heap.size wr U) => (told_c (HM1.out.below kz) n12 l40 HEN.out HOK.out)
          have OA := Lib.hid fun (U : World) (kz : Below wr.heap.size wr U) => (show (U.alloc (.cells #[.bool true, .int .u64 (hearH (idAt ids) bf en).2.1, .int .i64 (hearH (idAt ids) bf en).2.2.1, .int .u64 (hearH (idAt ids) bf en).2.2.2.1, .int .i64 (hearH (idAt ids) bf en).2.2.2.2.1, .int .i64 en.2.2.2.2] 84)).ownsRow w.heap.size 84 6 (.slice a p c) p (((hdsT (idAt ids) (endsL L) bf b).take p).flatMap cellsHd) from (iowns_below HO.out kz).alloc _)
          have CA := Lib.hid fun (U : World) => (show ∀ j u, ([.bool true, .int .u64 (hearH (idAt ids) bf en).2.1, .int .i64 (hearH (idAt ids) bf en).2.2.1, .int .u64 (hearH (idAt ids) bf en).2.2.2.1, .int .i64 (hearH (idAt ids) bf en).2.2.2.2.1, .int .i64 en.2.2.2.2] : List Value)[j]? = some u → (U.alloc (.cells #[.bool true, .int .u64 (hearH (idAt ids) bf en).2.1, .int .i64 (hearH (idAt ids) bf en).2.2.1, .int .u64 (hearH (idAt ids) bf en).2.2.2.1, .int .i64 (hearH (idAt ids) bf en).2.2.2.2.1, .int .i64 en.2.2.2.2] 84)).cell? ((⟨U.heap.size, 0, none⟩ : Addr).add j) = some u from cells_new U [.bool true, .int .u64 (hearH (idAt ids) bf en).2.1, .int .i64 (hearH (idAt ids) bf en).2.2.1, .int .u64 (hearH (idAt ids) bf en).2.2.2.1, .int .i64 (hearH (idAt ids) bf en).2.2.2.2.1, .int .i64 en.2.2.2.2] 84)
          have hsz1 := Lib.hid fun (U : World) (kz : Below wr.heap.size wr U) => (show w.heap.size ≤ (U.alloc (.cells #[.bool true, .int .u64 (hearH (idAt ids) bf en).2.1, .int .i64 (hearH (idAt ids) bf en).2.2.1, .int .u64 (hearH (idAt ids) bf en).2.2.2.1, .int .i64 (hearH (idAt ids) bf en).2.2.2.2.1, .int .i64 en.2.2.2.2] 84)).heap.size by have h1 := KB.out.size; have h2 := kz.size; simp; omega)
          have BA := Lib.hid fun (U : World) (kz : Below wr.heap.size wr U) => (show Below wr.heap.size wr (U.alloc (.cells #[.bool true, .int .u64 (hearH (idAt ids) bf en).2.1, .int .i64 (hearH (idAt ids) bf en).2.2.1, .int .u64 (hearH (idAt ids) bf en).2.2.2.1, .int .i64 (hearH (idAt ids) bf en).2.2.2.2.1, .int .i64 en.2.2.2.2] 84)) from kz.alloc kz.size _)
          have n11 := Lib.hid (show p + 1 ≤ maxLen by unfold maxLen; omega)
          have n22 := Lib.hid (show (p + 1) * 48 ≤ 140737488355328 by omega)
          have oc := Lib.hid (show ∀ u ∈ ([.bool true, .int .u64 (hearH (idAt ids) bf en).2.1, .int .i64 (hearH (idAt ids) bf en).2.2.1, .int .u64 (hearH (idAt ids) bf en).2.2.2.1, .int .i64 (hearH (idAt ids) bf en).2.2.2.2.1, .int .i64 en.2.2.2.2] : List Value), u.oneCell' = true from fun u hu => by simp at hu; rcases hu with rfl | rfl | rfl | rfl | rfl | rfl <;> rfl)
          refine wp_region_held_drew (S := fun U => U.cell? ⟨m, 1, none⟩ = some (.slice (some ⟨bl, offl, none⟩) L.length capl) ∧ U.cell? ⟨bl, offl + i * 5 + 4, none⟩ = some (.int .i64 en.2.2.2.2) ∧ U.cell? ⟨eb, 0, none⟩ = some (.int .i64 xb) ∧ U.cell? ⟨eb, 1, none⟩ = some (.int .i64 (p : Int)) ∧ U.cell? ⟨eb, 2, none⟩ = some (.int .i64 (i : Int)) ∧ U.cell? ⟨eb, 3, none⟩ = some (.int .i64 xs)) (by kernel_rfl) (KF.out _ k0) (fun hH => ?_)
          refine wpAnyH_take (i := 0) (oi := { dst := some 29, op := Op.move (Operand.tmp 5), type := 60, pos := "round.go:45", after := #[], guard := none }) (v := .slice a p c) rfl (by kernel_rfl) (by kernel_rfl) (by kernel_rfl) (fun _ _ _ h => h) (Or.inl ⟨by kernel_rfl, ?_⟩) hH ?_
          · intro w hSw; (try dsimp only at hSw); go_simp; (try rfl)
          try simp only [Act.put, List.setIfInBounds_toArray, List.set_cons_zero, List.set_cons_succ]
          refine wpAnyH_take (i := 1) (oi := { dst := some 30, op := Op.move (Operand.tmp 0), type := 57, pos := "round.go:45", after := #[], guard := none }) (v := .pointer (some ⟨m, 0, none⟩)) rfl (by kernel_rfl) (by kernel_rfl) (by kernel_rfl) (fun _ _ _ h => h) (Or.inl ⟨by kernel_rfl, ?_⟩) hH ?_
          · intro w hSw; (try dsimp only at hSw); go_simp; (try rfl)
          try simp only [Act.put, List.setIfInBounds_toArray, List.set_cons_zero, List.set_cons_succ]
          refine wpAnyH_take (i := 2) (oi := { dst := some 31, op := Op.load 54 (Operand.tmp 7), type := 54, pos := "round.go:45", after := #[], guard := none }) (v := .agg #[.int .i64 xb, .int .i64 (p : Int), .int .i64 (i : Int), .int .i64 xs]) rfl (by kernel_rfl) (by kernel_rfl) (by kernel_rfl) (fun _ _ _ h => h) (Or.inl ⟨by kernel_rfl, ?_⟩) hH ?_
          · intro w hSw; (try dsimp only at hSw); go_simp; (try rfl)
          try simp only [Act.put, List.setIfInBounds_toArray, List.set_cons_zero, List.set_cons_succ]
          refine wpAnyH_take (i := 4) (oi := { dst := some 33, op := Op.move (Operand.tmp 0), type := 57, pos := "round.go:45", after := #[], guard := none }) (v := .pointer (some ⟨m, 0, none⟩)) rfl (by kernel_rfl) (by kernel_rfl) (by kernel_rfl) (fun _ _ _ h => h) (Or.inl ⟨by kernel_rfl, ?_⟩) hH ?_
          · intro w hSw; (try dsimp only at hSw); go_simp; (try rfl)
          try simp only [Act.put, List.setIfInBounds_toArray, List.set_cons_zero, List.set_cons_succ]
          refine wpAnyH_take (i := 5) (oi := { dst := some 34, op := Op.nilCheck (Operand.tmp 33), type := 0, pos := "round.go:45", after := #[{ on := 4, ground := Ground.data }], guard := none }) (v := .pointer (some ⟨m, 0, none⟩)) rfl (by kernel_rfl) (by kernel_rfl) (by kernel_rfl) (fun _ _ _ h => h) (Or.inl ⟨by kernel_rfl, ?_⟩) hH ?_
          · intro w hSw; (try dsimp only at hSw); go_simp; (try rfl)
          try simp only [Act.put, List.setIfInBounds_toArray, List.set_cons_zero, List.set_cons_succ]
          refine wpAnyH_take (i := 6) (oi := { dst := some 35, op := Op.fieldAddr 65 (Operand.tmp 34) 1, type := 0, pos := "round.go:45", after := #[{ on := 5, ground := Ground.data }], guard := none }) (v := .pointer (some ⟨m, 1, none⟩)) rfl (by kernel_rfl) (by kernel_rfl) (by kernel_rfl) (fun _ _ _ h => h) (Or.inl ⟨by kernel_rfl, ?_⟩) hH ?_
          · intro w hSw; (try dsimp only at hSw); go_simp; (try rfl)
          try simp only [Act.put, List.setIfInBounds_toArray, List.set_cons_zero, List.set_cons_succ]
          refine wpAnyH_take (i := 7) (oi := { dst := some 36, op := Op.load 28 (Operand.tmp 35), type := 28, pos := "round.go:45", after := #[{ on := 6, ground := Ground.data }], guard := none }) (v := .slice (some ⟨bl, offl, none⟩) L.length capl) rfl (by kernel_rfl) (by kernel_rfl) (by kernel_rfl) (fun _ _ _ h => h) (Or.inl ⟨by kernel_rfl, ?_⟩) hH ?_
          · intro w hSw; (try dsimp only at hSw); go_simp; (try rfl)
          try simp only [Act.put, List.setIfInBounds_toArray, List.set_cons_zero, List.set_cons_succ]
          refine wpAnyH_take (i := 8) (oi := { dst := some 37, op := Op.fieldAddr 54 (Operand.tmp 7) 2, type := 0, pos := "round.go:45", after := #[], guard := none }) (v := .pointer (some ⟨eb, 2, none⟩)) rfl (by kernel_rfl) (by kernel_rfl) (by kernel_rfl) (fun _ _ _ h => h) (Or.inl ⟨by kernel_rfl, ?_⟩) hH ?_
          · intro w hSw; (try dsimp only at hSw); go_simp; (try rfl)
          try simp only [Act.put, List.setIfInBounds_toArray, List.set_cons_zero, List.set_cons_succ]
          refine wpAnyH_take (i := 9) (oi := { dst := some 38, op := Op.load 3 (Operand.tmp 37), type := 3, pos := "round.go:45", after := #[{ on := 8, ground := Ground.data }], guard := none }) (v := .int .i64 (i : Int)) rfl (by kernel_rfl) (by kernel_rfl) (by kernel_rfl) (fun _ _ _ h => h) (Or.inl ⟨by kernel_rfl, ?_⟩) hH ?_
          · intro w hSw; (try dsimp only at hSw); go_simp; (try rfl)
          try simp only [Act.put, List.setIfInBounds_toArray, List.set_cons_zero, List.set_cons_succ]
          refine wpAnyH_take (i := 10) (oi := { dst := some 39, op := Op.indexAddr 28 (Operand.tmp 36) (Operand.tmp 38), type := 0, pos := "round.go:45", after := #[{ on := 7, ground := Ground.data }, { on := 9, ground := Ground.data }], guard := none }) (v := .pointer (some ⟨bl, offl + i * 5, none⟩)) rfl (by kernel_rfl) (by kernel_rfl) (by kernel_rfl) (fun _ _ _ h => h) (Or.inl ⟨by kernel_rfl, ?_⟩) hH ?_
          · intro w hSw; (try dsimp only at hSw); go_simp; (try rfl)
          try simp only [Act.put, List.setIfInBounds_toArray, List.set_cons_zero, List.set_cons_succ]
          refine wpAnyH_take (i := 11) (oi := { dst := some 40, op := Op.fieldAddr 45 (Operand.tmp 39) 4, type := 0, pos := "round.go:45", after := #[{ on := 10, ground := Ground.data }], guard := none }) (v := .pointer (some ⟨bl, offl + i * 5 + 4, none⟩)) rfl (by kernel_rfl) (by kernel_rfl) (by kernel_rfl) (fun _ _ _ h => h) (Or.inl ⟨by kernel_rfl, ?_⟩) hH ?_
          · intro w hSw; (try dsimp only at hSw); go_simp; (try rfl)
          try simp only [Act.put, List.setIfInBounds_toArray, List.set_cons_zero, List.set_cons_succ]
          refine wpAnyH_take (i := 12) (oi := { dst := some 41, op := Op.load 3 (Operand.tmp 40), type := 3, pos := "round.go:45", after := #[{ on := 11, ground := Ground.data }], guard := none }) (v := .int .i64 en.2.2.2.2) rfl (by kernel_rfl) (by kernel_rfl) (by kernel_rfl) (fun _ _ _ h => h) (Or.inl ⟨by kernel_rfl, ?_⟩) hH ?_
          · intro w hSw; (try dsimp only at hSw); go_simp; (try rfl)
          try simp only [Act.put, List.setIfInBounds_toArray, List.set_cons_zero, List.set_cons_succ]
          refine wpAnyH_ready (rs := [3]) (by kernel_rfl) (by simp) ?_
          refine AllReadyH.cons rfl (fun K hK => ?_) AllReadyH.nil
          go_simp
          with_reducible refine (TC.out _ k0).mono ?_
          rintro er w8 ⟨rfl, hb8⟩
          try go_wp2_with fail
          have k8 := k0.trans (hb8.mono k0.size)
          refine hK.out _ _ (KF.out _ k8) (fun hH => ?_)
          clear hK K
          try simp only [Act.put, List.setIfInBounds_toArray, List.set_cons_zero, List.set_cons_succ]
          refine wpAnyH_take (i := 13) (oi := { dst := some 42, op := Op.build 84 #[(0, Operand.const (Value.bool true)), (1, Operand.tmp 32), (2, Operand.tmp 41)], type := 84, pos := "round.go:45", after := #[{ on := 3, ground := Ground.data }, { on := 12, ground := Ground.data }], guard := none }) (v := .agg #[.bool true, .int .u64 (hearH (idAt ids) bf en).2.1, .int .i64 (hearH (idAt ids) bf en).2.2.1, .int .u64 (hearH (idAt ids) bf en).2.2.2.1, .int .i64 (hearH (idAt ids) bf en).2.2.2.2.1, .int .i64 en.2.2.2.2]) rfl (by kernel_rfl) (by kernel_rfl) (by kernel_rfl) (fun _ _ _ h => h) (Or.inl ⟨by kernel_rfl, ?_⟩) hH ?_
          · intro w hSw; (try dsimp only at hSw); go_simp; (try rfl)
          try simp only [Act.put, List.setIfInBounds_toArray, List.set_cons_zero, List.set_cons_succ]
          refine wpAnyH_ready (rs := [14]) (by kernel_rfl) (by simp) ?_
          refine AllReadyH.cons rfl (fun K hK => ?_) AllReadyH.nil
          go_simp
          refine hK.out _ _ (KF.out _ (BA.out _ k8)) (fun hH => ?_)
          clear hK K
          try simp only [Act.put, List.setIfInBounds_toArray, List.set_cons_zero, List.set_cons_succ]
          refine wpAnyH_ready (rs := [15]) (by kernel_rfl) (by simp) ?_
          refine AllReadyH.cons rfl (fun K hK => ?_) AllReadyH.nil
          refine step_append_lies _ rfl _ _ 60 rfl w.heap.size 84 i0 (.agg #[.bool false, .int .u64 0, .int .i64 0, .int .u64 0, .int .i64 0, .int .i64 0]) 6 48 Try.underlying60 hi hz0 hz1 hz2 rfl (by decide) (.slice a p c) p (((hdsT (idAt ids) (endsL L) bf b).take p).flatMap cellsHd) rfl (OA.out _ k8) ⟨w8.heap.size, 0, none⟩ 1 1 [.bool true, .int .u64 (hearH (idAt ids) bf en).2.1, .int .i64 (hearH (idAt ids) bf en).2.2.1, .int .u64 (hearH (idAt ids) bf en).2.2.2.1, .int .i64 (hearH (idAt ids) bf en).2.2.2.2.1, .int .i64 en.2.2.2.2] rfl rfl (CA.out _) oc.out (by decide) n11.out n22.out (hsz1.out _ k8) _ rfl ?_
          intro g7 c7 w7 hown7 hg7 hat7 hlt7
          have K7 := Lib.hid ((KB.out.trans ((BA.out _ k8).mono KB.out.size)).grown hg7 (hsz1.out _ k8) (fun j hj => ((OA.out _ k8).lt j hj).1))
          have OW7 := Lib.hid hown7
          have e7 := own_keeps (OA.out _ k8) hg7 (k := eb) (below_block (BA.out _ k8) (lt_of_block HE.out) HE.out) (by decide)
          have S7 := Lib.hid (show w7.cell? ⟨m, 1, none⟩ = some (.slice (some ⟨bl, offl, none⟩) L.length capl) ∧ w7.cell? ⟨bl, offl + i * 5 + 4, none⟩ = some (.int .i64 en.2.2.2.2) ∧ w7.cell? ⟨eb, 0, none⟩ = some (.int .i64 xb) ∧ w7.cell? ⟨eb, 1, none⟩ = some (.int .i64 (p : Int)) ∧ w7.cell? ⟨eb, 2, none⟩ = some (.int .i64 (i : Int)) ∧ w7.cell? ⟨eb, 3, none⟩ = some (.int .i64 xs) from ⟨gcell_below K7.out (cell_of_block HH.out.mesh rfl), gcell_below K7.out HC4.out, cell_of_block e7 rfl, cell_of_block e7 rfl, cell_of_block e7 rfl, cell_of_block e7 rfl⟩)
          clear hown7 hg7 hat7 hlt7 e7
          refine hK.out _ _ (S7.out) (fun hH => ?_)
          clear hK K
          try simp only [Act.put, List.setIfInBounds_toArray, List.set_cons_zero, List.set_cons_succ]
          refine wpAnyH_take (i := 16) (oi := { dst := some 5, op := Op.assign (Operand.tmp 44), type := 60, pos := "round.go:45", after := #[{ on := 15, ground := Ground.data }, { on := 15, ground := Ground.chain }, { on := 0, ground := Ground.phase }, { on := 1, ground := Ground.phase }, { on := 2, ground := Ground.phase }, { on := 3, ground := Ground.phase }, { on := 4, ground := Ground.phase }, { on := 5, ground := Ground.phase }, { on := 6, ground := Ground.phase }, { on := 7, ground := Ground.phase }, { on := 8, ground := Ground.phase }, { on := 9, ground := Ground.phase }, { on := 10, ground := Ground.phase }, { on := 11, ground := Ground.phase }, { on := 12, ground := Ground.phase }, { on := 13, ground := Ground.phase }, { on := 14, ground := Ground.phase }, { on := 15, ground := Ground.phase }], guard := none }) (v := .slice (some ⟨g7, 0, none⟩) (p + 1) c7) rfl (by kernel_rfl) (by kernel_rfl) (by kernel_rfl) (fun _ _ _ h => h) (Or.inl ⟨by kernel_rfl, ?_⟩) hH ?_
          · intro w hSw; (try dsimp only at hSw); go_simp; (try rfl)
          try simp only [Act.put, List.setIfInBounds_toArray, List.set_cons_zero, List.set_cons_succ]
          refine wpAnyH_done (by kernel_rfl) ?_ _
          clear m1 c4 z0 z1 z2 z3 d1 d2 d3 d4 d5 KF k0 TC OA CA hsz1 BA n11 n22 oc hb8 k8 S7 hH
          have hnd80 := HD80.out
          go_wp2_with fail
          go_roundw
          case rel => exact ⟨k + 1, by omega, by go_num, Lib.hid (by rw [HL1.out, HTT.out]; exact OW7.out), K7⟩
          case measure => simp [intOf]; omega
    · obtain rfl : k = nd := by omega
      have HP := Lib.hid (rowsAt_own (by decide) hd_len HO.out)
      clear hlt
      go_wp2_with fail
      go_ret
      refine ⟨_, rfl, ?_, KB.out⟩
      have h1 := HP.out
      rw [HND.out, HDD.out] at h1
      exact h1
end Go.Proofs.Ytolmkflhddlcnaa
