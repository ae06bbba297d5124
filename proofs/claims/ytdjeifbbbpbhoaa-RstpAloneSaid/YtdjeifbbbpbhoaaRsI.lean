/-
  rstp: New. Contracts over the translated program.
-/
import Derived.Test.YtdjeifbbbpbhoaaRsH
import Derived.Test.YtdjeifbbbpbhoaaMemI
namespace Go.Proofs.Ytdjeifbbbpbhoaa
open Go.RowKit
set_option linter.unusedVariables false
set_option linter.unusedSimpArgs false

/-- A row that grew. -/
theorem Tt.grown {P : TypeId → Bool} {B : Nat} {w w' : World} {e : TypeId} {size n : Nat} {v : Value} {xs : List Value} (ho : w.ownsRow B e size v n xs) (hp : P e = true) (hg : w.grownBy w' v.ownBlock) : Tt P B w w' := by
  refine ⟨hg.os, hg.tape, hg.output, hg.size, fun k hk h2 => hg.block k hk fun e1 => ?_⟩
  have hlt := ho.lt k e1.symm
  rcases h2 with h2 | h2
  · omega
  · rcases ho.2 with ⟨rfl, _⟩ | ⟨g, cap, cur, rfl, hb, hgg, _⟩
    · simp [Value.ownBlock] at e1
    · simp [Value.ownBlock] at e1
      subst e1
      have := h2 _ _ _ hgg
      rw [hp] at this
      cases this

def ptrs (A : List Nat) : List Value := A.map fun a => .pointer (some ⟨a, 0, none⟩)
def isP (t : TypeId) : Bool := t == 61

theorem owns_slice {w : World} {base e size n : Nat} {v : Value} {xs : List Value} (h : w.ownsRow base e size v n xs) : ∃ p cap, v = .slice p n cap := by
  rcases h.2 with ⟨rfl, rfl⟩ | ⟨g, cap, cur, rfl, _⟩
  · exact ⟨none, 0, rfl⟩
  · exact ⟨_, cap, rfl⟩
/-- A part in the making, in a world made since W. -/
structure MkS (W w : World) (t : Nat) (sv : Value) (A : List Nat) (b : Int) (ps : List Prt) : Prop where
  tree : w.heap[t]? = some (.cells (partC ⟨b, 0, [], ownV b, 0⟩ sv) 60 (0, 0))
  own : w.ownsRow W.heap.size 61 1 sv A.length (ptrs A)
  ports : ∀ (j a : Nat) (p : Prt), A[j]? = some a → ps[j]? = some p → PrtAt w a p
  nodup : A.Nodup
  geA : ∀ a ∈ A, W.heap.size ≤ a ∧ a < w.heap.size
  len : ps.length = A.length
  bel : Below W.heap.size W w
  geT : W.heap.size ≤ t

theorem mk_start (W w : World) (b : Int) (h : Below W.heap.size W w) : MkS W (w.alloc (.cells (partC ⟨b, 0, [], ownV b, 0⟩ (.slice none 0 0)) 60)) w.heap.size (.slice none 0 0) [] b [] :=
  ⟨heap_new _ _, World.ownsRow_nil _ _ _ _, fun j a p h1 => by simp at h1, List.nodup_nil, fun a h1 => by simp at h1, rfl, h.alloc h.size _, h.size⟩

theorem mk_mid {W w w6 : World} {t : Nat} {sv : Value} {A : List Nat} {b c : Int} {ps : List Prt} (h : MkS W w t sv A b ps) (hg : ((w.alloc (.cells (prtC (newPrt c) (.pointer none)) 64)).alloc (.cells #[.pointer (some ⟨w.heap.size, 0, none⟩)] 61)).grownBy w6 sv.ownBlock) : w6.heap[t]? = some (.cells (partC ⟨b, 0, [], ownV b, 0⟩ sv) 60 (0, 0)) := by
  have k1 : Below w.heap.size w ((w.alloc (.cells (prtC (newPrt c) (.pointer none)) 64)).alloc (.cells #[.pointer (some ⟨w.heap.size, 0, none⟩)] 61)) := ((Below.refl _ w).alloc (Nat.le_refl _) _).alloc (by simp) _
  exact (Tt.grown (P := isP) (iowns_below h.own k1) (by decide) hg).cells (below_block k1 (lt_of_block h.tree) h.tree) (by decide)

theorem mk_step {W w w6 : World} {t : Nat} {sv v' : Value} {A : List Nat} {b c : Int} {ps : List Prt} (h : MkS W w t sv A b ps)
    (hown : w6.ownsRow W.heap.size 61 1 v' (A.length + 1) (ptrs A ++ [.pointer (some ⟨w.heap.size, 0, none⟩)]))
    (hg : ((w.alloc (.cells (prtC (newPrt c) (.pointer none)) 64)).alloc (.cells #[.pointer (some ⟨w.heap.size, 0, none⟩)] 61)).grownBy w6 sv.ownBlock) :
    MkS W (w6.setCell ⟨t, 2, none⟩ v') t v' (A ++ [w.heap.size]) b (ps ++ [newPrt c]) := by
  have hlt : t < w.heap.size := (Array.getElem?_eq_some_iff.1 h.tree).1
  have k1 : Below w.heap.size w ((w.alloc (.cells (prtC (newPrt c) (.pointer none)) 64)).alloc (.cells #[.pointer (some ⟨w.heap.size, 0, none⟩)] 61)) := ((Below.refl _ w).alloc (Nat.le_refl _) _).alloc (by simp) _
  have hnew : ((w.alloc (.cells (prtC (newPrt c) (.pointer none)) 64)).alloc (.cells #[.pointer (some ⟨w.heap.size, 0, none⟩)] 61)).heap[w.heap.size]? = some (.cells (prtC (newPrt c) (.pointer none)) 64 (0, 0)) := heap_old (heap_new w _)
  have ho1 := iowns_below h.own k1
  have hbs := h.bel.trans (k1.mono h.bel.size)
  have hp1 : ∀ (j a : Nat) (p : Prt), A[j]? = some a → ps[j]? = some p → PrtAt ((w.alloc (.cells (prtC (newPrt c) (.pointer none)) 64)).alloc (.cells #[.pointer (some ⟨w.heap.size, 0, none⟩)] 61)) a p := fun j a p ha hp => by
    obtain ⟨kv, hb, hk⟩ := h.ports j a p ha hp
    exact ⟨kv, below_block k1 (lt_of_block hb) hb, hk.tt (P := fun _ => false) (B := 0) (Tt.ofBelow k1) rfl⟩
  have ht1 := below_block k1 (lt_of_block h.tree) h.tree
  have hs1 := k1.size
  have hs2 : w.heap.size < ((w.alloc (.cells (prtC (newPrt c) (.pointer none)) 64)).alloc (.cells #[.pointer (some ⟨w.heap.size, 0, none⟩)] 61)).heap.size := lt_of_block hnew
  generalize (w.alloc (.cells (prtC (newPrt c) (.pointer none)) 64)).alloc (.cells #[.pointer (some ⟨w.heap.size, 0, none⟩)] 61) = w1 at *
  have k2 : Tt isP W.heap.size w1 w6 := Tt.grown ho1 (by decide) hg
  have ht6 := k2.cells ht1 (by decide)
  have hx := Only.setCell w6 t 2 v'
  have hne : ∀ {g : Nat} {cs : Array Value}, w6.heap[g]? = some (.cells cs 64 (0, 0)) → g ≠ t := by
    rintro g cs h1 rfl
    have e := h1.symm.trans ht6
    simp at e
  refine ⟨heap_store ht6, ?_, fun j a p ha hp => ?_, ?_, fun a ha => ?_, ?_, ?_, h.geT⟩
  · have e : ptrs (A ++ [w.heap.size]) = ptrs A ++ [.pointer (some ⟨w.heap.size, 0, none⟩)] := by unfold ptrs; rw [List.map_append]; rfl
    rw [e, List.length_append, List.length_singleton]
    exact owns_only hown hx ht6 (by decide)
  · by_cases hj : j < A.length
    · rw [List.getElem?_append_left hj] at ha
      rw [List.getElem?_append_left (by rw [h.len]; exact hj)] at hp
      obtain ⟨kv, hb, hk⟩ := hp1 j a p ha hp
      have hb6 := k2.cells hb (by decide)
      exact ⟨kv, hx.cells hb6 (hne hb6), (hk.tt k2 (by decide)).onlyT hx ht6⟩
    · have hj' := (List.getElem?_eq_some_iff.1 ha).1
      rw [List.length_append, List.length_singleton] at hj'
      obtain rfl : j = A.length := by omega
      rw [List.getElem?_append_right (Nat.le_refl _), Nat.sub_self] at ha
      rw [List.getElem?_append_right (by rw [h.len]; exact Nat.le_refl _), h.len, Nat.sub_self] at hp
      simp at ha hp
      subst ha
      subst hp
      have hb6 := k2.cells hnew (by decide)
      exact ⟨_, hx.cells hb6 (hne hb6), rfl⟩
  · rw [List.nodup_append]
    refine ⟨h.nodup, by simp, fun a ha b hb => ?_⟩
    simp at hb
    have := (h.geA a ha).2
    omega
  · have := hx.size
    have := k2.size
    rcases List.mem_append.1 ha with ha | ha
    · have := h.geA a ha
      omega
    · simp at ha
      have := h.bel.size
      omega
  · rw [List.length_append, List.length_append, h.len]
    rfl
  · have k3 : Below W.heap.size w1 w6 := k2.below (Nat.le_refl _) hbs.size
    exact (hbs.trans k3).setCell (p := ⟨t, 2, none⟩) h.geT _
theorem newPart_good (b : Int) (cs : List Int) : (newPart b cs).Good := ⟨Int.le_refl 0, by show (0 : Int) ≤ 1099511627776; decide, Int.le_refl 0, by show (0 : Int) ≤ 1099511627777; decide, fun p hp => by
  obtain ⟨c, hc, rfl⟩ := List.mem_map.1 hp
  exact ⟨Int.le_refl 0, by show (0 : Int) ≤ 1099511627776; decide, fun m e => by cases e⟩⟩
theorem mk_done {W w : World} {t : Nat} {sv : Value} {A : List Nat} {b : Int} {cs : List Int} (h : MkS W w t sv A b (cs.map newPrt)) (h1 : 1 ≤ A.length) (h16 : A.length ≤ 16) : ∃ rb cap, HasS w W.heap.size t rb cap A (newPart b cs) := by
  rcases h.own.2 with ⟨_, h0⟩ | ⟨g, cap, cur, rfl, hb, hg, k1, k2, k3, k4⟩
  · omega
  · refine ⟨g, cap, h.tree, ⟨cur, hg, fun j a ha => ?_⟩, h.len, h.nodup, h.ports, h.geT, fun a ha => (h.geA a ha).1, h1, h16, newPart_good b cs⟩
    have hj := (List.getElem?_eq_some_iff.1 ha).1
    have e : (ptrs A)[j]? = some (.pointer (some ⟨a, 0, none⟩)) := by unfold ptrs; rw [List.getElem?_map, ha]; rfl
    rw [← k4, List.getElem?_take_of_lt (by omega)] at e
    rw [← Array.getElem?_toList]
    exact e

theorem info_Pp : (Try.prog.info? 61).map (fun i => (i.zero, i.size, i.bytes)) = some (some (.pointer none), 1, 8) := by kernel_rfl
theorem one_ptr (p : Option Addr) : ∀ u ∈ [Value.pointer p], u.oneCell' = true := by intro u hu; simp at hu; subst hu; rfl

theorem IntsAt.cell {w : World} {v : Value} {l : List Int} (h : IntsAt w v l) {k : Nat} (hk : k < l.length) : ∃ bb off cap, v = .slice (some ⟨bb, off, none⟩) l.length cap ∧ ∀ (j : Nat) (hj : j < l.length), w.cell? ⟨bb, off + j, none⟩ = some (.int .i64 l[j]) := by
  obtain ⟨p, cap, b, off, hv, hp, hc⟩ := h
  have hne : l ≠ [] := by rintro rfl; simp at hk
  exact ⟨b, off, cap, by rw [hv, hp hne], fun j hj => hc j _ (List.getElem?_eq_getElem hj)⟩

theorem mayCs_all {cs : List Int} (h : mayCs cs = true) : 1 ≤ cs.length ∧ cs.length ≤ 16 ∧ ∀ c ∈ cs, 1 ≤ c ∧ c ≤ 200000000 := by
  unfold mayCs at h
  simp at h
  exact ⟨h.1.1, h.1.2, h.2⟩

set_option maxHeartbeats 2000000 in
set_option maxRecDepth 100000 in
theorem new_len (b : Int) (v : Value) (cs : List Int) (w : World) (h : IntsAt w v cs) (hl : cs.length ≤ 9223372036854775807) (hc : cs.length < 1 ∨ 16 < cs.length) : Calls Try.prog 8 #[.int .u64 b, v] w fun e w' => e = .returned (.tuple #[.pointer none, .int .i64 1]) ∧ w = w' := by
  obtain ⟨p, cap, rfl⟩ := h.slice
  clear h
  by_cases h1 : cs.length < 1
  · have k1 : decide ((cs.length : Int) < 1) = true := decide_eq_true (by omega)
    clear hc h1
    go_enter Try.func8, Try.ntmps8
    go_wp2
    go_ret2
    exact ⟨rfl, rfl⟩
  · have k1 : decide ((cs.length : Int) < 1) = false := decide_eq_false (by omega)
    have k2 : decide ((16 : Int) < (cs.length : Int)) = true := decide_eq_true (by omega)
    clear hc h1
    go_enter Try.func8, Try.ntmps8
    go_wp2
    go_ret2
    exact ⟨rfl, rfl⟩

def NewPost (w : World) (b : Int) (cs : List Int) (e : Ending) (w' : World) : Prop :=
  if mayCs cs = true then ∃ t rb cap A, e = .returned (.tuple #[.pointer (some ⟨t, 0, none⟩), .int .i64 0]) ∧ A.length = cs.length ∧ HasS w' w.heap.size t rb cap A (newPart b cs) ∧ Below w.heap.size w w'
  else e = .returned (.tuple #[.pointer none, .int .i64 1]) ∧ Below w.heap.size w w'

set_option maxHeartbeats 4000000 in
set_option maxRecDepth 100000 in
theorem new_go (b : Int) (v : Value) (cs : List Int) (w : World) (h : IntsAt w v cs) (h1 : 1 ≤ cs.length) (h16 : cs.length ≤ 16) : Calls Try.prog 8 #[.int .u64 b, v] w (NewPost w b cs) := by
  obtain ⟨bb, off, cap, rfl, hc⟩ := h.cell (k := 0) h1
  have HC := Lib.hid hc
  clear h hc
  have k1 : decide ((cs.length : Int) < 1) = false := decide_eq_false (by omega)
  have k2 : decide ((16 : Int) < (cs.length : Int)) = false := decide_eq_false (by omega)
  have HO := Lib.hid fun U => pown_c b U
  obtain ⟨i0, hi, hz0, hz1, hz2⟩ := info_parts info_Pp
  go_enter Try.func8, Try.ntmps8
  go_wp2_with fail
  ((with_reducible refine (HO.out _).mono ?_); rintro e w1 ⟨rfl, hw1⟩)
  have M0 := Lib.hid (mk_start w w1 b hw1)
  clear hw1 HO k1 k2
  go_upto_region 4 with fail
  generalize hT : (w1.alloc (.cells #[.int .u64 b, .int .i64 0, .slice none 0 0, .int .u64 b, .int .i64 0, .int .u64 b, .int .i64 0, .int .i64 0] 60)) = w2
  replace M0 : Hid (MkS w w2 w1.heap.size (.slice none 0 0) [] b []) := Lib.hid (by rw [← hT]; exact M0.out)
  clear hT
  generalize w1.heap.size = t at M0 ⊢
  go_wp2_with fail
  go_loopw [8, 24] (fun _ i wr => ∃ (k : Nat) (sv : Value) (A : List Nat), k ≤ cs.length ∧ i = .int .i64 k ∧ Hid (A.length = k) ∧ Hid (∀ c ∈ cs.take k, 1 ≤ c ∧ c ≤ 200000000) ∧ Hid (MkS w wr t sv A b ((cs.take k).map newPrt))) (fun _ i _ => cs.length - (intOf i).toNat)
  case atStart => exact ⟨0, _, [], Nat.zero_le _, rfl, Lib.hid rfl, Lib.hid (fun c hc => by simp at hc), Lib.hid M0.out⟩
  case round =>
    obtain ⟨k, sv, A, hk, rfl, HA, HG, HM⟩ := hrel
    by_cases hlt : k < cs.length
    · have xc := gcell_below HM.out.bel (HC.out k hlt)
      have HT := Lib.hid (show cs.take (k + 1) = cs.take k ++ [cs[k]] from List.take_succ_eq_append_getElem hlt)
      have HMEM := Lib.hid (List.getElem_mem hlt)
      generalize cs[k] = c at xc HT HMEM
      have hk1 : decide (cs.length ≤ k) = false := decide_eq_false (by omega)
      by_cases hc1 : c < 1
      · have d1 : decide (c < 1) = true := decide_eq_true hc1
        have E := Lib.hid (show mayCs cs = false from Bool.eq_false_iff.2 fun h => by have := (mayCs_all h).2.2 c HMEM.out; omega)
        have HB := Lib.hid HM.out.bel
        clear hc1
        go_wp2_with fail
        go_ret2
        unfold NewPost
        rw [E.out]
        exact ⟨rfl, HB.out⟩
      · have d1 : decide (c < 1) = false := decide_eq_false hc1
        by_cases hc2 : 200000000 < c
        · have d2 : decide (200000000 < c) = true := decide_eq_true hc2
          have E := Lib.hid (show mayCs cs = false from Bool.eq_false_iff.2 fun h => by have := (mayCs_all h).2.2 c HMEM.out; omega)
          have HB := Lib.hid HM.out.bel
          clear hc1 hc2
          go_wp2_with fail
          go_ret2
          unfold NewPost
          rw [E.out]
          exact ⟨rfl, HB.out⟩
        · have d2 : decide (200000000 < c) = false := decide_eq_false hc2
          have HG1 := Lib.hid (show ∀ x ∈ cs.take (k + 1), 1 ≤ x ∧ x ≤ 200000000 from fun x hx => by
            rw [HT.out] at hx
            rcases List.mem_append.1 hx with hx | hx
            · exact HG.out x hx
            · simp at hx; omega)
          clear hc1 hc2
          have x2 : wr.cell? ⟨t, 2, none⟩ = some sv := cell_of_block HM.out.tree rfl
          have hlt2 : t < wr.heap.size := gcell_lt x2
          have hne2 : t ≠ wr.heap.size := by omega
          have hne3 : t ≠ wr.heap.size + 1 := by omega
          have n1 := Lib.hid (show A.length + 1 ≤ maxLen by have := HA.out; unfold maxLen; omega)
          have n2 := Lib.hid (show (A.length + 1) * 8 ≤ 140737488355328 by have := HA.out; omega)
          have n3 := Lib.hid (show w.heap.size ≤ ((wr.alloc (.cells (prtC (newPrt c) (.pointer none)) 64)).alloc (.cells #[.pointer (some ⟨wr.heap.size, 0, none⟩)] 61)).heap.size by have := HM.out.bel.size; simp; omega)
          have HO := Lib.hid ((HM.out.own.alloc (.cells (prtC (newPrt c) (.pointer none)) 64)).alloc (.cells #[.pointer (some ⟨wr.heap.size, 0, none⟩)] 61))
          have HNEW := Lib.hid (show ∀ j u, [Value.pointer (some ⟨wr.heap.size, 0, none⟩)][j]? = some u → ((wr.alloc (.cells (prtC (newPrt c) (.pointer none)) 64)).alloc (.cells #[.pointer (some ⟨wr.heap.size, 0, none⟩)] 61)).cell? ((⟨wr.heap.size + 1, 0, none⟩ : Addr).add j) = some u from fun j u hj => by
            have := cells_new (wr.alloc (.cells (prtC (newPrt c) (.pointer none)) 64)) [.pointer (some ⟨wr.heap.size, 0, none⟩)] 61 j u hj
            simpa using this)
          go_wp2_with (at_builtin; refine wpList_append_own _ rfl _ _ 58 rfl w.heap.size 61 i0 (.pointer none) 1 8 Try.underlying58 hi hz0 hz1 hz2 rfl (by decide) _ _ _ rfl HO.out ⟨wr.heap.size + 1, 0, none⟩ 1 1 [.pointer (some ⟨wr.heap.size, 0, none⟩)] rfl rfl HNEW.out (one_ptr _) n1.out n2.out n3.out ?_)
          intro v' w6 hown' hgrow _
          have ht6 := mk_mid HM.out hgrow
          have HM6 := Lib.hid (mk_step HM.out hown' hgrow)
          have x6 : w6.cell? ⟨t, 2, none⟩ = some sv := cell_of_block ht6 rfl
          have f6 := free_of_block (j := 2) ht6
          obtain ⟨sp, scap, rfl⟩ := owns_slice hown'
          clear ht6 hown' hgrow HO HNEW n1 n2 n3 x2 hlt2 hne2 hne3 xc
          go_wp2_with fail
          go_roundw
          case rel => exact ⟨k + 1, _, A ++ [wr.heap.size], by omega, by go_num, Lib.hid (by rw [List.length_append, HA.out]; rfl), HG1, Lib.hid (by rw [HT.out, List.map_append]; exact HM6.out)⟩
          case measure => simp [intOf]; omega
    · obtain rfl : k = cs.length := by omega
      rw [List.take_of_length_le (Nat.le_refl _)] at HM HG
      clear hlt
      have E := Lib.hid (show mayCs cs = true by
        unfold mayCs
        simp
        exact ⟨⟨h1, h16⟩, HG.out⟩)
      have HD := Lib.hid (mk_done HM.out (by rw [HA.out]; exact h1) (by rw [HA.out]; exact h16))
      have HB := Lib.hid HM.out.bel
      go_wp2_with fail
      go_ret2
      unfold NewPost
      rw [E.out]
      obtain ⟨rb, cap', hd⟩ := HD.out
      exact ⟨t, rb, cap', A, rfl, HA.out, hd, HB.out⟩

end Go.Proofs.Ytdjeifbbbpbhoaa
