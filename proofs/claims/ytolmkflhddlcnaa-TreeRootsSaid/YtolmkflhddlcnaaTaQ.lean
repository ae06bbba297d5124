/-
  The document's 'Together': the least bridge that each one hangs together with. A contract over the translated program.
-/
import Derived.Test.YtolmkflhddlcnaaTaG
import Derived.Test.YtolmkflhddlcnaaTrJ
import Derived.Test.YtolmkflhddlcnaaTrN
import Derived.StillTailTactics
namespace Go.Proofs.Ytolmkflhddlcnaa
open Go.RowKit
set_option linter.unusedVariables false
set_option linter.unusedSimpArgs false

/-- Numbers, one for each bridge, in a block of their own. -/
def TogIn (w : World) (g n : Nat) (f : Nat → Nat) : Prop := ∃ cs, w.heap[g]? = some (.cells cs 3 (0, 0)) ∧ cs.size = n ∧ ∀ b, b < n → cs[b]? = some (.int .i64 (f b : Int))
theorem TogIn.cell {w : World} {g n : Nat} {f : Nat → Nat} (h : TogIn w g n f) {b : Nat} (hb : b < n) : w.cell? ⟨g, b, none⟩ = some (.int .i64 (f b : Int)) := by
  obtain ⟨cs, h1, -, h3⟩ := h
  exact cell_of_block h1 (h3 b hb)
theorem TogIn.free {w : World} {g n : Nat} {f : Nat → Nat} (h : TogIn w g n f) (b : Nat) : w.frozen? ⟨g, b, none⟩ = false := by
  obtain ⟨cs, h1, -⟩ := h
  exact free_of_block h1
theorem TogIn.lt {w : World} {g n : Nat} {f : Nat → Nat} (h : TogIn w g n f) : g < w.heap.size := by
  obtain ⟨cs, h1, -⟩ := h
  exact lt_of_block h1
theorem TogIn.below {w w' : World} {g n : Nat} {f : Nat → Nat} (h : TogIn w g n f) (k : Below w.heap.size w w') : TogIn w' g n f := by
  obtain ⟨cs, h1, h2⟩ := h
  exact ⟨cs, below_block k (lt_of_block h1) h1, h2⟩
theorem TogIn.same {w : World} {g n : Nat} {f f' : Nat → Nat} (h : TogIn w g n f) (k : ∀ b, b < n → f b = f' b) : TogIn w g n f' := by
  obtain ⟨cs, h1, h2, h3⟩ := h
  exact ⟨cs, h1, h2, fun b hb => by rw [← k b hb]; exact h3 b hb⟩
theorem TogIn.put {w : World} {g n : Nat} {f : Nat → Nat} (h : TogIn w g n f) {b : Nat} (hb : b < n) (x : Nat) : TogIn (w.setCell ⟨g, b, none⟩ (.int .i64 (x : Int))) g n (fun c => if c = b then x else f c) := by
  obtain ⟨cs, h1, h2, h3⟩ := h
  refine ⟨_, heap_store h1, by simp [h2], fun c hc => ?_⟩
  show (cs.setIfInBounds b (Value.int .i64 (x : Int)))[c]? = some (.int .i64 ((if c = b then x else f c : Nat) : Int))
  by_cases hcb : c = b
  · subst hcb
    rw [if_pos rfl, Array.getElem?_setIfInBounds_self_of_lt (by omega)]
  · rw [if_neg hcb, Array.getElem?_setIfInBounds_ne (fun e => hcb e.symm)]
    exact h3 c hc
theorem TogIn.ints {w : World} {g n : Nat} {f : Nat → Nat} (h : TogIn w g n f) : IntsAt w (.slice (some ⟨g, 0, none⟩) n n) ((List.range n).map fun b => (f b : Int)) := by
  refine ⟨_, n, g, 0, by simp, fun _ => rfl, fun j x hj => ?_⟩
  have hjn : j < n := by have := (List.getElem?_eq_some_iff.1 hj).1; simpa using this
  rw [List.getElem?_map, List.getElem?_range hjn] at hj
  obtain rfl := Option.some.inj hj
  rw [Nat.zero_add]
  exact h.cell hjn
def zrow (n : Nat) : Array Value := madeCells (Value.int .i64 0).cells (n * 1)
theorem tog_zero (w : World) (n : Nat) : TogIn (w.alloc (.cells (zrow n) 3)) w.heap.size n (fun _ => 0) := by
  refine ⟨_, heap_new _ _, by simp [zrow, size_madeCells], fun b hb => ?_⟩
  unfold zrow madeCells
  rw [Array.getElem?_map, Array.getElem?_range]
  simp [hb, Value.cells, Nat.mod_one]
theorem gcell_set {w w' : World} {a b o : Nat} {v : Value} (x : Only a w w') (hne : b ≠ a) (h : w.cell? ⟨b, o, none⟩ = some v) : w'.cell? ⟨b, o, none⟩ = some v := by
  have e := x.block b (gcell_lt h) hne
  unfold World.cell? at h ⊢
  simp only at h ⊢
  rw [e]
  exact h
def lkAt (L : List Lk) (i : Int) : Lk := (L[i.toNat]?).getD (0, 0, 0, 0, 0)
theorem info_It : (Try.prog.info? 3).map (fun i => (i.zero, i.size, i.bytes)) = some (some (.int .i64 0), 1, 8) := by kernel_rfl

set_option maxHeartbeats 8000000 in
set_option maxRecDepth 100000 in
theorem rtog_c {w : World} {n : Nat} {vl vs : Value} {L : List Lk} {S : List Int} (hL : RowsAt 5 cellsLk w vl L) (hS : IntsAt w vs S) (n12 : n ≤ 12) (l40 : L.length ≤ 40) (s40 : S.length ≤ 40) (hok : OkL n L) (hs : ∀ i ∈ S, 0 ≤ i ∧ i < L.length) :
    Calls Try.prog 19 #[.int .i64 (n : Int), vl, vs] w fun r w' => ∃ u, r = .returned u ∧ IntsAt w' u ((List.range n).map fun b => (togT (S.map (lkAt L)) n b : Int)) ∧ Below w.heap.size w w' := by
  obtain ⟨pl, capl, bl, offl, rfl, hpl, hcl⟩ := hL
  obtain ⟨ps, caps, bs, offs, rfl, hps, hcs⟩ := hS
  obtain ⟨i0, hi0, hz0, hz1, hz2⟩ := info_parts info_It
  have HPL := Lib.hid hpl
  have HCL := Lib.hid hcl
  have HPS := Lib.hid hps
  have HCS := Lib.hid hcs
  have HOK := Lib.hid hok
  have HSS := Lib.hid hs
  obtain ⟨M, hM⟩ : ∃ M, M = S.map (lkAt L) := ⟨_, rfl⟩
  have HMM := Lib.hid hM
  have HML := Lib.hid (show M.length = S.length by rw [hM, List.length_map])
  rw [← hM]
  have hmk : ∀ U : World, (Instr.makeSlice 33 (.int .i64 (n : Int)) (.int .i64 (n : Int))).run Try.prog U = .ok (.slice (some ⟨U.heap.size, 0, none⟩) n n) (U.alloc (.cells (zrow n) 3)) := fun U => by
    have h := run_make (P := Try.prog) U 33 3 i0 (.int .i64 0) Try.underlying33 hi0 hz0 .i64 .i64 (n : Int) (n : Int) (by omega) (Int.le_refl _) (by rw [hz2]; omega) (by omega)
    rw [hz1, Int.toNat_natCast] at h
    exact h
  obtain ⟨ns, hns⟩ : ∃ ns, ns = S.length := ⟨_, rfl⟩
  have HNS := Lib.hid hns
  rw [← hns] at s40 ⊢
  obtain ⟨ll, hll⟩ : ∃ ll, ll = L.length := ⟨_, rfl⟩
  have HLL := Lib.hid hll
  rw [← hll] at l40 ⊢
  clear hpl hcl hps hcs hok hs hM hns hll
  go_enter Try.func19, Try.ntmps19
  go_upto_region 2 with fail
  have TG := Lib.hid (tog_zero w n)
  have KB := Lib.hid (show Below w.heap.size w (w.alloc (.cells (zrow n) 3)) from (Below.refl _ w).alloc (Nat.le_refl _) _)
  generalize w.alloc (.cells (zrow n) 3) = W1 at TG KB ⊢
  obtain ⟨g, hg⟩ : ∃ g, g = w.heap.size := ⟨_, rfl⟩
  have HGG := Lib.hid (show w.heap.size ≤ g by omega)
  rw [← hg] at TG ⊢
  clear hmk hg
  go_wp2_with fail
  go_loopw [8] (fun i wr => ∃ k : Nat, k ≤ n ∧ i = .int .i64 k ∧ Hid (TogIn wr g n (fun b => if b < k then b else 0)) ∧ Hid (Below w.heap.size w wr)) (fun i _ => n - (intOf i).toNat)
  case atStart => exact ⟨0, Nat.zero_le _, rfl, Lib.hid (TG.out.same fun b _ => by rw [if_neg (by omega)]), KB⟩
  case round =>
    clear TG KB
    obtain ⟨k, hk, rfl, TG, KB⟩ := hrel
    by_cases hlt : k < n
    · have z0 := TG.out.cell hlt
      have f0 := TG.out.free k
      have ltg := TG.out.lt
      have d1 : decide (k < n) = true := decide_eq_true hlt
      have d2 : decide ((k : Int) < (n : Int)) = true := decide_eq_true (by omega)
      have d3 : decide (n ≤ k) = false := decide_eq_false (by omega)
      have d4 : decide (0 ≤ (k : Int)) = true := decide_eq_true (by omega)
      have TP := Lib.hid ((TG.out.put hlt k).same (f' := fun b => if b < k + 1 then b else 0) (fun b _ => by
        by_cases h : b = k
        · subst h; simp
        · rw [if_neg h]
          by_cases h2 : b < k
          · rw [if_pos h2, if_pos (by omega)]
          · rw [if_neg h2, if_neg (by omega)]))
      have KP := Lib.hid (KB.out.setCell (p := ⟨g, k, none⟩) HGG.out (.int .i64 (k : Int)))
      go_wp2_with fail
      go_roundw
      case rel => exact ⟨k + 1, by omega, by go_num, Lib.hid (by exact TP.out), Lib.hid (by exact KP.out)⟩
      case measure => simp [intOf]; omega
    · obtain rfl : k = n := by omega
      have TG0 := Lib.hid (TG.out.same (f' := togT M 0) (fun b hb => by rw [if_pos hb]; rfl))
      clear hlt TG
      go_wp2_with fail
      go_loopw [9, 10, 11, 12] (fun i _ _ _ wr => ∃ t : Nat, t ≤ k ∧ i = .int .i64 t ∧ Hid (TogIn wr g k (togT M t)) ∧ Hid (Below w.heap.size w wr)) (fun i _ _ _ _ => k - (intOf i).toNat)
      case atStart => exact ⟨0, Nat.zero_le _, rfl, TG0, KB⟩
      case round =>
        clear TG0 KB
        obtain ⟨t, ht, rfl, TG, KB⟩ := hrel
        by_cases htk : t < k
        · have d1 : decide (t < k) = true := decide_eq_true htk
          have d2 : decide ((t : Int) < (k : Int)) = true := decide_eq_true (by omega)
          have d3 : decide (k ≤ t) = false := decide_eq_false (by omega)
          go_wp2_with fail
          clear d1 d2 d3
          go_loopw [10, 11, 12] (fun i _ _ wr => ∃ q : Nat, q ≤ ns ∧ i = .int .i64 q ∧ Hid (TogIn wr g k ((M.take q).foldl relax (togT M t))) ∧ Hid (Below w.heap.size w wr)) (fun i _ _ _ => ns - (intOf i).toNat)
          case atStart => exact ⟨0, Nat.zero_le _, rfl, TG, KB⟩
          case round =>
            clear TG KB
            obtain ⟨q, hq, rfl, TG, KB⟩ := hrel
            by_cases hlt : q < ns
            · obtain ⟨ix, hx⟩ : ∃ ix, S[q]? = some ix := ⟨_, List.getElem?_eq_getElem (by rw [← HNS.out]; exact hlt)⟩
              have hneS : S ≠ [] := by rintro rfl; simp at hx
              obtain rfl := HPS.out hneS
              obtain ⟨i0x, i1x⟩ := HSS.out ix (List.mem_of_getElem? hx)
              obtain ⟨ι, rfl⟩ : ∃ ι : Nat, ix = (ι : Int) := ⟨ix.toNat, by omega⟩
              have hι : ι < L.length := by omega
              obtain ⟨l, hl⟩ : ∃ l, L[ι]? = some l := ⟨_, List.getElem?_eq_getElem hι⟩
              have hneL : L ≠ [] := by rintro rfl; simp at hl
              obtain rfl := HPL.out hneL
              have hMq : M[q]? = some l := by rw [HMM.out, List.getElem?_map, hx]; show some ((L[ι]?).getD _) = _; rw [hl]; rfl
              have HTK := Lib.hid (show (M.take (q + 1)).foldl relax (togT M t) = relax ((M.take q).foldl relax (togT M t)) l by
                rw [List.take_succ_eq_append_getElem (List.getElem?_eq_some_iff.1 hMq).1, (List.getElem?_eq_some_iff.1 hMq).2, List.foldl_append]
                rfl)
              obtain ⟨o0, o1, o2, o3⟩ := HOK.out l (List.mem_of_getElem? hl)
              obtain ⟨xa, xpa, xb, xpb, xc⟩ := l
              simp only at o0 o1 o2 o3
              obtain ⟨α, rfl⟩ : ∃ α : Nat, xa = (α : Int) := ⟨xa.toNat, by omega⟩
              obtain ⟨β, rfl⟩ : ∃ β : Nat, xb = (β : Int) := ⟨xb.toNat, by omega⟩
              have hα : α < k := by omega
              have hβ : β < k := by omega
              have s0 : wr.cell? ⟨bs, offs + q, none⟩ = some (.int .i64 (ι : Int)) := gcell_below KB.out (HCS.out q _ hx)
              have x0 : wr.cell? ⟨bl, offl + ι * 5, none⟩ = some (.int .i64 (α : Int)) := gcell_below KB.out (HCL.out ι _ hl 0 _ rfl)
              have x1 : wr.cell? ⟨bl, offl + ι * 5 + 1, none⟩ = some (.int .i64 xpa) := gcell_below KB.out (HCL.out ι _ hl 1 _ rfl)
              have x2 : wr.cell? ⟨bl, offl + ι * 5 + 2, none⟩ = some (.int .i64 (β : Int)) := gcell_below KB.out (HCL.out ι _ hl 2 _ rfl)
              have x3 : wr.cell? ⟨bl, offl + ι * 5 + 3, none⟩ = some (.int .i64 xpb) := gcell_below KB.out (HCL.out ι _ hl 3 _ rfl)
              have x4 : wr.cell? ⟨bl, offl + ι * 5 + 4, none⟩ = some (.int .i64 xc) := gcell_below KB.out (HCL.out ι _ hl 4 _ rfl)
              have hιl : ι < ll := by rw [HLL.out]; exact hι
              have d1 : decide (q < ns) = true := decide_eq_true hlt
              have d2 : decide ((q : Int) < (ns : Int)) = true := decide_eq_true (by omega)
              have d3 : decide (ns ≤ q) = false := decide_eq_false (by omega)
              have d4 : decide (0 ≤ (q : Int)) = true := decide_eq_true (by omega)
              have e1 : decide (ι < ll) = true := decide_eq_true hιl
              have e2 : decide ((ι : Int) < (ll : Int)) = true := decide_eq_true (by omega)
              have e3 : decide (ll ≤ ι) = false := decide_eq_false (by omega)
              have e4 : decide (0 ≤ (ι : Int)) = true := decide_eq_true (by omega)
              clear hx hneS i0x i1x hι hl hneL hMq o0 o1 o2 o3
              go_upto_region 13 with fail
              have HE1 := Lib.hid (heap_new wr (.cells #[.int .i64 (α : Int), .int .i64 xpa, .int .i64 (β : Int), .int .i64 xpb, .int .i64 xc] 42))
              have kb := (Below.refl wr.heap.size wr).alloc (Nat.le_refl _) (.cells #[.int .i64 (α : Int), .int .i64 xpa, .int .i64 (β : Int), .int .i64 xpb, .int .i64 xc] 42)
              have TG1 := Lib.hid (TG.out.below kb)
              have KB1 := Lib.hid (KB.out.trans (kb.mono KB.out.size))
              clear s0 x0 x1 x2 x3 x4 d1 d2 d3 d4 e1 e2 e3 e4 TG KB kb
              generalize wr.alloc (.cells #[.int .i64 (α : Int), .int .i64 xpa, .int .i64 (β : Int), .int .i64 xpb, .int .i64 xc] 42) = W2 at HE1 TG1 KB1 ⊢
              generalize wr.heap.size = eb at HE1 ⊢
              have y0 : W2.cell? ⟨eb, 0, none⟩ = some (.int .i64 (α : Int)) := cell_of_block HE1.out rfl
              have y2 : W2.cell? ⟨eb, 2, none⟩ = some (.int .i64 (β : Int)) := cell_of_block HE1.out rfl
              have hne : g ≠ eb := fun e => by
                obtain ⟨cs, h1, -⟩ := TG1.out
                have h2 := HE1.out
                rw [← e, h1] at h2
                exact absurd h2 (by simp)
              obtain ⟨f, hf⟩ : ∃ f, f = (M.take q).foldl relax (togT M t) := ⟨_, rfl⟩
              have HFF := Lib.hid hf
              rw [← hf] at TG1 HTK
              clear hf
              have HRL := Lib.hid (show ∀ m : Nat, m = min (f α) (f β) → ∀ b, b < k → (if b = β then m else if b = α then m else f b) = relax f ((α : Int), xpa, (β : Int), xpb, xc) b from fun m hm b _ => by
                unfold relax
                simp only [Int.toNat_natCast]
                by_cases h1 : b = β
                · rw [if_pos h1, if_pos (Or.inr h1), hm]
                · rw [if_neg h1]
                  by_cases h2 : b = α
                  · rw [if_pos h2, if_pos (Or.inl h2), hm]
                  · rw [if_neg h2, if_neg (by rintro (h | h); exact h2 h; exact h1 h)])
              have c0 := TG1.out.cell hα
              have c1 := TG1.out.cell hβ
              have ltg := TG1.out.lt
              have lte : eb < W2.heap.size := lt_of_block HE1.out
              have a1 : decide (α < k) = true := decide_eq_true hα
              have a2 : decide ((α : Int) < (k : Int)) = true := decide_eq_true (by omega)
              have a3 : decide (k ≤ α) = false := decide_eq_false (by omega)
              have a4 : decide (0 ≤ (α : Int)) = true := decide_eq_true (by omega)
              have b1 : decide (β < k) = true := decide_eq_true hβ
              have b2 : decide ((β : Int) < (k : Int)) = true := decide_eq_true (by omega)
              have b3 : decide (k ≤ β) = false := decide_eq_false (by omega)
              have b4 : decide (0 ≤ (β : Int)) = true := decide_eq_true (by omega)
              obtain ⟨fa, hfa⟩ : ∃ fa, fa = f α := ⟨_, rfl⟩
              obtain ⟨fb, hfb⟩ : ∃ fb, fb = f β := ⟨_, rfl⟩
              rw [← hfa] at c0
              rw [← hfb] at c1
              by_cases hm : fa ≤ fb
              · have HMM1 := Lib.hid (show fa = min (f α) (f β) by rw [← hfa, ← hfb]; omega)
                have m1 : (fa : Int) ≤ (fb : Int) := by omega
                have m2 : ¬ ((fb : Int) < (fa : Int)) := by omega
                have m3 : decide ((fb : Int) < (fa : Int)) = false := decide_eq_false m2
                have m4 : min (fa : Int) (fb : Int) = (fa : Int) := by omega
                have TA := Lib.hid (show TogIn ((W2.setCell ⟨g, α, none⟩ (.int .i64 (fa : Int))).drew) g k (fun c => if c = α then fa else f c) from TG1.out.put hα fa)
                have KA := Lib.hid (show Below w.heap.size w ((W2.setCell ⟨g, α, none⟩ (.int .i64 (fa : Int))).drew) from (KB1.out.setCell (p := ⟨g, α, none⟩) HGG.out (.int .i64 (fa : Int))).drew)
                have HE2 := Lib.hid (show ((W2.setCell ⟨g, α, none⟩ (.int .i64 (fa : Int))).drew).cell? ⟨eb, 2, none⟩ = some (.int .i64 (β : Int)) from (gcell_set (Only.setCell W2 g α (.int .i64 (fa : Int))) (fun e => hne e.symm) y2 : (W2.setCell ⟨g, α, none⟩ (.int .i64 (fa : Int))).cell? ⟨eb, 2, none⟩ = some (.int .i64 (β : Int))))
                have fr0 := TG1.out.free α
                clear hfa hfb hm
                go_wp2_with fail
                go_region
                go_upto_region 15 with fail
                clear c0 c1 y0 y2 fr0 ltg lte
                generalize (W2.setCell ⟨g, α, none⟩ (.int .i64 (fa : Int))).drew = W3 at TA KA HE2 ⊢
                have y2 := HE2.out
                have fr1 := TA.out.free β
                have ltg := TA.out.lt
                have lte := gcell_lt y2
                obtain ⟨z, hz⟩ : ∃ z : Nat, W3.cell? ⟨g, β, none⟩ = some (.int .i64 (z : Int)) := ⟨_, TA.out.cell hβ⟩
                have TP := Lib.hid ((TA.out.put hβ fa).same (HRL.out fa HMM1.out))
                rw [← HTK.out] at TP
                have KP := Lib.hid (KA.out.setCell (p := ⟨g, β, none⟩) HGG.out (.int .i64 (fa : Int)))
                go_wp2_with fail
                go_roundw
                case rel => exact ⟨q + 1, by omega, by go_num, TP, KP⟩
                case measure => simp [intOf]; omega
              · have HMM1 := Lib.hid (show fb = min (f α) (f β) by rw [← hfa, ← hfb]; omega)
                have m1 : ¬ ((fa : Int) ≤ (fb : Int)) := by omega
                have m2 : ((fb : Int) < (fa : Int)) := by omega
                have m3 : decide ((fb : Int) < (fa : Int)) = true := decide_eq_true m2
                have m4 : min (fa : Int) (fb : Int) = (fb : Int) := by omega
                have TA := Lib.hid (show TogIn ((W2.setCell ⟨g, α, none⟩ (.int .i64 (fb : Int))).drew) g k (fun c => if c = α then fb else f c) from TG1.out.put hα fb)
                have KA := Lib.hid (show Below w.heap.size w ((W2.setCell ⟨g, α, none⟩ (.int .i64 (fb : Int))).drew) from (KB1.out.setCell (p := ⟨g, α, none⟩) HGG.out (.int .i64 (fb : Int))).drew)
                have HE2 := Lib.hid (show ((W2.setCell ⟨g, α, none⟩ (.int .i64 (fb : Int))).drew).cell? ⟨eb, 2, none⟩ = some (.int .i64 (β : Int)) from (gcell_set (Only.setCell W2 g α (.int .i64 (fb : Int))) (fun e => hne e.symm) y2 : (W2.setCell ⟨g, α, none⟩ (.int .i64 (fb : Int))).cell? ⟨eb, 2, none⟩ = some (.int .i64 (β : Int))))
                have fr0 := TG1.out.free α
                clear hfa hfb hm
                go_wp2_with fail
                go_region
                go_upto_region 15 with fail
                clear c0 c1 y0 y2 fr0 ltg lte
                generalize (W2.setCell ⟨g, α, none⟩ (.int .i64 (fb : Int))).drew = W3 at TA KA HE2 ⊢
                have y2 := HE2.out
                have fr1 := TA.out.free β
                have ltg := TA.out.lt
                have lte := gcell_lt y2
                obtain ⟨z, hz⟩ : ∃ z : Nat, W3.cell? ⟨g, β, none⟩ = some (.int .i64 (z : Int)) := ⟨_, TA.out.cell hβ⟩
                have TP := Lib.hid ((TA.out.put hβ fb).same (HRL.out fb HMM1.out))
                rw [← HTK.out] at TP
                have KP := Lib.hid (KA.out.setCell (p := ⟨g, β, none⟩) HGG.out (.int .i64 (fb : Int)))
                go_wp2_with fail
                go_roundw
                case rel => exact ⟨q + 1, by omega, by go_num, TP, KP⟩
                case measure => simp [intOf]; omega
            · obtain rfl : q = ns := by omega
              rw [List.take_of_length_le (by rw [HML.out, HNS.out]; exact Nat.le_refl _)] at TG
              have TG2 := Lib.hid (show TogIn wr g k (togT M (t + 1)) from TG.out)
              clear hlt TG
              go_wp2_with fail
              go_roundw
              case rel => exact ⟨t + 1, by omega, by go_num, TG2, KB⟩
              case measure => simp [intOf]; omega
        · obtain rfl : t = k := by omega
          have HI := Lib.hid TG.out.ints
          clear htk
          go_wp2_with fail
          go_ret
          exact ⟨_, rfl, HI.out, KB.out⟩
end Go.Proofs.Ytolmkflhddlcnaa
