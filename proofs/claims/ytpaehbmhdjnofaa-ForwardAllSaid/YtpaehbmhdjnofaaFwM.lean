/-
  append at lists of numbers: a list, nil or not, behind an own row; what the old row holds behind an append that may have gone into it.
-/
import Derived.Test.YtpaehbmhdjnofaaFwN
import Derived.Laws.AppendOwn
import Derived.Laws.OwnMore
import Derived.Maps.AppendAt
import Derived.Deep.AppendLies
import Derived.Tactics
import Derived.ProofKit
namespace Go.Proofs.Ytpaehbmhdjnofaa
open Go.RowKit
set_option linter.unusedVariables false
set_option linter.unusedSimpArgs false

theorem infoIA : (Try.prog.info? 3).map (fun i => (i.zero, i.size, i.bytes)) = some (some (.int .i64 0), 1, 8) := by kernel_rfl

theorem run_app_nilI {P : Program} {w : World} (base : Nat) (t ty e : TypeId) (i : TypeInfo) (size : Nat) (ht : P.underlying t = some (.slice e)) (hi : P.info? e = some i)
    (v : Value) (n : Nat) (xs : List Value) (hown : w.ownsRow base e size v n xs) (c : Nat) : (Builtin.append_ #[t, t] ty #[v, .slice none 0 c]).run P w = .ok v w := by
  rcases hown.2 with ⟨hv, h0⟩ | ⟨g, cap, cur, hv, _, _, hnc, _⟩
  · subst hv
    simp [Builtin.append_, run_underlying ht, sizeOf, typeInfo, hi, Builtin.lenOf, Builtin.firstCells]
  · subst hv
    simp [Builtin.append_, run_underlying ht, sizeOf, typeInfo, hi, Builtin.lenOf, Builtin.firstCells, hnc, storeCells]

/-- append onto an own row of a list of texts. -/
theorem wpList_append_ints {w : World} {ops : Array Oper} {rest : List Oper} {o : Oper} {a : Act} {Q : Exit → Act → World → Prop} (hgd : o.guard = none) (s x : Operand)
    (ho : o.op = .call { callee := .builtin .append, args := #[s, x], argTypes := #[22, 22] })
    (base : Nat) (v : Value) (n : Nat) (xs : List Value) (hs : a.eval s = v) (hown : w.ownsRow base 3 1 v n xs) (vs : Value) (l : List Int) (hx : a.eval x = vs) (ha : IntsAt w vs l)
    (h63 : n + l.length ≤ maxLen) (hbytes : (n + l.length) * 8 ≤ 140737488355328) (hbase : base ≤ w.heap.size)
    (h : ∀ v' w', w'.ownsRow base 3 1 v' (n + l.length) (xs ++ l.map (Value.int .i64)) → w.grownBy w' v.ownBlock → wpList Try.prog ops Q rest (a.put o.dst v') w') : wpList Try.prog ops Q (o :: rest) a w := by
  obtain ⟨i0, hi, hz0, hz1, hz2⟩ := info_parts infoIA
  obtain ⟨p, cap, b, off, rfl, hp, hc⟩ := ha
  rcases p with _ | ad
  · have hl : l = [] := by
      rcases l with _ | ⟨y, ys⟩
      · rfl
      · exact absurd (hp (by simp)) (by simp)
    subst hl
    have hrun := run_app_nilI (P := Try.prog) (w := w) base 22 o.type 3 i0 1 Try.underlying22 hi v n xs hown cap
    refine wpList_plain hgd fun K hK => ?_
    have hk := hK _ _ (h v w (by simpa using hown) (World.grownBy.refl w _))
    unfold Oper.wp
    simp [execOp, ho, resolve, invoke, builtin, hs, hx, hrun, Result.andThen]
    exact hk
  · refine wpList_append_own w hgd s x 22 ho base 3 i0 (.int .i64 0) 1 8 Try.underlying22 hi hz0 hz1 hz2 rfl (by decide) v n xs hs hown ad l.length cap (l.map (Value.int .i64)) hx (by simp) (fun j u hj => ?_) (fun u hu => ?_) h63 hbytes hbase fun v' w' h1 h2 _ => h v' w' h1 h2
    · have hjl : j < l.length := by
        have := (List.getElem?_eq_some_iff.1 hj).1
        simpa using this
      have hne : l ≠ [] := by rintro rfl; simp at hjl
      obtain rfl : ad = ⟨b, off, none⟩ := by have := hp hne; simpa using this
      have e : (⟨b, off, none⟩ : Addr).add j = ⟨b, off + j, none⟩ := by unfold Addr.add; split <;> simp_all
      rw [e]
      have := hc j _ (List.getElem?_eq_getElem hjl)
      rw [this]
      simpa [hjl] using hj
    · obtain ⟨y, _, rfl⟩ := List.mem_map.1 hu
      rfl

theorem iowns_store {w : World} {base c j n size : Nat} {e : TypeId} {v u : Value} {xs : List Value} (h : w.ownsRow base e size v n xs) (hc : c < base) : (w.setCell ⟨c, j, none⟩ u).ownsRow base e size v n xs := by
  refine h.kept (row := some c) ⟨rfl, rfl, rfl, by simp [World.setCell], fun k hk hne => Below.heap_setCell _ _ _ _ (fun e => hne (by rw [e]))⟩ ?_
  rcases hv : v.ownBlock with _ | g
  · exact .inl rfl
  · refine .inr fun e => ?_
    have := (h.lt g hv).1
    simp only [Option.some.injEq] at e
    omega


/-- The cells of a row are still those. -/
def KeptOld (v : Value) (n : Nat) (xs : List Value) (w' : World) : Prop := ∀ g c', v = .slice (some ⟨g, 0, none⟩) n c' → ∀ j u, xs[j]? = some u → w'.cell? ⟨g, j, none⟩ = some u
/-- append onto an own row: the old row's cells stay, whether there was room or not. -/
theorem wpList_append_keep {P : Program} {ops : Array Oper} {rest : List Oper} {o : Oper} {a : Act} {Q : Exit → Act → World → Prop} (w : World) (hgd : o.guard = none) (s x : Operand) (t : TypeId)
    (ho : o.op = .call { callee := .builtin .append, args := #[s, x], argTypes := #[t, t] })
    (base : Nat) (e : TypeId) (i : TypeInfo) (z : Value) (bytes : Nat) (ht : P.underlying t = some (.slice e)) (hi : P.info? e = some i) (hz : i.zero = some z)
    (hsize : i.size = 1) (hby : i.bytes = bytes) (hzs : z.cells.size = 1)
    (v : Value) (n : Nat) (xs : List Value) (hs : a.eval s = v) (hown : w.ownsRow base e 1 v n xs)
    (ad : Addr) (c : Nat) (y : Value) (hx : a.eval x = .slice (some ad) 1 c) (hnews : ∀ j u, [y][j]? = some u → w.cell? (ad.add j) = some u) (h1 : ∀ u ∈ [y], u.oneCell' = true)
    (h63 : n + 1 ≤ maxLen) (hbytes : (n + 1) * bytes ≤ 140737488355328) (hbase : base ≤ w.heap.size)
    (h : ∀ v' w', w'.ownsRow base e 1 v' (n + 1) (xs ++ [y]) → w.grownBy w' v.ownBlock → KeptOld v n xs w' → wpList P ops Q rest (a.put o.dst v') w') : wpList P ops Q (o :: rest) a w := by
  refine wpList_plain hgd fun K hK => ?_
  obtain ⟨v', w', hr, h2, h3, h4, h5⟩ := run_append_own_at (P := P) w base t o.type e i z 1 bytes ht hi hz hsize hby hzs (by decide) v n xs hown ad 1 c [y] rfl hnews h1 h63 hbytes hbase
  have keep : ∀ g c', v = .slice (some ⟨g, 0, none⟩) n c' → ∀ j u, xs[j]? = some u → w'.cell? ⟨g, j, none⟩ = some u := by
    intro g c' hv j u hj
    subst hv
    rcases hown.2 with ⟨h0, -⟩ | ⟨g', cap, cur, hv', hbg, hg, hnc, hcm, hcs, htake⟩
    · cases h0
    · cases hv'
      have ad0 : ∀ j, (⟨g, 0, none⟩ : Addr).add j = ⟨g, j, none⟩ := fun j => by unfold Addr.add; split <;> simp_all
      have hold := hown.cells (g := g) rfl
      by_cases hroom : n + 1 ≤ c'
      · have hfit : n * i.size + [y].length ≤ cur.size := by rw [hsize, hcs]; simpa using hroom
        have hr2 := run_append_room (P := P) (ty := o.type) w t e i ht hi g n c' cur hg ad 1 c [y] (by rw [hsize]; rfl) hnews h1 hroom hfit
        rw [hr] at hr2
        cases hr2
        have := h2.cells (g := g) rfl j u (by rw [List.getElem?_append_left (List.getElem?_eq_some_iff.1 hj).1]; exact hj)
        rw [ad0] at this
        exact this
      · have hr2 := run_append_grow (P := P) (ty := o.type) w t e i z ht hi hz ⟨g, 0, none⟩ n c' xs (by rw [hsize]; exact hown.1) hold ad 1 c [y] (by rw [hsize]; rfl) hnews (by omega) (by simp only [maxLen] at h63; omega) (growslice_fits (by omega) (by rw [hby]; exact hbytes))
        rw [hr] at hr2
        cases hr2
        have hc := hold j u hj
        rw [ad0] at hc
        exact icell_below ((Below.refl _ w).drew.alloc (Nat.le_refl _) _) hc
  unfold Oper.wp execOp
  simp only [ho, resolve, invoke, builtin, Sem.run_bind, Sem.run_pure, Result.andThen_ok, List.map_toArray, List.map_cons, List.map_nil, hs, hx, hr]
  exact hK _ _ (h v' w' h2 h3 keep)
theorem IntsAt.of_keep {w w' : World} {base e n : Nat} {v : Value} {l : List Int} (h : w.ownsRow base e 1 v n (l.map (Value.int .i64))) (k : KeptOld v n (l.map (Value.int .i64)) w') : IntsAt w' v l := by
  have hn : l.length = n := by have := h.1; simpa using this
  rcases h.2 with ⟨rfl, h0⟩ | ⟨g, cap, cur, rfl, -⟩
  · have : l = [] := List.eq_nil_of_length_eq_zero (by omega)
    subst this
    exact IntsAt.nil _
  · subst hn
    exact ⟨_, cap, g, 0, rfl, fun _ => rfl, fun j x hj => by rw [Nat.zero_add]; exact k g cap rfl j _ (by simp [hj])⟩
theorem IntsAt.store_far {w : World} {v u : Value} {l : List Int} {c j : Nat} (h : IntsAt w v l) (hf : ∀ g, v.ownBlock = some g → g ≠ c) : IntsAt (w.setCell ⟨c, j, none⟩ u) v l := by
  obtain ⟨p, cap, b, off, rfl, hp, hc⟩ := h
  refine ⟨p, cap, b, off, rfl, hp, fun i x hi => ?_⟩
  have hne : l ≠ [] := by rintro rfl; simp at hi
  have hb : b ≠ c := hf b (by rw [hp hne]; rfl)
  exact cell_far (hc i x hi) hb
theorem own_not_box {w : World} {base n g : Nat} {e t : TypeId} {v : Value} {xs : List Value} {cs : Array Value} {f : Nat × Nat} (h : w.ownsRow base e 1 v n xs) (hg : v.ownBlock = some g) (hb : w.heap[g]? = some (.cells cs t f)) (hne : e ≠ t) : False := by
  rcases h.2 with ⟨rfl, _⟩ | ⟨g', cap, cur, rfl, _, hg', _⟩
  · cases hg
  · cases hg
    rw [hb] at hg'
    cases hg'
    exact hne rfl
theorem f_keeps {w w' : World} {B n c : Nat} {e t : TypeId} {v : Value} {xs : List Value} {cs : Array Value} {f : Nat × Nat} (h : w.ownsRow B e 1 v n xs) (hg : w.grownBy w' v.ownBlock) (hk : w.heap[c]? = some (.cells cs t f)) (hne : e ≠ t) : w'.heap[c]? = some (.cells cs t f) :=
  (hg.block c (lt_of_block hk) (fun e1 => own_not_box h e1.symm hk hne)).trans hk
theorem f_set {w : World} {B n c j : Nat} {e t : TypeId} {v u : Value} {xs : List Value} {cs : Array Value} {f : Nat × Nat} (h : w.ownsRow B e 1 v n xs) (hk : w.heap[c]? = some (.cells cs t f)) (hne : e ≠ t) : (w.setCell ⟨c, j, none⟩ u).ownsRow B e 1 v n xs := by
  refine h.kept (row := some c) ⟨rfl, rfl, rfl, by simp [World.setCell], fun k hk hne => Below.heap_setCell _ _ _ _ (fun e => hne (by rw [e]))⟩ ?_
  rcases hv : v.ownBlock with _ | g
  · exact .inl rfl
  · refine .inr fun e => ?_
    simp only [Option.some.injEq] at e
    subst e
    exact own_not_box h hv hk hne
/-- A list from its end on, each number twice. -/
def revD (l : List Int) : List Int := l.reverse.flatMap fun x => [x, x]
theorem revD_take {l : List Int} {k : Nat} {x : Int} (h : l[k]? = some x) : revD (l.drop k) = revD (l.drop (k + 1)) ++ [x, x] := by
  obtain ⟨hk, e⟩ := List.getElem?_eq_some_iff.1 h
  unfold revD
  rw [List.drop_eq_getElem_cons hk, e, List.reverse_cons, List.flatMap_append]
  simp
theorem revD_has (l : List Int) (x : Int) : hasB (revD l) x = hasB l x := by
  rw [Bool.eq_iff_iff, hasB_iff, hasB_iff]
  unfold revD
  simp [List.mem_flatMap]
theorem revD_len (l : List Int) : (revD l).length = 2 * l.length := by
  have h : ∀ m : List Int, (m.flatMap fun x => [x, x]).length = 2 * m.length := by
    intro m
    induction m with
    | nil => rfl
    | cons x r ih => rw [List.flatMap_cons, List.length_append, ih, List.length_cons]; simp; omega
  unfold revD
  rw [h, List.length_reverse]
theorem revD_mem {l : List Int} {x : Int} (h : x ∈ revD l) : x ∈ l := (hasB_iff _ _).1 (by rw [← revD_has]; exact (hasB_iff _ _).2 h)
theorem own_apart {v1 v2 : Value} {B B' : Nat} (h1 : ∀ g, v1.ownBlock = some g → B ≤ g) (h2 : ∀ g, v2.ownBlock = some g → g < B') (h3 : B' ≤ B) : v2.ownBlock = none ∨ v2.ownBlock ≠ v1.ownBlock := by
  rcases h : v2.ownBlock with _ | g
  · exact .inl rfl
  · refine .inr fun e => ?_
    have := h1 g e.symm
    have := h2 g h
    omega
theorem I64.snoc {l : List Int} {x : Int} (h : I64 l) (h1 : -9223372036854775808 ≤ x) (h2 : x ≤ 9223372036854775807) : I64 (l ++ [x]) := by
  intro y hy
  rcases List.mem_append.1 hy with hy | hy
  · exact h y hy
  · simp at hy; omega

end Go.Proofs.Ytpaehbmhdjnofaa
