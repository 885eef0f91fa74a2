
/- What is put behind a literal. -/
import Derived.Test.YtnncfbmddpijcaaGreatDoorRowF
namespace Go.Proofs.YtnncfbmddpijcaaGreatDoor
open Go Go.RowKit Go.Shelf AM
namespace AM
/-- A slice of so many places over cells, with no room behind them. -/
def rowEx (n : Nat) (cs : List Cv) : Ent where
  holds W v := ∃ g o, v = .slice (some ⟨g, o, none⟩) n n ∧ CellsAt W g o cs
  len := some n
  mono he hs h := by obtain ⟨g, o, h1, h2⟩ := h; exact ⟨g, o, h1, h2.mono he hs⟩
  slice := by
    rintro w v m ⟨g, o, rfl, _⟩ e
    injection e with e; subst e
    exact ⟨_, _, rfl⟩
  cell := by rintro w v ⟨g, o, rfl, _⟩; rfl
section
variable {P : Program}
theorem CellsAt.list {W : World} {g o : Nat} : ∀ {cs : List Cv}, CellsAt W g o cs → ∃ us : List Value, us.length = cs.length ∧ All2 (HoldsC W) us cs ∧ ∀ j u, us[j]? = some u → W.cell? ⟨g, o + j, none⟩ = some u := by
  intro cs
  induction cs generalizing o with
  | nil => intro _; exact ⟨[], rfl, trivial, by simp⟩
  | cons c cs ih =>
    intro h
    obtain ⟨us, h1, h2, h3⟩ := ih (o := o + 1) (h.part (cs' := cs) 1 (fun i c hc => by rw [Nat.add_comm]; simpa using hc))
    obtain ⟨u, h4, h5⟩ := h 0 c rfl
    refine ⟨u :: us, by simp [h1], ⟨h5, h2⟩, fun j v hj => ?_⟩
    match j, hj with
    | 0, hj => simp at hj; subst hj; exact h4
    | j + 1, hj => simp at hj; rw [show o + (j + 1) = o + 1 + j by omega]; exact h3 j v hj
/-- A literal of one thing, with no room behind it. -/
theorem lit_ok {t e ty : TypeId} {x : Operand} {ie : TypeInfo} {z : Value} {n : Nat} {s : Sv} {cs : List Cv} (hu : P.underlying t = some (.slice e)) (hie : P.info? e = some ie) (hz : ie.zero = some z) (_ : n = 1)
    (hsm : ¬ n * ie.size > 2 ^ 24) (hpos : ¬ n * ie.size = 0) (hf : fillA (fun i => some (i * ie.size, ie.size)) ((List.range (n * ie.size)).map fun i => .raw (z.cells[i % z.cells.size]!)) [(0, s)] = some cs) (hc : ∀ c ∈ cs, varsC c = []) :
    PureOk P (.buildSlice t n #[(0, x)]) ty [.one s] (.one (.cel (.ent (rowEx n cs)))) := by
  intro β W w ρ hsz he hu32 ha
  obtain ⟨h1, _⟩ := ha
  obtain ⟨cells', h2, h3⟩ := fill_rel (β := β) (W := W) _ [(0, ρ x)] [(0, s)] ((Array.range (n * ie.size)).map (z.cells[· % z.cells.size]!)) _ cs ⟨⟨rfl, h1⟩, trivial⟩
    (by rw [Array.toList_map, Array.toList_range]; exact All2.map2 (R := RelC β W) (f := fun i => z.cells[i % z.cells.size]!) (g := fun i => Cv.raw (z.cells[i % z.cells.size]!)) (fun _ => rfl) _) hf
  have hb : Below w.heap.size w (w.alloc (.cells cells' e)) := (Below.refl _ _).alloc (Nat.le_refl _) _
  refine ⟨.slice (some ⟨w.heap.size, 0, none⟩) n n, w.alloc (.cells cells' e), ?_, hb, ⟨_, _, rfl, fun i c hi => ?_⟩⟩
  · unfold execOp
    simp only [Sem.run_bind, List.map_toArray, List.map_cons, List.map_nil, run_buildSlice w t e n #[(0, ρ x)] cells' ie z hu hie hz hsm hpos (by simpa using h2), Result.andThen_ok, Sem.run_pure]
  · obtain ⟨u, hu', hr⟩ := h3.get hi
    refine ⟨u, ?_, ((hr.shut (hc c (List.mem_of_getElem? hi))).mono (Ext.patch hsz hb) (by rw [patch_size (by rw [hsz]; exact hb.size), hsz]; exact hb.size))⟩
    rw [patch_cell, if_neg (by dsimp only; omega)]
    unfold World.cell?
    rw [show (w.alloc (.cells cells' e)).heap[w.heap.size]? = some (.cells cells' e) from World.alloc_heap_new w _]
    simpa using hu'
/-- Put behind a row that has no room. -/
theorem app_ok {t e ty : TypeId} {x y : Operand} {ie : TypeInfo} {z : Value} {n m : Nat} {cs ds : List Cv} (hu : P.underlying t = some (.slice e)) (hie : P.info? e = some ie) (hz : ie.zero = some z) (hpos : 0 < ie.size)
    (hc : cs.length = n * ie.size) (hd : ds.length = m * ie.size) (hb : (n + m) * ie.bytes ≤ 140737488355328) (hnm : n + m ≤ 140737488355328) :
    PureOk P (.call { callee := .builtin .append, args := #[x, y], argTypes := #[t, t] }) ty [.one (.cel (.ent (rowEx n cs))), .one (.cel (.ent (rowOf m ds)))] (.one (.cel (.ent (rowOf (n + m) (cs ++ ds))))) := by
  intro β W w ρ hsz he hu32 ha
  obtain ⟨⟨g, o, h1, h2⟩, ⟨A, c, h3, h4⟩, _⟩ := ha
  replace h1 : ρ x = .slice (some ⟨g, o, none⟩) n n := h1
  replace h3 : ρ y = .slice A m c := h3
  rcases Nat.eq_zero_or_pos m with hm | hm
  · subst hm
    obtain rfl : ds = [] := List.eq_nil_of_length_eq_zero (by omega)
    refine ⟨.slice (some ⟨g, o, none⟩) n n, w, ?_, Below.refl _ _, patch_up hsz ⟨_, _, rfl, .inr ⟨g, o, rfl, by simpa using h2⟩⟩⟩
    cases A <;> simp [execOp, resolve, invoke, builtin, h1, h3, Builtin.append_, run_underlying hu, sizeOf, typeInfo, hie, Builtin.lenOf, Builtin.firstCells, loadCells, loadCellsFrom, storeCells]
  · obtain ⟨g', o', rfl, h5⟩ : ∃ g' o', A = some ⟨g', o', none⟩ ∧ CellsAt W g' o' ds := by
      rcases h4 with h4 | h4
      · rw [h4] at hd
        have : 0 < m * ie.size := Nat.mul_pos hm hpos
        simp at hd; omega
      · exact h4
    obtain ⟨us, u1, u2, u3⟩ := h2.list
    obtain ⟨vs, v1, v2, v3⟩ := h5.list
    have hrun := run_append_grow (P := P) w t ty e ie z hu hie hz ⟨g, o, none⟩ n n us (by omega) (fun j v hj => by rw [add_at]; exact he _ _ (u3 j v hj)) ⟨g', o', none⟩ m c vs (by omega) (fun j v hj => by rw [add_at]; exact he _ _ (v3 j v hj)) (by omega) (by omega) (growslice_fits (by omega) hb)
    have hB : Below w.heap.size w (w.drew.alloc (.cells (us.toArray ++ vs.toArray ++ Builtin.zeroCells z.cells (grownCap w (n + m) n e - (n + m))) e)) := (Below.drew (Below.refl _ _)).alloc (Nat.le_refl _) _
    refine ⟨.slice (some ⟨w.heap.size, 0, none⟩) (n + m) (grownCap w (n + m) n e), _, ?_, hB, ⟨_, _, rfl, .inr ⟨w.heap.size, 0, rfl, fun i k hi => ?_⟩⟩⟩
    · unfold execOp
      simp only [resolve, invoke, builtin, Sem.run_bind, Sem.run_pure, Result.andThen_ok, List.map_toArray, List.map_cons, List.map_nil, h1, h3, hrun]
    · obtain ⟨u, hu', hr⟩ := (u2.append v2).get hi
      refine ⟨u, ?_, hr.mono (Ext.patch hsz hB) (by rw [patch_size (by rw [hsz]; exact hB.size), hsz]; exact hB.size)⟩
      rw [patch_cell, if_neg (by dsimp only; omega)]
      unfold World.cell?
      rw [show (w.drew.alloc (.cells (us.toArray ++ vs.toArray ++ Builtin.zeroCells z.cells (grownCap w (n + m) n e - (n + m))) e)).heap[w.heap.size]? = some (.cells (us.toArray ++ vs.toArray ++ Builtin.zeroCells z.cells (grownCap w (n + m) n e - (n + m))) e) from World.alloc_heap_new w.drew _]
      have hl : i < (us ++ vs).length := (List.getElem?_eq_some_iff.1 hu').1
      simp only [Nat.zero_add]
      rw [Array.getElem?_append_left (by simpa using hl)]
      simpa using hu'
end
/-- What is known of a type. -/
noncomputable def ti (P : Program) (e : TypeId) : TypeInfo := (P.info? e).getD default
noncomputable def tz (P : Program) (e : TypeId) : Value := (ti P e).zero.getD default
section
variable {P : Program} {t e ty : TypeId} {x y : Operand}
theorem litR_ok {s : Sv} {cs : List Cv} (hu : P.underlying t = some (.slice e)) (hie : P.info? e = some (ti P e)) (hz : (ti P e).zero = some (tz P e)) (hk : Nat.ble (1 * (ti P e).size) 16777216 = true) (hp : Nat.blt 0 (1 * (ti P e).size) = true)
    (hf : fillA (fun i => some (i * (ti P e).size, (ti P e).size)) ((List.range (1 * (ti P e).size)).map fun i => .raw ((tz P e).cells[i % (tz P e).cells.size]!)) [(0, s)] = some cs) (hc : ∀ c ∈ cs, varsC c = []) :
    PureOk P (.buildSlice t 1 #[(0, x)]) ty [.one s] (.one (.cel (.ent (rowEx 1 cs)))) := by
  have h1 := Nat.le_of_ble_eq_true hk
  have h2 : 1 ≤ 1 * (ti P e).size := Nat.le_of_ble_eq_true hp
  exact lit_ok hu hie hz rfl (by omega) (by omega) hf hc
theorem appR_ok {n m sz bt : Nat} {cs ds : List Cv} (hu : P.underlying t = some (.slice e)) (hie : P.info? e = some (ti P e)) (hz : (ti P e).zero = some (tz P e)) (hs : (ti P e).size = sz) (hbt : (ti P e).bytes = bt) (hp : 0 < sz)
    (hc : cs.length = n * sz) (hd : ds.length = m * sz) (hb : (n + m) * bt ≤ 140737488355328) (hnm : n + m ≤ 140737488355328) :
    PureOk P (.call { callee := .builtin .append, args := #[x, y], argTypes := #[t, t] }) ty [.one (.cel (.ent (rowEx n cs))), .one (.cel (.ent (rowOf m ds)))] (.one (.cel (.ent (rowOf (n + m) (cs ++ ds))))) := by
  subst hs; subst hbt
  exact app_ok hu hie hz hp hc hd hb hnm
end
end AM
end Go.Proofs.YtnncfbmddpijcaaGreatDoor
