/- What the machine is told of rows, of closures, and of what is read of them. -/
import Derived.Test.YtnncfbmddpijcaaGreatDoorAmD
namespace Go.Proofs.YtnncfbmddpijcaaGreatDoor.AM
open Go Go.RowKit

section
variable {P : Program} {t ty e : TypeId} {x i y : Operand} {n s j f : Nat} {cs cs' : List Cv} {k : IntKind} {z : Int}
theorem patch_up {β : Nat → Option Nat} {W w : World} (hs : W.heap.size = w.heap.size) {v : Value} {av : Av} (h : RelA β W v av) : RelA β (patch W w) v av :=
  h.up ⟨fun _ _ e => e, Ext.patch hs (Below.refl _ _), by rw [patch_size (by omega)]; omega, cur_same fun _ hi => patch_lt hi⟩
theorem CellsAt.part {W : World} {g o : Nat} (h : CellsAt W g o cs) (m : Nat) (hc : ∀ i c, cs'[i]? = some c → cs[m + i]? = some c) : CellsAt W g (o + m) cs' := fun i c hi => by
  obtain ⟨u, h1, h2⟩ := h (m + i) c (hc i c hi)
  exact ⟨u, by rw [Nat.add_assoc]; exact h1, h2⟩
/-- A row's place. -/
theorem idx_ok (ht : pureSem P (underlying t) = some (.slice e)) (hs : pureSem P (sizeOf e) = some s) (hz : z = (j : Int)) (hj : j < n) (hc : ∀ i c, cs'[i]? = some c → cs[j * s + i]? = some c) (hne : cs ≠ []) :
    PureOk P (.indexAddr t x i) ty [.one (.cel (.ent (rowOf n cs))), .one (.cel (.raw (.int k z)))] (.one (.cel (.ent (ptrTo cs')))) := by
  intro β W w ρ hsz he hu ha
  obtain ⟨⟨A, c, h1, h2⟩, h3, _⟩ := ha
  replace h3 : ρ i = .int k z := h3
  subst hz
  rcases h2 with h2 | ⟨g, o, rfl, hat⟩
  · exact absurd h2 hne
  · refine ⟨.pointer (some ⟨g, o + j * s, none⟩), w, ?_, Below.refl _ _, patch_up hsz ⟨g, o + j * s, rfl, hat.part (j * s) hc⟩⟩
    simp [execOp, h1, h3, Instr.indexAt, asIntOf, pureSem_run ht w, hj, pureSem_run hs w, add_at]
/-- A place of a row of one's own. -/
theorem own_ok {v o c : Nat} (ht : pureSem P (underlying t) = some (.slice e)) (hs : pureSem P (sizeOf e) = some s) (hz : z = (j : Int)) (hj : j < n) {o' : Nat} (ho : o' = o + j * s) :
    PureOk P (.indexAddr t x i) ty [.one (.cel (.row v o n c)), .one (.cel (.raw (.int k z)))] (.one (.cel (.ptr v o'))) := by
  intro β W w ρ hsz he hu ha
  obtain ⟨⟨g, h1, h2⟩, h3, _⟩ := ha
  replace h3 : ρ i = .int k z := h3
  subst hz; subst ho
  refine ⟨.pointer (some ⟨g, o + j * s, none⟩), w, ?_, Below.refl _ _, patch_up hsz ⟨g, h1, rfl⟩⟩
  simp [execOp, h2, h3, Instr.indexAt, asIntOf, pureSem_run ht w, hj, pureSem_run hs w, add_at]
/-- What a pointer points to. -/
theorem loadn_ok (hA : pureSem P (isAgg t) = some true) (hs : pureSem P (sizeOf t) = some n) (hn : n ≤ cs.length) (hc : cs' = cs.take n) :
    PureOk P (.load t x) ty [.one (.cel (.ent (ptrTo cs)))] (.one (.agg cs')) := by
  intro β W w ρ hsz he hu ha
  obtain ⟨⟨g, o, h1, h2⟩, _⟩ := ha
  subst hc
  obtain ⟨us, hl, hr, hcell⟩ : ∃ us : List Value, us.length = n ∧ All2 (RelC β W) us (cs.take n) ∧ ∀ j u, us[j]? = some u → w.cell? ⟨g, o + j, none⟩ = some u := by
    clear h1 hs hA
    induction n with
    | zero => exact ⟨[], rfl, by simp [All2], by simp⟩
    | succ m ih =>
      obtain ⟨us, hl, hr, hcell⟩ := ih (by omega)
      have hm : m < cs.length := by omega
      obtain ⟨u, h3, h4⟩ := h2 m cs[m] (List.getElem?_eq_getElem hm)
      refine ⟨us ++ [u], by simp [hl], ?_, fun j v hj => ?_⟩
      · rw [List.take_succ_eq_append_getElem hm]
        exact hr.append (All2.one h4.rel)
      · rcases Nat.lt_or_ge j us.length with h | h
        · rw [List.getElem?_append_left h] at hj; exact hcell j v hj
        · rw [List.getElem?_append_right h] at hj
          have hj0 : j - us.length = 0 := by
            rcases Nat.eq_zero_or_pos (j - us.length) with h | h
            · exact h
            · rw [List.getElem?_eq_none (by simp; omega)] at hj; cases hj
          rw [hj0] at hj; simp at hj; subst hj
          obtain rfl : j = m := by omega
          exact he _ _ h3
  have hld := run_loadCells_list (P := P) w ⟨g, o, none⟩ us (fun j v hj => by rw [add_at]; exact hcell j v hj)
  rw [hl] at hld
  refine ⟨.agg us.toArray, w, ?_, Below.refl _ _, patch_up hsz ⟨us, rfl, hr⟩⟩
  simp [execOp, h1, Instr.loadAt, Instr.sureAddr, loadVar, pureSem_run hA w, pureSem_run hs w, hld]
theorem load1_ok {c : Cv} (hA : pureSem P (isAgg t) = some false) (hc : cs[0]? = some c) :
    PureOk P (.load t x) ty [.one (.cel (.ent (ptrTo cs)))] (.one (.cel c)) := by
  intro β W w ρ hsz he hu ha
  obtain ⟨⟨g, o, h1, h2⟩, _⟩ := ha
  obtain ⟨u, h3, h4⟩ := h2 0 c hc
  refine ⟨u, w, ?_, Below.refl _ _, patch_up hsz (av := .one (.cel c)) h4.rel⟩
  have := he _ _ h3
  simp only [Nat.add_zero] at this
  simp [execOp, h1, Instr.loadAt, Instr.sureAddr, loadVar, pureSem_run hA w, this]
/-- A field behind a pointer. -/
theorem fld_ok {fs : Array Field} {fd : Field} {m : Nat} (ht : pureSem P (underlying t) = some (.struct fs)) (hf : fs[f]? = some fd) (hs : pureSem P (sizeOf fd.type) = some (m + 1)) (hc : ∀ i c, cs'[i]? = some c → cs[fd.offset + i]? = some c) :
    PureOk P (.fieldAddr t x f) ty [.one (.cel (.ent (ptrTo cs)))] (.one (.cel (.ent (ptrTo cs')))) := by
  intro β W w ρ hsz he hu ha
  obtain ⟨⟨g, o, h1, h2⟩, _⟩ := ha
  refine ⟨.pointer (some ⟨g, o + fd.offset, none⟩), w, ?_, Below.refl _ _, patch_up hsz ⟨g, o + fd.offset, rfl, h2.part _ hc⟩⟩
  simp [execOp, h1, Instr.fieldAt, pureSem_run ht w, hf, Instr.sureAddr, fieldPlace, pureSem_run hs w, add_at]
theorem nil_ok : PureOk P (.nilCheck x) ty [.one (.cel (.ent (ptrTo cs)))] (.one (.cel (.ent (ptrTo cs)))) := by
  intro β W w ρ hsz he hu ha
  obtain ⟨⟨g, o, h1, h2⟩, _⟩ := ha
  refine ⟨_, w, ?_, Below.refl _ _, patch_up hsz ⟨g, o, h1, h2⟩⟩
  simp [execOp, h1]
/-- A function with what it took along. -/
def fnE (f : FuncId) (first caps : List Cv) : Ent where
  holds W v := ∃ vs us : List Value, v = .func (.func f) vs.toArray us.toArray ∧ All2 (HoldsC W) vs first ∧ All2 (HoldsC W) us caps
  len := none
  mono he hs h := by
    obtain ⟨vs, us, h1, h2, h3⟩ := h
    exact ⟨vs, us, h1, h2.mono fun _ _ k => k.mono he hs, h3.mono fun _ _ k => k.mono he hs⟩
  slice := by intro w v n _ e; cases e
  cell := by rintro w v ⟨_, _, rfl, _⟩; rfl
theorem fnE_clo (f : FuncId) (first caps : List Cv) : Clo (fnE f first caps) f first caps := fun _ _ h => h
theorem callV_of {G : World → Prop} {f : FuncId} {first caps : List Cv} {args : List Sv} {mem : List (Nat × VarSt)} {res : Av} (h : Fits P G f (first.map .cel ++ args ++ caps.map .cel) mem res) : CallV P G (fnE f first caps) args mem res := ⟨f, first, caps, fnE_clo _ _ _, h⟩
theorem fn1_ok {g : FuncId} {c : Cv} (hc : varsC c = []) : PureOk P (.makeFunc (.func g) #[] #[x]) ty [.one (.cel c)] (.one (.cel (.ent (fnE g [] [c])))) := by
  intro β W w ρ hsz he hu ha
  obtain ⟨h1, _⟩ := ha
  refine ⟨.func (.func g) #[] #[ρ x], w, ?_, Below.refl _ _, patch_up hsz (av := .one (.cel (.ent (fnE g [] [c])))) ⟨[], [ρ x], rfl, trivial, RelC.shut hc h1, trivial⟩⟩
  simp [execOp, Instr.makeFunc]
theorem fn2_ok {g : FuncId} {c d : Cv} (hc : varsC c = []) (hd : varsC d = []) : PureOk P (.makeFunc (.func g) #[] #[x, y]) ty [.one (.cel c), .one (.cel d)] (.one (.cel (.ent (fnE g [] [c, d])))) := by
  intro β W w ρ hsz he hu ha
  obtain ⟨h1, h2, _⟩ := ha
  refine ⟨.func (.func g) #[] #[ρ x, ρ y], w, ?_, Below.refl _ _, patch_up hsz (av := .one (.cel (.ent (fnE g [] [c, d])))) ⟨[], [ρ x, ρ y], rfl, trivial, RelC.shut hc h1, RelC.shut hd h2, trivial⟩⟩
  simp [execOp, Instr.makeFunc]
theorem fn_raw {β : Nat → Option Nat} {W : World} {v : Value} {f : FuncId} (h : RelC β W v (.raw (.func (.func f) #[] #[]))) : RelC β W v (.ent (fnE f [] [])) := ⟨[], [], h, trivial, trivial⟩
theorem rep_list (cells : Array Value) (hp : 0 < cells.size) : ∀ (N : Nat), (List.range (N * cells.size)).map (fun x => cells[x % cells.size]!) = (List.replicate N cells.toList).flatten
  | 0 => by simp
  | N + 1 => by
    have ih := rep_list cells hp N
    rw [List.replicate_succ', List.flatten_append, ← ih, Nat.succ_mul, List.range_add, List.map_append]
    congr 1
    rw [List.map_map]
    apply List.ext_getElem
    · simp
    · intro i h1 h2
      simp at h1
      simp [Nat.mod_eq_of_lt h1, h1]
/-- A row made of noughts. -/
theorem make_ok {kl kc : IntKind} {zl zc : Int} {info : TypeInfo} {zv : Value} {N : Nat} {sy : Sy ((List.replicate N (rawCells zv)).flatten)} {l c : Operand} (ht : pureSem P (underlying t) = some (.slice e)) (hi : P.info? e = some info) (hz : info.zero = some zv) (hs : info.size = zv.cells.size)
    (hl : zl = (N : Int)) (hc : zc = (N : Int)) (hb : info.bytes * N ≤ 2 ^ 47) (hN : N ≤ 2 ^ 47) (hpos : 0 < zv.cells.size) (hok : ((rawCells zv).all okCv) = true) :
    NewOk P (.makeSlice t l c) ty [.one (.cel (.raw (.int kl zl))), .one (.cel (.raw (.int kc zc)))] ⟨e, (List.replicate N (rawCells zv)).flatten, true, sy⟩ N N := by
  refine ⟨rfl, fun β W w ρ hsz he hu ha => ?_⟩
  obtain ⟨h1, h2, _⟩ := ha
  replace h1 : ρ l = .int kl zl := h1
  replace h2 : ρ c = .int kc zc := h2
  subst hl; subst hc
  have hw : IntKind.i64.wrap (N : Int) = N := by rw [IntKind.wrap_i64]; omega
  have n1 : ¬ (281474976710656 < (info.bytes : Int) * N) := by
    have : ((info.bytes * N : Nat) : Int) ≤ 140737488355328 := by omega
    rw [Int.natCast_mul] at this; omega
  refine ⟨(List.replicate N zv.cells.toList).flatten, ?_, ?_, ?_⟩
  · have hroom : ¬ N * info.bytes > roomBytes := by rw [Nat.mul_comm]; unfold roomBytes; omega
    have hinfo : (typeInfo e).run P w = .ok info w := by simp [typeInfo, hi]
    have hsize : (sizeOf e).run P w = .ok info.size w := by simp [sizeOf, hinfo]
    have hzero : (zeroValue e).run P w = .ok zv w := by simp [zeroValue, hinfo, hz]
    have n0 : ¬ (N : Int) < 0 := by omega
    have n2 : (info.bytes : Int) * N ≤ 281474976710656 := by omega
    have hlist : (Array.map (fun x => zv.cells[x % zv.cells.size]!) (Array.range (N * zv.cells.size))) = ((List.replicate N zv.cells.toList).flatten).toArray := by
      apply Array.ext'
      rw [Array.toList_map, Array.toList_range]
      exact rep_list zv.cells hpos N
    by_cases hN0 : N = 0
    · subst hN0
      have hw0 : IntKind.i64.wrap 0 = 0 := hw
      simp [execOp, h1, h2, Instr.makeSlice, asInt, asIntOf, pureSem_run ht w, hinfo, hw0, hsize, newRow, show Array.range 0 = #[] by simp [Array.range]]
    · have hne : ¬ N * zv.cells.size = 0 := by
        have := Nat.mul_pos (Nat.pos_of_ne_zero hN0) hpos
        omega
      simp [execOp, h1, h2, Instr.makeSlice, asInt, asIntOf, pureSem_run ht w, hinfo, hw, n0, n1, hsize, hzero, hs, hne, newRow, hlist]
  · show All2 (RelC β W) _ (List.replicate N (rawCells zv)).flatten
    clear hb hN h1 h2 hw n1
    induction N with
    | zero => trivial
    | succ m ih =>
      rw [List.replicate_succ, List.replicate_succ, List.flatten_cons, List.flatten_cons]
      exact (rawCells_rel zv).append (ih (sy := .no))
  · intro v hv
    rw [List.mem_flatten] at hv
    obtain ⟨l, h3, h4⟩ := hv
    rw [List.mem_replicate] at h3
    rw [h3.2] at h4
    exact rawCells_ok hok v h4
/-- What stands in a new place of a type. -/
def zeroOf (P : Program) (e : TypeId) : Option (List Cv) :=
  match P.info? e with
  | some i => (match i.zero with
    | some zv => (match Nat.beq i.size zv.cells.size, Nat.blt 0 zv.cells.size, Nat.ble i.bytes 8192, (rawCells zv).all okCv with
      | true, true, true, true => some (rawCells zv)
      | _, _, _, _ => none)
    | none => none)
  | none => none
theorem new_ok {kl kc : IntKind} {zl zc : Int} {z : List Cv} {N : Nat} {st : VarSt} {l c : Operand} (ht : pureSem P (underlying t) = some (.slice e)) (hz : zeroOf P e = some z)
    (hl : zl = (N : Int)) (hc : zc = (N : Int)) (hN : N ≤ 17179869184) (h1 : st.t = e) (h2 : st.own = true) (h3 : st.cs = (List.replicate N z).flatten) :
    NewOk P (.makeSlice t l c) ty [.one (.cel (.raw (.int kl zl))), .one (.cel (.raw (.int kc zc)))] st N N := by
  unfold zeroOf at hz
  split at hz
  · rename_i i hi
    split at hz
    · rename_i zv hzv
      split at hz
      · rename_i e1 e2 e3 e4
        injection hz with hz; subst hz; subst h1
        have hb : i.bytes ≤ 8192 := Nat.le_of_ble_eq_true e3
        have key := make_ok (P := P) (t := t) (ty := ty) (sy := .no) (kl := kl) (kc := kc) (l := l) (c := c) ht hi hzv (Nat.eq_of_beq_eq_true e1) hl hc
          (by have := Nat.mul_le_mul hb hN; omega) (by omega) (Nat.le_of_ble_eq_true e2) e4
        refine ⟨h2, fun β W w ρ a1 a2 a3 a4 => ?_⟩
        obtain ⟨vs, b1, b2, b3⟩ := key.2 β W w ρ a1 a2 a3 a4
        exact ⟨vs, b1, h3 ▸ b2, b3⟩
      · cases hz
    · cases hz
  · cases hz
end
/-- Variables said otherwise. -/
def ConvV : List (Nat × VarSt) → List (Nat × VarSt) → Prop
  | [], [] => True
  | (x, s) :: l, (y, s') :: l' => x = y ∧ s'.t = s.t ∧ s'.own = s.own ∧ (∀ (β : Nat → Option Nat) (W : World) (us : List Value), All2 (RelC β W) us s.cs → All2 (RelC β W) us s'.cs) ∧ ConvV l l'
  | _, _ => False
theorem ConvV.look : ∀ {vr vr' : List (Nat × VarSt)}, ConvV vr vr' → ∀ {x : Nat} {s' : VarSt}, AM.look vr' x = some s' → ∃ s, AM.look vr x = some s ∧ s'.t = s.t ∧ s'.own = s.own ∧ ∀ (β : Nat → Option Nat) (W : World) (us : List Value), All2 (RelC β W) us s.cs → All2 (RelC β W) us s'.cs
  | [], [], _, x, s', h => by cases h
  | (y, s) :: l, (y', t) :: l', hc, x, s', h => by
    obtain ⟨rfl, h1, h2, h3, h4⟩ := hc
    unfold AM.look at h ⊢
    split at h
    · injection h with h; subst h
      exact ⟨s, rfl, h1, h2, h3⟩
    · exact h4.look h
  | [], _ :: _, hc, _, _, _ => hc.elim
  | _ :: _, [], hc, _, _, _ => hc.elim
theorem ConvV.back : ∀ {vr vr' : List (Nat × VarSt)}, ConvV vr vr' → ∀ {x : Nat} {s : VarSt}, AM.look vr x = some s → ∃ s', AM.look vr' x = some s'
  | [], [], _, x, s, h => by cases h
  | (y, s) :: l, (y', t) :: l', hc, x, s', h => by
    obtain ⟨rfl, h1, h2, h3, h4⟩ := hc
    unfold AM.look at h ⊢
    split at h
    · exact ⟨_, rfl⟩
    · exact h4.back h
  | [], _ :: _, hc, _, _, _ => hc.elim
  | _ :: _, [], hc, _, _, _ => hc.elim
theorem all_notGro {vr : List (Nat × VarSt)} (h : vr.all (fun m => notGro m.2) = true) {x : Nat} {s : VarSt} (hx : AM.look vr x = some s) : groOf s = none := notGro_spec (List.all_eq_true.1 h _ (look_mem hx))
theorem Is.conv {w0 : Base} {G : World → Prop} {tm : List Av} {vr vr' : List (Nat × VarSt)} {a : Act} {w : World} (hc : ConvV vr vr') (hn : vr.all (fun m => notGro m.2) = true) (hn' : vr'.all (fun m => notGro m.2) = true) (h : Is w0 G tm vr a w) : Is w0 G tm vr' a w := by
  obtain ⟨β, W, hR⟩ := h
  refine ⟨β, W, hR.defers, hR.room, hR.tmp, hR.below, hR.old, hR.size, hR.ext, hR.u32, hR.glob, hR.inj, fun x s hx _ => ?_, fun x g hx => ?_, fun x s n es hx hg => (by rw [all_notGro hn' hx] at hg; cases hg), fun x s _ _ _ _ hx hs => absurd (all_notGro hn' hx) hs⟩
  · obtain ⟨s0, h1, h2, h3, h4⟩ := hc.look hx
    obtain ⟨g, cs, b1, b2, b3, b4, b5⟩ := hR.var x s0 h1 (all_notGro hn h1)
    exact ⟨g, cs, b1, b2, by rw [h2]; exact b3, h4 _ _ _ b4, fun ho => b5 (h3 ▸ ho)⟩
  · obtain ⟨⟨s, h1⟩, h2⟩ := hR.dom x g hx
    exact ⟨hc.back h1, h2⟩
theorem Moves.pre {P : Program} {G : World → Prop} {b : Code} {tm tm' : List Av} {vr vr0 vr' : List (Nat × VarSt)} {e : Exit} (hc : ConvV vr vr0) (h : Moves P G b tm vr0 e tm' vr') (hn : vr.all (fun m => notGro m.2) = true := by rfl) (hn' : vr0.all (fun m => notGro m.2) = true := by rfl) : Moves P G b tm vr e tm' vr' := fun w0 Q a w hI hQ => h w0 Q a w (hI.conv hc hn hn') hQ
end Go.Proofs.YtnncfbmddpijcaaGreatDoor.AM
