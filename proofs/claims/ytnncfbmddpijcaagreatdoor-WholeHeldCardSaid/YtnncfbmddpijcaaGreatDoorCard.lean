
/- What a law's arguments read as, and what its answer is: for rows whose answer is true and whose arguments stay. -/
import Derived.Test.YtnncfbmddpijcaaGreatDoorCards
import Derived.Test.YtnncfbmddpijcaaGreatDoorTie
import Derived.WalkKit
import Derived.ProofKit
import Derived.OpenShut
import Derived.Deep.DeepHandedRow
import Derived.Lib.LaidTab
import Derived.Test.YtnncfbmddpijcaaGreatDoorHeld
import Derived.Test.YtnncfbmddpijcaaGreatDoorParse
import Derived.Stop.LaidErr
namespace Go.Proofs.YtnncfbmddpijcaaGreatDoor
open Go Go.RowKit Go.WideShapes Go.ChangeShapes Go.ChangeAt Go.Shelf

theorem under_nat : Tryz.prog.underlying 23 = some (.slice 85) := by kernel_rfl
theorem under_u32 : Tryz.prog.underlying 85 = some (.int .u32) := by kernel_rfl
theorem cells_u32 : Tryz.prog.cellsOf 85 = 1 := by kernel_rfl
theorem laidOut : laidOutB Tryz.prog = true := by kernel_rfl

set_option maxRecDepth 100000 in
/-- A number that comes in: its digits. -/
theorem read_nat {H : Type} {enc : TypeId × Value → H} {W : World} {r : Reach} {b0 : Nat} {v : Value} {d : DataW H} {ps : List MemPlace} (hval : Value.okWide Tryz.prog W r b0 23 v)
    (h : DataW.Trod enc Tryz.prog W 0 (fun _ => true) true 23 v d ps) : ∃ zs : List Nat, Arg W v zs ∧ ∀ x ∈ zs, x < 4294967296 := by
  obtain ⟨a, len, cap, rfl⟩ := okWide_slice under_nat hval
  obtain ⟨fuel, hf⟩ := h
  rw [show (Value.slice a len cap).cells = #[.slice a len cap] from rfl] at hf
  rcases open_ints under_nat under_u32 cells_u32 hf with ⟨h0, _⟩ | ⟨A, len', cap', zs, h0, _, hl, hm, hlen, _, hc, hw⟩
  · simp at h0
    obtain ⟨rfl, rfl, rfl⟩ := h0
    exact ⟨[], ⟨⟨_, _, rfl⟩, fun _ => Rd.nil _ _ _⟩, by simp⟩
  · simp at h0
    obtain ⟨rfl, rfl, rfl⟩ := h0
    simp at hlen
    have hwf : ∀ n ∈ zs, 0 ≤ n ∧ n < 4294967296 := fun n hn => by
      have := hw n hn
      simp [Lit.wf, IntKind.min, IntKind.max, IntKind.signed, IntKind.bits] at this
      omega
    have hll : ((zs.take len).map Int.toNat).length = len := by simp; omega
    refine ⟨(zs.take len).map Int.toNat, ⟨⟨some A, cap, by rw [hll]⟩, fun h40 => ⟨some A, cap, by rw [hll], by omega, by omega, fun h1 => ?_⟩⟩, ?_⟩
    · have h00 := hc 0 (by omega)
      have hs : A.spot = none := by
        rw [show A.add 0 = A from rfl] at h00
        unfold World.cell? at h00
        split at h00
        · split at h00
          · cases h00
          · rename_i h; cases e : A.spot with
            | none => rfl
            | some _ => rw [e] at h; simp at h
        · cases h00
      have hA : A = ⟨A.block, A.off, none⟩ := by cases A; simp at hs; simp [hs]
      refine ⟨A.block, A.off, by rw [← hA], World.block_lt_of_cell? W A (show W.cell? A = some _ from h00), fun j x hx => ?_⟩
      rw [List.getElem?_map] at hx
      rcases hz : (zs.take len)[j]? with _ | n
      · rw [hz] at hx; cases hx
      · rw [hz] at hx
        injection hx with hx
        have hj : j < len := by have := (List.getElem?_eq_some_iff.1 hz).1; simp at this; omega
        have hn : zs[j]? = some n := by rw [List.getElem?_take_of_lt hj] at hz; exact hz
        have := hc j (by omega)
        rw [List.getD_eq_getElem?_getD, hn] at this
        have hp := hwf n (List.mem_of_getElem? hn)
        have hadd : A.add j = ⟨A.block, A.off + j, none⟩ := by
          unfold Addr.add
          split
          · rename_i e; subst e; exact hA
          · rfl
        rw [hadd] at this
        rw [this, ← hx]
        simp; omega
    · intro x hx
      obtain ⟨n, hn, rfl⟩ := List.mem_map.1 hx
      have := hwf n (List.mem_of_mem_take hn)
      omega

/-- What the row's list gives. -/
theorem gTab : Tryz.prog.globalNamed "math/bits.deBruijn32tab" = some 0 := by kernel_rfl
end Go.Proofs.YtnncfbmddpijcaaGreatDoor

/- A row whose answer is true and whose arguments stay: its last step. -/
namespace Go.Proofs.YtnncfbmddpijcaaGreatDoor
open Go Go.RowKit Go.WideShapes Go.ChangeShapes Go.ChangeAt Go.Shelf

section
variable {H : Type} {enc : TypeId × Value → H}

/-- What is read through places that stay reads the same. -/
theorem args_stay {W W' : World} {sp : Nat → Bool} : ∀ {ts : List TypeId} {vs : List Value} {ds : List (DataW H)} {ps : List MemPlace}, (∀ t ∈ ts, Tryz.prog.readableRec t = true ∧ t < Tryz.prog.types.size) →
    DataW.TrodAll enc Tryz.prog W 0 (fun _ => true) true ts vs ds ps → (∀ x ∈ ps, W.sameAt W' x) → (∀ x ∈ ps, sp x.block = true) → DataW.TrodAll enc Tryz.prog W' 0 sp true ts vs ds ps
  | [], _, _, _, _, h, _, _ => by obtain ⟨rfl, rfl, rfl⟩ := trodAll_nil h; exact trodAll_mk0
  | t :: ts, _, _, _, ht, h, hs, hp => by
    obtain ⟨v, vs', d, ds', p, q, rfl, rfl, rfl, h1, h2⟩ := trodAll_cons h
    obtain ⟨hr, hrow⟩ := ht t (by simp)
    exact trodAll_cons_mk (WideElems.Trod_stays laidOut hr hrow h1 (fun x hx => hs x (by simp [hx])) (fun x hx => hp x (by simp [hx])))
      (args_stay (fun u hu => ht u (by simp [hu])) h2 (fun x hx => hs x (by simp [hx])) (fun x hx => hp x (by simp [hx])))

set_option maxRecDepth 100000 in
/-- The answer is true, the arguments are what they were, all that there was below the new blocks has stayed. -/
theorem post_true {f : Func} {s : ChangeSpec} {W W' : World} {args : Array Value} {ds gs : List (DataW H)} {before : List MemPlace} {t : TypeId}
    (hv : s.vars = []) (hfn : s.fn H (ds ++ gs) = { results := [.lit (.bool true)], args := ds }) (hr : f.resultTypes = #[t]) (ht : Tryz.prog.underlying t = some .bool)
    (hts : ∀ t ∈ f.params.toList, Tryz.prog.readableRec t = true ∧ t < Tryz.prog.types.size)
    (hW : DataW.Whole enc Tryz.prog f.params.toList s.vars false W args.toList ds gs before) (hb : Below W.heap.size W W') :
    s.post enc Tryz.prog f false true false false W args (.bool true) W' := by
  have hlt : ∀ p ∈ before, p.block < W.heap.size := fun p hp => hW.lt p hp
  have hW0 := hW
  obtain ⟨p, q, hA, hV, rfl, hz, hn⟩ := hW
  rw [hv] at hV
  obtain ⟨rfl, rfl⟩ := trodVars_none hV
  rw [List.append_nil] at hlt hz hn hW0
  have harg : ∀ sp : Nat → Bool, (∀ x ∈ p, sp x.block = true) → DataW.TrodAll enc Tryz.prog W' 0 sp true f.params.toList args.toList (s.fn H (ds ++ [])).args p := fun sp hsp => by
    rw [hfn]; exact args_stay hts hA (fun x hx => hb.same (hlt x hx)) hsp
  have hvar : ∀ sp : Nat → Bool, DataW.TrodVars enc Tryz.prog W' sp s.vars (s.fn H (ds ++ [])).vars [] := fun sp => by rw [hfn, hv]; rfl
  have hres : ∀ (b : Nat) (sp : Nat → Bool) (hd : Bool), DataW.TrodAll enc Tryz.prog W' b sp hd f.resultTypes.toList ((Value.bool true).resultList f.resultTypes.size) (s.fn H (ds ++ [])).results [] := fun b sp hd => by
    rw [hfn, hr]; exact trodAll_cons_mk (shut_bool ht _) trodAll_mk0
  have hold : ∀ x ∈ p, (fun b => decide (b < W.heap.size)) x.block = true := fun x hx => by simpa using hlt x hx
  refine ⟨ds, [], p, [], p, [], hW0, hres _ _ _, harg _ hold, hvar _, World.keptBut_mono (fun x hx => ⟨hx, ?_⟩) (hb.frame (· ∈ p)), fun _ => ?_⟩
  · simp [hx]
  · refine ⟨ok_one hr rfl (okWide_bool_mk ht _), _, _, ([] ++ p) ++ [], ⟨[] ++ p, [], trodAll_append (harg _ (fun _ _ => rfl)) (hres _ _ _), hvar _, rfl, ?_, ?_⟩, ?_⟩
    · intro b off hp
      have hp' : MemPlace.cell b off ∈ p := by simpa using hp
      rw [hb.frozen (hlt _ hp')]
      exact hz b off hp'
    · intro ha; cases ha
    · intro x hx _
      simpa using hx
end
theorem own : ownKnob Tryz.prog.godebug = none := by kernel_rfl
end Go.Proofs.YtnncfbmddpijcaaGreatDoor

/- The row's list: the tables of trailing noughts, and that of powers of ten. -/
namespace Go.Proofs.YtnncfbmddpijcaaGreatDoor
open Go Go.RowKit Go.WideShapes Go.ChangeShapes Go.ChangeAt Go.Shelf

theorem gTabType : (Tryz.prog.globals[0]?).map (·.type) = some 129 := by kernel_rfl
theorem under_tab : Tryz.prog.underlying 129 = some (.array 32 5) := by kernel_rfl
theorem under_u8 : Tryz.prog.underlying 5 = some (.int .u8) := by kernel_rfl
theorem cells_u8 : Tryz.prog.cellsOf 5 = 1 := by kernel_rfl
theorem cells_tab : Tryz.prog.cellsOf 129 = 32 := by kernel_rfl
theorem under_u64 : Tryz.prog.underlying 65 = some (.int .u64) := by kernel_rfl
theorem cells_u64 : Tryz.prog.cellsOf 65 = 1 := by kernel_rfl

theorem laid_plain {W : World} (h : laidMetH Tryz.prog Rows.wholeHeldRow.laid W) : laidMet Tryz.prog Rows.wholeHeldRow.laid W := h
/-- What the row's list gives: the table of 'trailing noughts' stands. -/
theorem tab_laid {W : World} (h : laidMetH Tryz.prog Rows.wholeHeldRow.laid W) : Tab W := by
  have ht : Lib.TabIs Tryz.prog W "math/bits.deBruijn32tab" .u8 (Lib.deBruijn32tab.map fun n : Nat => (n : Int)) :=
    Lib.tabIs_of_head gTab gTabType under_tab under_u8 cells_u8 cells_tab (laid_plain h)
  intro j hj
  have := ht.cell gTab j (by simpa using hj)
  rw [this, List.getD_eq_getElem?_getD, List.getElem?_map, List.getD_eq_getElem?_getD, List.getElem?_eq_getElem hj]
  rfl
theorem tab10_laid {W : World} (_ : laidMetH Tryz.prog Rows.wholeHeldRow.laid W) : Tab10 W := trivial

/-- A world for the witness: the settled one, the tables holding what their initialisers lay. -/
def put32 : Obj → Obj
  | .cells _ t frozen => .cells (Lib.deBruijn32tab.map fun n : Nat => Value.int .u8 (n : Int)).toArray t frozen
  | o => o
noncomputable def laidWorld (os : Os) : World :=
  { World.holding Tryz.prog os ⟨#[], #[], []⟩ with heap := (World.holding Tryz.prog os ⟨#[], #[], []⟩).heap.modify 0 put32 }
end Go.Proofs.YtnncfbmddpijcaaGreatDoor
