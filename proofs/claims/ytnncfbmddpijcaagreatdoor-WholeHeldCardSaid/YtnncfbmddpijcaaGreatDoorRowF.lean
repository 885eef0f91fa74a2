/- Rows filled in a loop. -/
import Derived.Test.YtnncfbmddpijcaaGreatDoorFits
import Derived.Test.YtnncfbmddpijcaaGreatDoorLists
namespace Go.Proofs.YtnncfbmddpijcaaGreatDoor
open Go Go.RowKit Go.Shelf AM
/-- Loops in a piece of code, in their order. -/
def loopsIn : Code → List Code
  | .loop b => b :: loopsIn b
  | .seq x y => loopsIn x ++ loopsIn y
  | .cond _ x y => loopsIn x ++ loopsIn y
  | .block _ b => loopsIn b
  | .scope c => loopsIn c
  | _ => []
noncomputable def loopN (f : Func) (i : Nat) : Code := (loopsIn (Go.Proofs.YtnncfbmddpijcaaGreatDoor.bodyOf f)).getD i .skip
theorem moves_of_trace {n k : Nat} {b : Code} {tm tm' : List Av} {vr vr' : List (Nat × VarSt)} {T : List Tr} {keep ids : List Nat} {e : Exit} (hT : AllOk Tryz.prog Glob T) (h : runPart Tryz.prog n b tm vr k T keep ids = some (e, tm', vr', T.reverse)) : AM.Moves Tryz.prog Glob b tm vr e tm' vr' :=
  moves_of_run Glob.below mix h hT.back
theorem fitsO_of_trace {f : FuncId} {fn : Func} {n k0 x : Nat} {args : List Sv} {mem : List (Nat × VarSt)} {res : Av} {s : VarSt} {T : List Tr} (hT : AllOk Tryz.prog Glob T) (hf : Tryz.prog.funcs[f]? = some fn) (hn : (fn.name == "runtime.NumGoroutine") = false) (hb : fn.body = some (Go.Proofs.YtnncfbmddpijcaaGreatDoor.bodyOf fn))
    (h : runFnO Tryz.prog n fn (Go.Proofs.YtnncfbmddpijcaaGreatDoor.bodyOf fn) args mem k0 T x = some (res, s, T.reverse)) : FitsO Tryz.prog Glob f args mem res s := fitsO_of_run Glob.below mix hf hn hb h hT.back
theorem fitsM_of_trace {f : FuncId} {fn : Func} {n k0 : Nat} {xs : List Nat} {args : List Sv} {mem : List (Nat × VarSt)} {res : Av} {ss : List VarSt} {T : List Tr} (hT : AllOk Tryz.prog Glob T) (hf : Tryz.prog.funcs[f]? = some fn) (hn : (fn.name == "runtime.NumGoroutine") = false) (hb : fn.body = some (Go.Proofs.YtnncfbmddpijcaaGreatDoor.bodyOf fn))
    (h : runFnM Tryz.prog n fn (Go.Proofs.YtnncfbmddpijcaaGreatDoor.bodyOf fn) args mem k0 T xs = some (res, ss, T.reverse)) : FitsM Tryz.prog Glob f args mem res ss := fitsM_of_run Glob.below mix hf hn hb h hT.back
/-- A row half filled. -/
def fillL {α : Type} (E : α → List Cv) (z : List Cv) (n : Nat) (ys : List α) (k : Nat) : List Cv := (ys.take k).flatMap E ++ (List.replicate (n - k) z).flatten
section
variable {α : Type} {E : α → List Cv} {z : List Cv} {n s k : Nat} {ys : List α} {y : α}
theorem flat_len (hE : ∀ y, (E y).length = s) : ∀ (ys : List α), (ys.flatMap E).length = ys.length * s
  | [] => by simp
  | y :: ys => by rw [List.flatMap_cons, List.length_append, hE, flat_len hE ys, List.length_cons, Nat.succ_mul, Nat.add_comm]
theorem rep_len (hz : z.length = s) : ∀ m, (List.replicate m z).flatten.length = m * s
  | 0 => by simp
  | m + 1 => by rw [List.replicate_succ, List.flatten_cons, List.length_append, hz, rep_len hz m, Nat.succ_mul, Nat.add_comm]
theorem fill_len (hE : ∀ y, (E y).length = s) (hz : z.length = s) (hn : ys.length = n) (hk : k ≤ n) : (fillL E z n ys k).length = n * s := by
  unfold fillL
  rw [List.length_append, flat_len hE, rep_len hz, List.length_take, ← Nat.add_mul, hn, Nat.min_eq_left hk]
  congr 1; omega
theorem fill_put (hE : ∀ y, (E y).length = s) (hz : z.length = s) (hn : ys.length = n) (hy : ys[k]? = some y) {o : Nat} (ho : o = k * s) : fillL E z n ys (k + 1) = putL (fillL E z n ys k) o (E y) := by
  subst ho
  obtain ⟨hk, hg⟩ := List.getElem?_eq_some_iff.1 hy
  have hl : ((ys.take k).flatMap E).length = k * s := by rw [flat_len hE, List.length_take, Nat.min_eq_left (by omega)]
  have hr : n - k = (n - (k + 1)) + 1 := by omega
  unfold fillL putL
  rw [hr, List.replicate_succ, List.flatten_cons, List.take_succ_eq_append_getElem hk, hg, List.flatMap_append]
  generalize (ys.take k).flatMap E = A at *
  generalize (List.replicate (n - (k + 1)) z).flatten = B
  rw [← hl, List.take_left' rfl, show A.length + (E y).length = (A ++ z).length by simp [hE, hz], ← List.append_assoc A z B, List.drop_left' rfl]
  simp
theorem fill_full (hn : ys.length = n) : fillL E z n ys n = ys.flatMap E := by
  unfold fillL
  rw [Nat.sub_self, List.take_of_length_le (by omega)]; simp
theorem fill_shut (hE : ∀ y, ∀ c ∈ E y, varsC c = []) (hz : ∀ c ∈ z, varsC c = []) : ∀ c ∈ fillL E z n ys k, varsC c = [] := fun c hc => by
  unfold fillL at hc
  rcases List.mem_append.1 hc with h | h
  · obtain ⟨y, _, h2⟩ := List.mem_flatMap.1 h; exact hE y c h2
  · obtain ⟨l, h1, h2⟩ := List.mem_flatten.1 h
    rw [(List.mem_replicate.1 h1).2] at h2; exact hz c h2
theorem fill_room (hE : ∀ y, (E y).length = s) (hz : z.length = s) (hn : ys.length = n) (hk : k < n) {o : Nat} (ho : o = k * s) : o + (E y).length ≤ (fillL E z n ys k).length := by
  rw [fill_len hE hz hn (by omega), hE, ho]
  calc k * s + s = (k + 1) * s := by rw [Nat.succ_mul]
    _ ≤ n * s := Nat.mul_le_mul_right s hk
theorem flat_get (hE : ∀ y, (E y).length = s) : ∀ {ys : List α} {k : Nat}, ys[k]? = some y → ∀ i c, (E y)[i]? = some c → (ys.flatMap E)[k * s + i]? = some c
  | [], _, h, _, _, _ => by simp at h
  | y' :: ys, 0, h, i, c, hc => by
    simp at h; subst h
    have hi : i < (E y').length := (List.getElem?_eq_some_iff.1 hc).1
    rw [List.flatMap_cons, Nat.zero_mul, Nat.zero_add, List.getElem?_append_left hi]; exact hc
  | y' :: ys, k + 1, h, i, c, hc => by
    simp at h
    rw [List.flatMap_cons, List.getElem?_append_right (by rw [hE, Nat.succ_mul]; omega), hE, show (k + 1) * s + i - s = k * s + i by rw [Nat.succ_mul]; omega]
    exact flat_get hE h i c hc
theorem flat_ne (hE : ∀ y, (E y).length = s) (hs : 0 < s) (hy : ys[k]? = some y) : ys.flatMap E ≠ [] := fun h => by
  have := flat_len hE ys
  rw [h] at this
  have hk := (List.getElem?_eq_some_iff.1 hy).1
  have := Nat.mul_pos (show 0 < ys.length by omega) hs
  simp at *; omega
theorem idx_lt (h : ys[k]? = some y) (hn : ys.length = n) : k < n := by rw [← hn]; exact (List.getElem?_eq_some_iff.1 h).1
end
theorem ne_int {a b : Int} (h : a ≠ b) : (a != b) = true := by rw [bne_iff_ne]; exact h
theorem lt_true {k n : Nat} (h : k < n) : decide ((k : Int) < (n : Int)) = true := decide_eq_true (by omega)
theorem lt_false {n : Nat} : decide ((n : Int) < (n : Int)) = false := decide_eq_false (by omega)
theorem norm_succ {k n : Nat} (h : k < n) (hn : n ≤ 17179869184) : Norm (.one (.cel (.raw (.int .i64 (IntKind.i64.wrap ((k : Int) + 1)))))) (.one (.cel (.raw (.int .i64 ((k + 1 : Nat) : Int))))) := Norm.of_eq (by
  rw [show IntKind.i64.wrap ((k : Int) + 1) = ((k + 1 : Nat) : Int) by rw [IntKind.wrap_i64]; omega])
theorem norm_fill {α : Type} {E : α → List Cv} {z : List Cv} {n : Nat} {ys : List α} (hm : ys.length = n) : Norm (.tup [.cel (.ent (rowOf n (fillL E z n ys n))), ok0]) (.tup [.cel (.ent (rowOf n (ys.flatMap E))), ok0]) := Norm.of_eq (by rw [fill_full hm])
/-- Ratios' cells; a list of ratios. -/
def rqC (q : Rat) : List Cv := [.raw (.bool (decide (q.num < 0))), .ent (nat q.num.natAbs), .ent (nat q.den)]
def rqZ : List Cv := [.raw (.bool false), .raw (.slice none 0 0), .raw (.slice none 0 0)]
theorem rqC_len (q : Rat) : (rqC q).length = 3 := rfl
theorem rqC_shut (q : Rat) : ∀ c ∈ rqC q, varsC c = [] := by
  intro c hc
  simp only [rqC, List.mem_cons, List.not_mem_nil, or_false] at hc
  rcases hc with rfl | rfl | rfl <;> rfl
theorem rqZ_shut : ∀ c ∈ rqZ, varsC c = [] := by
  intro c hc
  simp only [rqZ, List.mem_cons, List.not_mem_nil, or_false] at hc
  rcases hc with rfl | rfl | rfl <;> rfl
theorem ne_self {n : Nat} : ((n : Int) != (n : Int)) = false := by simp
theorem ne_len {n m : Nat} (h : n ≠ m) : ((n : Int) != (m : Int)) = true := by simp; omega
def boC (b : Bool) : List Cv := [.raw (.bool b)]
def boZ : List Cv := [.raw (.bool false)]
theorem boC_len (b : Bool) : (boC b).length = 1 := rfl
theorem boC_shut (b : Bool) : ∀ c ∈ boC b, varsC c = [] := by
  intro c hc
  simp only [boC, List.mem_cons, List.not_mem_nil, or_false] at hc
  subst hc; rfl
theorem boZ_shut : ∀ c ∈ boZ, varsC c = [] := boC_shut false
abbrev ratsN (n : Nat) (xs : List Rat) : Sv := .cel (.ent (rowOf n (xs.flatMap rqC)))
def rats (xs : List Rat) : Ent := rowOf xs.length (xs.flatMap rqC)
end Go.Proofs.YtnncfbmddpijcaaGreatDoor
