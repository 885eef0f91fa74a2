/- An abstract machine for Go's code: code, whole functions, loops: part of the library of this claim. -/
import Derived.Test.YtnncfbmddpijcaaGreatDoorAmA
/- Code, and whole functions. -/
namespace Go.Proofs.YtnncfbmddpijcaaGreatDoor.AM
open Go Go.RowKit

/-- A list laid out before one goes on. -/
def forceC {γ : Type} (c : Cv) (k : Cv → γ) : γ := match c with | .any => k .any | .raw v => k (.raw v) | .ent e => k (.ent e) | .ptr x o => k (.ptr x o) | .row x o n d => k (.row x o n d) | .grow x n => k (.grow x n)
def forceCs {γ : Type} : List Cv → (List Cv → γ) → γ
  | [], k => k []
  | c :: l, k => forceC c fun c' => forceCs l fun l' => k (c' :: l')
def forceS {γ : Type} (s : Sv) (k : Sv → γ) : γ := match s with | .cel c => forceC c fun c' => k (.cel c') | .agg l => forceCs l fun l' => k (.agg l')
def forceSs {γ : Type} : List Sv → (List Sv → γ) → γ
  | [], k => k []
  | c :: l, k => forceS c fun c' => forceSs l fun l' => k (c' :: l')
def forceA {γ : Type} (a : Av) (k : Av → γ) : γ := match a with | .one s => forceS s fun s' => k (.one s') | .tup l => forceSs l fun l' => k (.tup l')
def forceAs {γ : Type} : List Av → (List Av → γ) → γ
  | [], k => k []
  | c :: l, k => forceA c fun c' => forceAs l fun l' => k (c' :: l')
def forceN {γ : Type} (n : Nat) (k : Nat → γ) : γ := match n with | 0 => k 0 | m + 1 => k (m + 1)
def forceV {γ : Type} : List (Nat × VarSt) → (List (Nat × VarSt) → γ) → γ
  | [], k => k []
  | (x, ⟨t, cs, o, .no⟩) :: l, k => forceN x fun x' => forceCs cs fun cs' => forceV l fun l' => k ((x', ⟨t, cs', o, .no⟩) :: l')
  | (x, ⟨t, cs, o, .yes h⟩) :: l, k => forceN x fun x' => forceV l fun l' => k ((x', ⟨t, cs, o, .yes h⟩) :: l')
  | (x, ⟨t, cs, o, .gro n es h⟩) :: l, k => forceN x fun x' => forceV l fun l' => k ((x', ⟨t, cs, o, .gro n es h⟩) :: l')
theorem forceC_eq {γ : Type} (c : Cv) (k : Cv → γ) : forceC c k = k c := by cases c <;> rfl
theorem forceCs_eq {γ : Type} : ∀ (l : List Cv) (k : List Cv → γ), forceCs l k = k l
  | [], _ => rfl
  | c :: l, k => by unfold forceCs; rw [forceC_eq, forceCs_eq l]
theorem forceS_eq {γ : Type} (s : Sv) (k : Sv → γ) : forceS s k = k s := by
  cases s with
  | cel c => exact forceC_eq c fun c' => k (.cel c')
  | agg l => exact forceCs_eq l fun l' => k (.agg l')
theorem forceSs_eq {γ : Type} : ∀ (l : List Sv) (k : List Sv → γ), forceSs l k = k l
  | [], _ => rfl
  | c :: l, k => by unfold forceSs; rw [forceS_eq, forceSs_eq l]
theorem forceA_eq {γ : Type} (s : Av) (k : Av → γ) : forceA s k = k s := by
  cases s with
  | one c => exact forceS_eq c fun c' => k (.one c')
  | tup l => exact forceSs_eq l fun l' => k (.tup l')
theorem forceAs_eq {γ : Type} : ∀ (l : List Av) (k : List Av → γ), forceAs l k = k l
  | [], _ => rfl
  | c :: l, k => by unfold forceAs; rw [forceA_eq, forceAs_eq l]
theorem forceN_eq {γ : Type} (n : Nat) (k : Nat → γ) : forceN n k = k n := by cases n <;> rfl
theorem forceV_eq {γ : Type} : ∀ (l : List (Nat × VarSt)) (k : List (Nat × VarSt) → γ), forceV l k = k l
  | [], _ => rfl
  | (x, ⟨t, cs, o, .no⟩) :: l, k => by unfold forceV; rw [forceN_eq, forceCs_eq, forceV_eq l]
  | (x, ⟨t, cs, o, .yes h⟩) :: l, k => by unfold forceV; rw [forceN_eq, forceV_eq l]
  | (x, ⟨t, cs, o, .gro n es h⟩) :: l, k => by unfold forceV; rw [forceN_eq, forceV_eq l]
def forceSt {γ : Type} (S : St) (k : St → γ) : γ := forceAs S.tm fun tm => forceN S.k fun n => k ⟨tm, S.vr, n, S.tr, S.out⟩
theorem forceSt_eq {γ : Type} (S : St) (k : St → γ) : forceSt S k = k S := by
  unfold forceSt; rw [forceAs_eq, forceN_eq]

def endRegion (r : Option St) : Option (Exit × St) := match r with | some S => forceSt S fun S' => some (.normal, S') | none => none
/-- The machine. 'go': the next round of a loop. -/
def run (P : Program) : Nat → Bool → Code → St → Option (Exit × St)
  | 0, _, _, _ => none
  | n + 1, go, c, S =>
    match c with
    | .skip => some (.normal, S)
    | .label _ => some (.normal, S)
    | .seq x y => (match run P n false x S with | some (.normal, S1) => run P n false y S1 | r => r)
    | .cond c x y => (match evF (tmF S.tm) c with | .one (.cel (.raw (.bool true))) => run P n false x S | .one (.cel (.raw (.bool false))) => run P n false y S | _ => none)
    | .block id b => (match run P n false b S with | some (.exit id', S1) => (match Nat.beq id' id with | true => some (.normal, S1) | false => some (.exit id', S1)) | r => r)
    | .loop b =>
      (match go with
      | true => (match run P n false b S with | some (.normal, S1) => run P n true (.loop b) S1 | r => r)
      | false =>
        (match S.tr with
        | .loop _ keep ids _ _ e tm' vr' k' :: tr' => (match Nat.beq tm'.length S.tm.length, vr'.all (fun m => Nat.blt m.1 k'), closedIds ids (forgetT keep 0 S.tm) (forgetV S.vr ids) with
          | true, true, true => some (e, ⟨tm', vr', k', tr', .loop b keep ids (forgetT keep 0 S.tm) (forgetV S.vr ids) e tm' vr' k' :: S.out⟩)
          | _, _, _ => none)
        | .unroll :: tr' => run P n true (.loop b) ⟨S.tm, S.vr, S.k, tr', .unroll :: S.out⟩
        | _ => run P n true (.loop b) S))
    | .exit id => some (.exit id, S)
    | .ret => some (.ret, S)
    | .region _ ops false => (match thaw S.k S.tr S.tm S.vr S.out with | some S1 => endRegion (seqOps P ops ops.toList S1) | none => none)
    | .region _ ops true => (match thaw S.k S.tr S.tm S.vr S.out with | some S1 => endRegion (drawnOps P ops S1) | none => none)
    | _ => none

theorem endRegion_some {r : Option St} {e : Exit} {S : St} (h : endRegion r = some (e, S)) : e = .normal ∧ r = some S := by
  unfold endRegion at h
  split at h
  · rw [forceSt_eq] at h
    injection h with h; injection h with h1 h2
    subst h1; subst h2; exact ⟨rfl, rfl⟩
  · cases h

theorem run_out {P : Program} : ∀ (n : Nat) (go : Bool) (c : Code) (S S' : St) (e : Exit), run P n go c S = some (e, S') → ∀ t ∈ S.out, t ∈ S'.out
  | 0, _, _, _, _, _, h => by cases h
  | n + 1, go, c, S, S', e, h => by
    unfold run at h
    cases c <;> (try dsimp only at h) <;> (try (cases h; done)) <;> (try (injection h with h; injection h with _ h; subst h; exact fun t ht => ht))
    case seq x y =>
      split at h
      · rename_i S1 h1
        exact fun t ht => run_out n false y S1 S' e h t (run_out n false x S S1 _ h1 t ht)
      · exact run_out n false x S S' e h
    case cond c x y =>
      split at h
      · exact run_out n false x S S' e h
      · exact run_out n false y S S' e h
      · cases h
    case block id b =>
      split at h
      · rename_i id' S1 h1
        have := run_out n false b S S1 _ h1
        split at h <;> (injection h with h; injection h with _ h; subst h; exact this)
      · exact run_out n false b S S' e h
    case loop b =>
      split at h
      · split at h
        · rename_i S1 h1
          exact fun t ht => run_out n true (.loop b) S1 S' e h t (run_out n false b S S1 _ h1 t ht)
        · exact run_out n false b S S' e h
      · split at h
        · split at h
          · injection h with h; injection h with _ h; subst h; exact fun t ht => List.mem_cons_of_mem _ ht
          · cases h
        · exact fun t ht => run_out n true (.loop b) _ S' e h t (List.mem_cons_of_mem _ ht)
        · exact run_out n true (.loop b) S S' e h
    case region id ops d =>
      cases d with
      | false =>
        dsimp only at h
        split at h
        · rename_i S1 h1
          exact fun t ht => seqOps_sound.seqOut _ _ _ (endRegion_some h).2 t (thaw_out h1 t ht)
        · cases h
      | true =>
        dsimp only at h
        split at h
        · rename_i S1 h1
          exact fun t ht => drawnOps_out (endRegion_some h).2 t (thaw_out h1 t ht)
        · cases h
theorem all_fresh {vr : List (Nat × VarSt)} {k : Nat} (h : (vr.all fun m => Nat.blt m.1 k) = true) : ∀ x, k ≤ x → look vr x = none := fun x hx => by
  induction vr with
  | nil => rfl
  | cons m l ih =>
    obtain ⟨y, s⟩ := m
    rw [List.all_cons, Bool.and_eq_true] at h
    unfold look
    have hy : y < k := Nat.le_of_ble_eq_true h.1
    rw [show Nat.beq y x = false by rw [Bool.eq_false_iff]; intro e; have := Nat.eq_of_beq_eq_true e; omega]
    exact ih h.2

theorem run_sound {P : Program} {G : World → Prop} {w0 : Base} (hG : ∀ {w w' : World}, Below w.heap.size w w' → G w → G w') (hm : P.follows .mixedOrders = true) :
    ∀ (n : Nat), (∀ (c : Code) (S S' : St) (e : Exit), run P n false c S = some (e, S') → (∀ t ∈ S'.out, TrOk P G t) → ∀ (Q : Exit → Act → World → Prop) (a : Act) (w : World), Sat w0 G S a w → (∀ a w, Sat w0 G S' a w → Q e a w) → c.wp P Q a w) ∧
      (∀ (b : Code) (S S' : St) (e : Exit), run P n true (.loop b) S = some (e, S') → (∀ t ∈ S'.out, TrOk P G t) → ∀ (Q : Exit → Act → World → Prop) (a : Act) (w : World), Sat w0 G S a w → (∀ a w, Sat w0 G S' a w → Q e a w) → Code.rounds P b Q n a w)
  | 0 => ⟨fun _ _ _ _ h => (by cases h), fun _ _ _ _ h => (by cases h)⟩
  | n + 1 => by
    obtain ⟨ih, ihl⟩ := run_sound hG hm n (w0 := w0)
    have hloop : ∀ (b : Code) (S S' : St) (e : Exit), run P (n + 1) true (.loop b) S = some (e, S') → (∀ t ∈ S'.out, TrOk P G t) → ∀ (Q : Exit → Act → World → Prop) (a : Act) (w : World), Sat w0 G S a w → (∀ a w, Sat w0 G S' a w → Q e a w) → Code.rounds P b Q (n + 1) a w := by
      intro b S S' e h hok Q a w hS hQ
      unfold run at h
      dsimp only at h
      rw [rounds_succ]
      split at h
      · rename_i S1 h1
        have hok1 : ∀ t ∈ S1.out, TrOk P G t := fun t ht => hok t (run_out n _ _ _ _ _ h t ht)
        exact ih b S S1 .normal h1 hok1 _ a w hS fun a1 w1 hS1 => ihl b S1 S' e h hok Q a1 w1 hS1 hQ
      · rename_i hnn
        refine ih b S S' e h hok _ a w hS fun a1 w1 hS1 => ?_
        have := hQ a1 w1 hS1
        cases e <;> first | exact this | exact absurd h (hnn _)
    refine ⟨fun c S S' e h hok Q a w hS hQ => ?_, hloop⟩
    cases c with
    | skip => unfold run at h; injection h with h; injection h with h1 h2; subst h1; subst h2; exact wp_skip (hQ a w hS)
    | label l => unfold run at h; injection h with h; injection h with h1 h2; subst h1; subst h2; exact wp_label (hQ a w hS)
    | exit id => unfold run at h; injection h with h; injection h with h1 h2; subst h1; subst h2; exact wp_exit (hQ a w hS)
    | ret => unfold run at h; injection h with h; injection h with h1 h2; subst h1; subst h2; exact wp_ret (hQ a w hS)
    | seq x y =>
      unfold run at h
      dsimp only at h
      split at h
      · rename_i S1 h1
        have hok1 : ∀ t ∈ S1.out, TrOk P G t := fun t ht => hok t (run_out n _ _ _ _ _ h t ht)
        exact wp_seq (ih x S S1 .normal h1 hok1 _ a w hS fun a1 w1 hS1 => ih y S1 S' e h hok Q a1 w1 hS1 hQ)
      · rename_i hnn
        refine wp_seq (ih x S S' e h hok _ a w hS fun a1 w1 hS1 => ?_)
        have := hQ a1 w1 hS1
        cases e <;> first | exact this | exact absurd h (hnn _)
    | cond c x y =>
      unfold run at h
      dsimp only at h
      obtain ⟨⟨β, W, hR⟩, _⟩ := id hS
      have hev := hR.eval c
      split at h
      · rename_i he
        rw [he] at hev
        exact wp_cond_true hev (ih x S S' e h hok Q a w hS hQ)
      · rename_i he
        rw [he] at hev
        exact wp_cond_false hev (ih y S S' e h hok Q a w hS hQ)
      · cases h
    | block id b =>
      unfold run at h
      dsimp only at h
      split at h
      · rename_i id' S1 h1
        split at h
        · rename_i hb
          injection h with h; injection h with e1 e2; subst e1; subst e2
          refine wp_block (ih b S S1 _ h1 hok _ a w hS fun a1 w1 hS1 => ?_)
          show if id' = id then _ else _
          rw [if_pos (Nat.eq_of_beq_eq_true hb)]
          exact hQ a1 w1 hS1
        · rename_i hb
          injection h with h; injection h with e1 e2; subst e1; subst e2
          refine wp_block (ih b S S1 _ h1 hok _ a w hS fun a1 w1 hS1 => ?_)
          show if id' = id then _ else _
          rw [if_neg (by rintro rfl; rw [Nat.beq_refl] at hb; cases hb)]
          exact hQ a1 w1 hS1
      · rename_i hnn
        refine wp_block (ih b S S' e h hok _ a w hS fun a1 w1 hS1 => ?_)
        have := hQ a1 w1 hS1
        cases e <;> first | exact this | exact absurd h (hnn _ _)
    | loop b =>
      unfold run at h
      dsimp only at h
      split at h
      · rename_i b' keep ids tm vr e' tm' vr' k' tr' htr
        split at h
        · rename_i hl hall hcl
          injection h with h; injection h with e1 e2; subst e1; subst e2
          exact hok _ (List.mem_cons_self ..) w0 Q a w (hS.1.forget keep ids hcl) fun a1 w1 h1 => hQ a1 w1 ⟨h1, all_fresh hall⟩
        · cases h
      · exact wp_loop_rounds n (ihl b _ S' e h hok Q a w hS hQ)
      · exact wp_loop_rounds n (ihl b S S' e h hok Q a w hS hQ)
    | region id ops d =>
      unfold run at h
      cases d with
      | false =>
        dsimp only at h
        split at h
        · rename_i S1 hth
          obtain ⟨rfl, h1⟩ := endRegion_some h
          have hok1 : ∀ t ∈ S1.out, TrOk P G t := fun t ht => hok t (seqOps_sound.seqOut _ _ _ h1 t ht)
          exact wp_region_list (seqOps_sound hG _ S1 S' a w h1 hok (thaw_sound hth hok1 hS) hQ).1
        · cases h
      | true =>
        dsimp only at h
        split at h
        · rename_i S1 hth
          obtain ⟨rfl, h1⟩ := endRegion_some h
          have hok1 : ∀ t ∈ S1.out, TrOk P G t := fun t ht => hok t (drawnOps_out h1 t ht)
          exact drawnOps_sound hG hm h1 hok (thaw_sound hth hok1 hS) hQ
        · cases h
    | rangeFunc f ps as b => unfold run at h; cases h
    | scope b => unfold run at h; cases h
    | goto l => unfold run at h; cases h
    | refuse s => unfold run at h; cases h
end Go.Proofs.YtnncfbmddpijcaaGreatDoor.AM

/- A whole function: its contract, from what the machine comes to. -/
namespace Go.Proofs.YtnncfbmddpijcaaGreatDoor.AM
open Go Go.RowKit

def resOne (P : Program) (S : St) : ResultVar → Option Sv
  | .tmp t => svOf (tmF S.tm t)
  | .cell a t =>
    match tmF S.tm a with
    | .one (.cel (.ptr x off)) =>
      (match look S.vr x with
      | some s => (match notGro s with | false => none | true => match pureSem P (isAgg t), pureSem P (sizeOf t) with
        | some true, some n => if off + n ≤ s.cs.length then some (.agg ((s.cs.drop off).take n)) else none
        | some false, some _ => (match s.cs[off]? with | some c => some (.cel c) | none => none)
        | _, _ => none)
      | none => none)
    | _ => none
def resAll (P : Program) (S : St) : List ResultVar → Option (List Sv)
  | [] => some []
  | r :: l => match resOne P S r, resAll P S l with | some s, some l' => some (s :: l') | _, _ => none
def resA (l : List Sv) : Av := match l with | [s] => .one s | l => .tup l
def foreign (mem : List (Nat × VarSt)) : List (Nat × VarSt) := mem.map fun m => (m.1, ⟨m.2.t, m.2.cs, false, m.2.sy⟩)
def startSt (fn : Func) (args : List Sv) (mem : List (Nat × VarSt)) (k0 : Nat) (tr : List Tr) : St :=
  ⟨args.map .one ++ List.replicate (fn.ntmps - args.length) undefA, foreign mem, k0, tr, []⟩
def closed (args : List Sv) (mem : List (Nat × VarSt)) (k0 : Nat) : Bool :=
  inAll (mem.map (·.1)) (args.flatMap varsS) && mem.all fun m => Nat.blt m.1 k0 && inAll (mem.map (·.1)) (varsV m.2) && notGro m.2
/-- What a function answers, and what was asked on the way (the last first). -/
def endFn (P : Program) (fn : Func) (S : St) : Option (Av × List Tr) :=
  match thaw S.k S.tr S.tm S.vr S.out with
  | some S1 => (match resAll P S1 fn.results.toList with | some l => (match varsA (resA l) with | [] => some (resA l, S1.out) | _ => none) | none => none)
  | none => none
def runFn (P : Program) (n : Nat) (fn : Func) (c : Code) (args : List Sv) (mem : List (Nat × VarSt)) (k0 : Nat) (tr : List Tr) : Option (Av × List Tr) :=
  match closed args mem k0 with
  | true => (match run P n false c (startSt fn args mem k0 tr) with
    | some (.ret, S) => endFn P fn S
    | some (.normal, S) => endFn P fn S
    | _ => none)
  | false => none

/-- A function that hands back its row x. -/
def endFnO (P : Program) (fn : Func) (x : Nat) (S : St) : Option (Av × VarSt × List Tr) :=
  match thaw S.k S.tr S.tm S.vr S.out with
  | some S1 => (match resAll P S1 fn.results.toList, look S1.vr x with
    | some l, some s => (match inAll [x] (varsA (resA l)), s.own, varsV s, growsA (resA l), notGro s with | true, true, [], [], true => some (renA 0 (resA l), s, S1.out) | _, _, _, _, _ => none)
    | _, _ => none)
  | none => none
def runFnO (P : Program) (n : Nat) (fn : Func) (c : Code) (args : List Sv) (mem : List (Nat × VarSt)) (k0 : Nat) (tr : List Tr) (x : Nat) : Option (Av × VarSt × List Tr) :=
  match closed args mem k0 with
  | true => (match run P n false c (startSt fn args mem k0 tr) with
    | some (.ret, S) => endFnO P fn x S
    | some (.normal, S) => endFnO P fn x S
    | _ => none)
  | false => none

def idxN : List Nat → Nat → Nat
  | [], _ => 0
  | y :: l, x => match Nat.beq y x with | true => 0 | false => idxN l x + 1
def nodupN : List Nat → Bool
  | [] => true
  | x :: l => match memN x l with | true => false | false => nodupN l
/-- What is known of several variables, if they are the caller's to write. -/
def statesOf (vr : List (Nat × VarSt)) (all : List Nat) : List Nat → Option (List VarSt)
  | [] => some []
  | x :: l => match look vr x, statesOf vr all l with
    | some s, some r => (match s.own, notGro s, inAll all (varsV s) with | true, true, true => some (s :: r) | _, _, _ => none)
    | _, _ => none
/-- A function that hands back several rows. -/
def endFnM (P : Program) (fn : Func) (xs : List Nat) (S : St) : Option (Av × List VarSt × List Tr) :=
  match thaw S.k S.tr S.tm S.vr S.out with
  | some S1 => (match resAll P S1 fn.results.toList, statesOf S1.vr xs xs with
    | some l, some ss => (match inAll xs (varsA (resA l)), growsA (resA l), nodupN xs with | true, [], true => some (mapA (idxN xs) (resA l), ss.map (mapW (idxN xs)), S1.out) | _, _, _ => none)
    | _, _ => none)
  | none => none
def runFnM (P : Program) (n : Nat) (fn : Func) (c : Code) (args : List Sv) (mem : List (Nat × VarSt)) (k0 : Nat) (tr : List Tr) (xs : List Nat) : Option (Av × List VarSt × List Tr) :=
  match closed args mem k0 with
  | true => (match run P n false c (startSt fn args mem k0 tr) with
    | some (.ret, S) => endFnM P fn xs S
    | some (.normal, S) => endFnM P fn xs S
    | _ => none)
  | false => none

section
variable {P : Program} {G : World → Prop} {β β' : Nat → Option Nat} {W W' w : World}
theorem mapM_run {α γ : Type} {f : α → Sem γ} {w : World} : ∀ {l : List α} {r : List γ}, All2 (fun x y => (f x).run P w = .ok y w) l r → (l.mapM f).run P w = .ok r w
  | [], [], _ => rfl
  | x :: l, y :: r, h => by
    rw [List.mapM_cons, Sem.run_bind, h.1, Result.andThen_ok, Sem.run_bind, mapM_run h.2, Result.andThen_ok]; rfl
def tupV (vs : List Value) : Value := match vs with | [v] => v | vs => .tuple vs.toArray
theorem results_run {fn : Func} {tmps : Array Value} {vs : List Value} {w : World} (h : All2 (fun r v => (match r with | .tmp t => pure (tmps.getD t undef) | .cell a t => do loadVar t (← asAddr (tmps.getD a undef)) : Sem Value).run P w = .ok v w) fn.results.toList vs) :
    (results fn tmps).run P w = .ok (tupV vs) w := by
  unfold results
  rw [Sem.run_bind]
  have e : (fn.results.mapM fun r => (match r with | .tmp t => pure (tmps.getD t undef) | .cell a t => do loadVar t (← asAddr (tmps.getD a undef)) : Sem Value)).run P w = .ok vs.toArray w := by
    rw [Array.mapM_eq_mapM_toList, Sem.run_map, mapM_run h, Result.andThen_ok]
  refine (congrArg (fun r => Result.andThen r _) e).trans ?_
  rw [Result.andThen_ok]
  match vs with
  | [] => rfl
  | [v] => rfl
  | _ :: _ :: _ => simp [tupV]

theorem resAll_rel {w0 : Base} {S : St} {a : Act} {w : World} {N : Nat} (h : Rep w0 G N β W (tmF S.tm) (look S.vr) a w) : ∀ {rs : List ResultVar} {l : List Sv}, resAll P S rs = some l →
    ∃ vs, All2 (fun r v => (match r with | .tmp t => pure (a.tmps.getD t undef) | .cell c t => do loadVar t (← asAddr (a.tmps.getD c undef)) : Sem Value).run P w = .ok v w) rs vs ∧ All2 (RelS β W) vs l
  | [], l, hr => by injection hr with hr; subst hr; exact ⟨[], trivial, trivial⟩
  | r :: rs, l, hr => by
    unfold resAll at hr
    split at hr
    · rename_i s l' h1 h2
      injection hr with hr; subst hr
      obtain ⟨vs, hv1, hv2⟩ := resAll_rel h h2
      have key : ∃ v, (match r with | .tmp t => pure (a.tmps.getD t undef) | .cell c t => do loadVar t (← asAddr (a.tmps.getD c undef)) : Sem Value).run P w = .ok v w ∧ RelS β W v s := by
        unfold resOne at h1
        split at h1
        · rename_i t
          have ht := h.tmp t
          rw [svOf_some h1] at ht
          exact ⟨_, rfl, ht⟩
        · rename_i c t
          split at h1
          · rename_i x off hx
            have hc := h.tmp c
            rw [hx] at hc
            obtain ⟨g, hg, hptr⟩ := hc
            split at h1
            · rename_i vs' hs
              split at h1
              · cases h1
              rename_i hng
              obtain ⟨g', cs, b1, b2, b3, b4, _⟩ := h.var x vs' hs (notGro_spec hng)
              obtain rfl : g = g' := by rw [hg] at b1; injection b1
              have hlen := b4.length
              split at h1
              · rename_i n hA hS
                split at h1
                · rename_i hle
                  injection h1 with h1; subst h1
                  have hld := run_loadCells_list (P := P) w ⟨g, off, none⟩ ((cs.toList.drop off).take n) (fun j v hj => by
                    rw [add_at, Lib.cell_of_heap b3]
                    rw [List.getElem?_take] at hj
                    split at hj
                    · rw [List.getElem?_drop] at hj; simpa using hj
                    · cases hj)
                  have hn : ((cs.toList.drop off).take n).length = n := by simp at hlen ⊢; omega
                  rw [hn] at hld
                  refine ⟨.agg ((cs.toList.drop off).take n).toArray, ?_, _, rfl, (b4.drop off).take n⟩
                  try dsimp only
                  rw [hptr]
                  simp [asAddr, loadVar, pureSem_run hA w, pureSem_run hS w, hld]
                · cases h1
              · rename_i n hA hS
                split at h1
                · rename_i c' hc'
                  injection h1 with h1; subst h1
                  obtain ⟨u, hu, hr⟩ := b4.get hc'
                  have hcell : w.cell? ⟨g, off, none⟩ = some u := by rw [Lib.cell_of_heap b3]; simpa using hu
                  refine ⟨u, ?_, hr⟩
                  try dsimp only
                  rw [hptr]
                  simp [asAddr, loadVar, pureSem_run hA w, hcell]
                · cases h1
              · cases h1
            · cases h1
          · cases h1
      obtain ⟨v, hv, hs⟩ := key
      exact ⟨v :: vs, ⟨hv, hv1⟩, hs, hv2⟩
    · cases hr

theorem resA_rel {vs : List Value} {l : List Sv} (h : All2 (RelS β W) vs l) : RelA β W (tupV vs) (resA l) := by
  match vs, l, h with
  | [], [], h => exact ⟨[], rfl, h⟩
  | [v], [s], h => exact h.1
  | _ :: _ :: _, _ :: _ :: _, h => exact ⟨_, rfl, h⟩

theorem start_rep {fn : Func} {args : List Sv} {mem : List (Nat × VarSt)} {k0 : Nat} {vals : List Value} (hcl : closed args mem k0 = true) (hs : W.heap.size = w.heap.size) (he : Ext W w) (hu : U32 W w) (hG : G w)
    (ha : All2 (RelS β W) vals args) (hm : MemOk β W w mem) (tr : List Tr) :
    Sat ⟨w, W⟩ G (startSt fn args mem k0 tr) { tmps := vals.toArray ++ Array.replicate (fn.ntmps - vals.toArray.size) undef, defers := [] } w := by
  unfold closed at hcl
  rw [Bool.and_eq_true] at hcl
  have hin := inAll_spec hcl.1
  have hmem3 : ∀ m ∈ mem, (m.1 < k0 ∧ ∀ x ∈ m.2.cs.flatMap varsC, x ∈ mem.map (·.1)) ∧ groOf m.2 = none := fun m hmm => by
    have := List.all_eq_true.1 hcl.2 m hmm
    rw [Bool.and_eq_true, Bool.and_eq_true] at this
    exact ⟨⟨Nat.le_of_ble_eq_true this.1.1, fun x hx => inAll_spec this.1.2 x (varsV_spec hx)⟩, notGro_spec this.2⟩
  have hmem : ∀ m ∈ mem, m.1 < k0 ∧ ∀ x ∈ m.2.cs.flatMap varsC, x ∈ mem.map (·.1) := fun m hmm => (hmem3 m hmm).1
  have hnog : ∀ x s, look (startSt fn args mem k0 tr).vr x = some s → groOf s = none := fun x s hx => by
    have := look_mem hx
    unfold startSt foreign at this
    dsimp only at this
    obtain ⟨m, hm1, hm2⟩ := List.mem_map.1 this
    injection hm2 with h1 h2
    subst h2
    have h3 := (hmem3 m hm1).2
    obtain ⟨mk, ⟨mt, mc, mo, ms⟩⟩ := m
    cases ms <;> first | rfl | cases h3
  have hlen := ha.length
  have hids : (foreign mem).map (·.1) = mem.map (·.1) := by unfold foreign; rw [List.map_map]; rfl
  have hβ : ∀ x, x ∈ mem.map (·.1) → (fun x => if memN x (mem.map (·.1)) = true then β x else none) x = β x := fun x hx => if_pos (memN_iff.2 hx)
  refine ⟨⟨fun x => if memN x (mem.map (·.1)) = true then β x else none, W, ?_⟩, fun x hx => ?_⟩
  · refine ⟨rfl, by simp [startSt, hlen], fun t => ?_, Below.refl _ _, fun _ _ _ h => h, hs, he, hu, hG, fun x y g hx _ hg => ?_, fun x s hx _ => ?_, fun x g hx => ?_, fun x s n es hx hg => (by rw [hnog x s hx] at hg; cases hg), fun x s _ _ _ _ hx hs => absurd (hnog x s hx) hs⟩
    · have h1 : All2 (RelS (fun x => if memN x (mem.map (·.1)) = true then β x else none) W) vals args := all2S_restrict (fun x hx => hβ x (hin x hx)) (fun _ _ h => h) (fun _ _ _ _ _ _ h => h) ha
      have h2 : All2 (RelA (fun x => if memN x (mem.map (·.1)) = true then β x else none) W) (vals ++ List.replicate (fn.ntmps - args.length) undef) (args.map Av.one ++ List.replicate (fn.ntmps - args.length) undefA) := by
        refine All2.append (All2.mapR (R := RelA _ W) Av.one h1) ?_
        have : ∀ n, All2 (RelA (fun x => if memN x (mem.map (·.1)) = true then β x else none) W) (List.replicate n undef) (List.replicate n undefA) := fun n => by
          induction n with
          | zero => trivial
          | succ n ih => rw [List.replicate_succ, List.replicate_succ]; exact ⟨rfl, ih⟩
        exact this _
      have e : (vals.toArray ++ Array.replicate (fn.ntmps - vals.toArray.size) undef) = (vals ++ List.replicate (fn.ntmps - args.length) undef).toArray := by
        rw [← hlen]; apply Array.ext'; simp
      try dsimp only
      rw [e]
      show RelA _ W _ (tmF (args.map Av.one ++ List.replicate (fn.ntmps - args.length) undefA) t)
      generalize args.map Av.one ++ List.replicate (fn.ntmps - args.length) undefA = L at h2
      generalize vals ++ List.replicate (fn.ntmps - args.length) undef = V at h2
      unfold tmF
      rw [List.getD_eq_getElem?_getD]
      cases hL : L[t]? with
      | some av =>
        obtain ⟨v, hv, hr⟩ := h2.get hL
        rw [Array.getD_eq_getD_getElem?]
        simp only [List.getElem?_toArray, hv]
        exact hr
      | none =>
        have hV : V[t]? = none := by
          rw [List.getElem?_eq_none_iff] at hL ⊢
          rw [h2.length]; exact hL
        rw [Array.getD_eq_getD_getElem?]
        simp only [List.getElem?_toArray, hV]
        exact rfl
    · exfalso
      try dsimp only at hx
      split at hx
      · rename_i hmm
        obtain ⟨m, hm1, hm2⟩ := List.mem_map.1 (memN_iff.1 hmm)
        obtain ⟨g', cs, b1, b2, _⟩ := hm m hm1
        rw [← hm2, b1] at hx
        injection hx with hx; subst hx
        exact absurd b2 (Nat.not_lt.2 hg)
      · cases hx
    · have := look_mem hx
      unfold startSt foreign at this
      dsimp only at this
      obtain ⟨m, hm1, hm2⟩ := List.mem_map.1 this
      injection hm2 with h1 h2
      subst h1; subst h2
      obtain ⟨g, cs, b1, b2, b3, b4⟩ := hm m hm1
      refine ⟨g, cs, (hβ m.1 (List.mem_map.2 ⟨m, hm1, rfl⟩)).trans b1, b2, b3, all2_restrict (fun x hx => hβ x ((hmem m hm1).2 x hx)) (fun _ _ h => h) (fun _ _ _ _ _ _ h => h) b4, fun h => by cases h⟩
    · try dsimp only at hx
      split at hx
      · rename_i hmm
        have hmm' := memN_iff.1 hmm
        refine ⟨look_some (by unfold startSt; dsimp only; rw [hids]; exact hmm'), ?_⟩
        obtain ⟨m, hm1, hm2⟩ := List.mem_map.1 hmm'
        obtain ⟨g', cs, b1, b2, _⟩ := hm m hm1
        rw [← hm2, b1] at hx
        injection hx with hx; subst hx
        exact b2
      · cases hx
  · cases hl : look (startSt fn args mem k0 tr).vr x with
    | none => rfl
    | some s =>
      exfalso
      have := look_mem hl
      unfold startSt foreign at this
      dsimp only at this
      obtain ⟨m, hm1, hm2⟩ := List.mem_map.1 this
      injection hm2 with h1 _
      have := (hmem m hm1).1
      subst h1
      have hx' : k0 ≤ m.1 := hx
      omega

theorem fits_of_run (hG : ∀ {w w' : World}, Below w.heap.size w w' → G w → G w') (hmix : P.follows .mixedOrders = true) {f : FuncId} {fn : Func} {c : Code} {n k0 : Nat} {args : List Sv} {mem : List (Nat × VarSt)} {res : Av} {tr out : List Tr}
    (hf : P.funcs[f]? = some fn) (hn : (fn.name == "runtime.NumGoroutine") = false) (hb : fn.body = some c) (h : runFn P n fn c args mem k0 tr = some (res, out)) (hok : ∀ t ∈ out, TrOk P G t) : Fits P G f args mem res := by
  refine ⟨⟨fn, hf, hn, by rw [hb]; rfl⟩, fun β W w vals hs he hu hg ha hm => ?_⟩
  unfold runFn at h
  split at h
  · rename_i hcl
    have hstart := start_rep (fn := fn) hcl hs he hu hg ha hm tr
    have key : ∀ (e : Exit) (S : St), run P n false c (startSt fn args mem k0 tr) = some (e, S) → (e = .ret ∨ e = .normal) →
        endFn P fn S = some (res, out) →
        Calls P f vals.toArray w fun e w' => ∃ v, e = .returned v ∧ RelA β (patch W w') v res ∧ Below w.heap.size w w' := by
      intro e S hrun hex hres
      unfold endFn at hres
      split at hres
      case h_2 => cases hres
      rename_i S1 hth
      split at hres
      · rename_i l hl
        split at hres
        · rename_i hvars
          injection hres with hres; injection hres with h1 h2
          subst h1; subst h2
          refine calls_of_wp hf hb ?_
          refine ((run_sound (w0 := ⟨w, W⟩) hG hmix n).1 c _ S e hrun (fun t ht => hok t (thaw_out hth t ht)) _ _ w hstart fun a' w' hS' => ?_)
          obtain ⟨⟨β', W', hR⟩, _⟩ := thaw_sound hth hok hS'
          obtain ⟨vs, hv1, hv2⟩ := resAll_rel hR hl
          have hrel := resA_rel hv2
          have hext : Ext W' (patch W w') := fun p u hp => by
            rw [patch_cell]
            split
            · rename_i hlt
              exact hR.old p u (by rw [hs] at hlt; exact hlt) hp
            · exact hR.ext p u hp
          have hfin : RelA β (patch W w') (tupV vs) (resA l) :=
            relA_restrict (fun x hx => absurd hx (by rw [hvars]; simp)) (fun e v hh => e.mono hext (by rw [hR.size, patch_size (by rw [hs]; exact hR.below.size)]; exact Nat.le_refl _) hh) (fun x hx => absurd (growsA_sub hx) (by rw [hvars]; simp)) hrel
          have hpost : a'.defers = [] ∧ ∃ v, (results fn a'.tmps).run P w' = .ok v w' ∧ ∃ u, Ending.returned v = .returned u ∧ RelA β (patch W w') u (resA l) ∧ Below w.heap.size w w' :=
            ⟨hR.defers, _, results_run hv1, _, rfl, hfin, hR.below⟩
          rcases hex with rfl | rfl <;> exact hpost
        · cases hres
      · cases hres
    split at h
    · rename_i S hr; exact key _ S hr (.inl rfl) h
    · rename_i S hr; exact key _ S hr (.inr rfl) h
    · cases h
  · cases h
theorem fitsO_of_run (hG : ∀ {w w' : World}, Below w.heap.size w w' → G w → G w') (hmix : P.follows .mixedOrders = true) {f : FuncId} {fn : Func} {c : Code} {n k0 x : Nat} {args : List Sv} {mem : List (Nat × VarSt)} {res : Av} {s : VarSt} {tr out : List Tr}
    (hf : P.funcs[f]? = some fn) (hn : (fn.name == "runtime.NumGoroutine") = false) (hb : fn.body = some c) (h : runFnO P n fn c args mem k0 tr x = some (res, s, out)) (hok : ∀ t ∈ out, TrOk P G t) : FitsO P G f args mem res s := by
  unfold runFnO at h
  split at h
  case h_2 => cases h
  rename_i hcl
  have main : ∃ (e : Exit) (S : St), run P n false c (startSt fn args mem k0 tr) = some (e, S) ∧ (e = .ret ∨ e = .normal) ∧ endFnO P fn x S = some (res, s, out) := by
    split at h
    · rename_i S hr; exact ⟨_, S, hr, .inl rfl, h⟩
    · rename_i S hr; exact ⟨_, S, hr, .inr rfl, h⟩
    · cases h
  obtain ⟨e, S, hrun, hex, hres⟩ := main
  unfold endFnO at hres
  split at hres
  case h_2 => cases hres
  rename_i S1 hth
  split at hres
  case h_2 => cases hres
  rename_i l st hl hlook
  split at hres
  case h_2 => cases hres
  rename_i hin hown hvar hgrw hng
  injection hres with hres; injection hres with h1 h2; injection h2 with h2 h3
  subst h1; subst h2; subst h3
  refine ⟨⟨fn, hf, hn, by rw [hb]; rfl⟩, hown, fun β W w vals hs he hu hg ha hm => ?_⟩
  have hstart := start_rep (fn := fn) hcl hs he hu hg ha hm tr
  refine calls_of_wp hf hb ?_
  refine ((run_sound (w0 := ⟨w, W⟩) hG hmix n).1 c _ S e hrun (fun t ht => hok t (thaw_out hth t ht)) _ _ w hstart fun a' w' hS' => ?_)
  obtain ⟨⟨β', W', hR⟩, _⟩ := thaw_sound hth hok hS'
  obtain ⟨vs, hv1, hv2⟩ := resAll_rel hR hl
  have hrel := resA_rel hv2
  obtain ⟨g, cells, b1, b2, b3, b4, b5⟩ := hR.var x st hlook (notGro_spec hng)
  obtain ⟨a1, a2, a3⟩ := b5 hown
  have hext : Ext W' (bare (patch W w') g st.t) := fun p u hp => by
    have hne : p.block ≠ g := fun e => a2 p u e hp
    rw [bare_cell, if_neg hne, patch_cell]
    split
    · rename_i hlt
      exact hR.old p u (by rw [hs] at hlt; exact hlt) hp
    · exact hR.ext p u hp
  have hsz : W'.heap.size ≤ (bare (patch W w') g st.t).heap.size := by
    rw [bare_size, hR.size, patch_size (by rw [hs]; exact hR.below.size)]; exact Nat.le_refl _
  have hmid : RelA (only x g) (bare (patch W w') g st.t) (tupV vs) (resA l) :=
    relA_restrict (fun y hy => by
      have := inAll_spec hin y hy
      simp at this; subst this
      rw [b1]; unfold only; rw [if_pos rfl]) (fun e v hh => e.mono hext hsz hh) (fun y hy => by rw [hgrw] at hy; cases hy) hrel
  have hfin : RelA (only 0 g) (bare (patch W w') g st.t) (tupV vs) (renA 0 (resA l)) := renA_rel (if_pos rfl) hmid
  have hcl2 : ∀ c ∈ st.cs, varsC c = [] := fun c hc => by
    cases hvc : varsC c with
    | nil => rfl
    | cons y ys =>
      have : y ∈ varsV st := varsV_spec (List.mem_flatMap.2 ⟨c, hc, by rw [hvc]; exact List.mem_cons_self ..⟩)
      rw [hvar] at this; cases this
  have hcells : ∀ (us : List Value) (cs : List Cv), (∀ c ∈ cs, varsC c = []) → All2 (RelC β' W') us cs → All2 (HoldsC (bare (patch W w') g st.t)) us cs := by
    intro us
    induction us with
    | nil => intro cs _ h; cases cs with | nil => trivial | cons => exact h.elim
    | cons u us ih =>
      intro cs hc h
      cases cs with
      | nil => exact h.elim
      | cons c cs => exact ⟨(h.1.shut (hc c (List.mem_cons_self ..))).mono hext hsz, ih cs (fun c h => hc c (List.mem_cons_of_mem _ h)) h.2⟩
  have hpost : a'.defers = [] ∧ ∃ v, (results fn a'.tmps).run P w' = .ok v w' ∧ ∃ u g cs, Ending.returned v = .returned u ∧ RelA (only 0 g) (bare (patch W w') g st.t) u (renA 0 (resA l)) ∧ Below w.heap.size w w' ∧ w.heap.size ≤ g ∧ g < w'.heap.size ∧
      w'.heap[g]? = some (.cells cs st.t (0, 0)) ∧ All2 (HoldsC (bare (patch W w') g st.t)) cs.toList st.cs ∧ ∀ c ∈ cs.toList, okCell c = true :=
    ⟨hR.defers, _, results_run hv1, _, g, cells, rfl, hfin, hR.below, a1, b2, b3, hcells _ _ hcl2 b4, a3⟩
  rcases hex with rfl | rfl <;> exact hpost
theorem idxN_get : ∀ {xs : List Nat} {x : Nat}, x ∈ xs → xs[idxN xs x]? = some x
  | [], x, h => by cases h
  | y :: l, x, h => by
    unfold idxN
    split
    · rename_i hb; simp [Nat.eq_of_beq_eq_true hb]
    · rename_i hb
      rcases List.mem_cons.1 h with e | h
      · subst e; rw [Nat.beq_refl] at hb; cases hb
      · simpa using idxN_get h
theorem nodupN_spec : ∀ {xs : List Nat}, nodupN xs = true → xs.Nodup
  | [], _ => List.nodup_nil
  | x :: l, h => by
    unfold nodupN at h
    split at h
    · cases h
    · rename_i hm
      exact List.nodup_cons.2 ⟨fun hx => (by rw [memN_iff.2 hx] at hm; cases hm), nodupN_spec h⟩
theorem statesOf_spec {vr : List (Nat × VarSt)} {all : List Nat} : ∀ {xs : List Nat} {ss : List VarSt}, statesOf vr all xs = some ss → All2 (fun x s => look vr x = some s ∧ s.own = true ∧ groOf s = none ∧ ∀ y ∈ varsV s, y ∈ all) xs ss
  | [], ss, h => by injection h with h; subst h; trivial
  | x :: l, ss, h => by
    unfold statesOf at h
    split at h
    · rename_i s r hs hr
      split at h
      · rename_i h1 h2 h3
        injection h with h; subst h
        exact ⟨⟨hs, h1, notGro_spec h2, inAll_spec h3⟩, statesOf_spec hr⟩
      · cases h
    · cases h
theorem fitsM_of_run (hG : ∀ {w w' : World}, Below w.heap.size w w' → G w → G w') (hmix : P.follows .mixedOrders = true) {f : FuncId} {fn : Func} {c : Code} {n k0 : Nat} {xs : List Nat} {args : List Sv} {mem : List (Nat × VarSt)} {res : Av} {ss : List VarSt} {tr out : List Tr}
    (hf : P.funcs[f]? = some fn) (hn : (fn.name == "runtime.NumGoroutine") = false) (hb : fn.body = some c) (h : runFnM P n fn c args mem k0 tr xs = some (res, ss, out)) (hok : ∀ t ∈ out, TrOk P G t) : FitsM P G f args mem res ss := by
  unfold runFnM at h
  split at h
  case h_2 => cases h
  rename_i hcl
  have main : ∃ (e : Exit) (S : St), run P n false c (startSt fn args mem k0 tr) = some (e, S) ∧ (e = .ret ∨ e = .normal) ∧ endFnM P fn xs S = some (res, ss, out) := by
    split at h
    · rename_i S hr; exact ⟨_, S, hr, .inl rfl, h⟩
    · rename_i S hr; exact ⟨_, S, hr, .inr rfl, h⟩
    · cases h
  obtain ⟨e, S, hrun, hex, hres⟩ := main
  unfold endFnM at hres
  split at hres
  case h_2 => cases hres
  rename_i S1 hth
  split at hres
  case h_2 => cases hres
  rename_i l st hl hst
  split at hres
  case h_2 => cases hres
  rename_i hin hgrw hnd
  injection hres with hres; injection hres with h1 h2; injection h2 with h2 h3
  subst h1; subst h2; subst h3
  have hsts := statesOf_spec hst
  have hown : ∀ s ∈ st.map (mapW (idxN xs)), s.own = true ∧ groOf s = none := fun s hs => by
    obtain ⟨s0, h1, rfl⟩ := List.mem_map.1 hs
    obtain ⟨i, hi⟩ := List.getElem?_of_mem h1
    obtain ⟨x, _, _, h2, h3, _⟩ := hsts.get hi
    rw [mapW_own, mapW_gro]; exact ⟨h2, h3⟩
  refine ⟨⟨fn, hf, hn, by rw [hb]; rfl⟩, hown, fun β W w vals hs he hu hg ha hm => ?_⟩
  have hstart := start_rep (fn := fn) hcl hs he hu hg ha hm tr
  refine calls_of_wp hf hb ?_
  refine ((run_sound (w0 := ⟨w, W⟩) hG hmix n).1 c _ S e hrun (fun t ht => hok t (thaw_out hth t ht)) _ _ w hstart fun a' w' hS' => ?_)
  obtain ⟨⟨β', W', hR⟩, _⟩ := thaw_sound hth hok hS'
  obtain ⟨vs, hv1, hv2⟩ := resAll_rel hR hl
  have hrel := resA_rel hv2
  obtain ⟨gs, hgs⟩ : ∃ gs : List Nat, All2 (fun x g => β' x = some g) xs gs := by
    have key : ∀ {ys : List Nat} {ts : List VarSt}, All2 (fun x s => look S1.vr x = some s ∧ s.own = true ∧ groOf s = none ∧ ∀ y ∈ varsV s, y ∈ xs) ys ts → ∃ gs : List Nat, All2 (fun x g => β' x = some g) ys gs := by
      intro ys
      induction ys with
      | nil => intro ts h; cases ts with | nil => exact ⟨[], trivial⟩ | cons => exact h.elim
      | cons y ys ih =>
        intro ts h
        cases ts with
        | nil => exact h.elim
        | cons t ts =>
          obtain ⟨gs, hgs⟩ := ih h.2
          obtain ⟨g, cs, b1, _⟩ := hR.var y t h.1.1 h.1.2.2.1
          exact ⟨g :: gs, b1, hgs⟩
    exact key hsts
  have hgl := hgs.length
  have hvar : ∀ (i : Nat) (s : VarSt) (g : Nat), st[i]? = some s → gs[i]? = some g → ∃ (x : Nat) (cells : Array Value), xs[i]? = some x ∧ β' x = some g ∧ g < w'.heap.size ∧ w'.heap[g]? = some (.cells cells s.t (0, 0)) ∧ All2 (RelC β' W') cells.toList s.cs ∧ w.heap.size ≤ g ∧ (∀ p u, p.block = g → W'.cell? p ≠ some u) ∧ (∀ c ∈ cells.toList, okCell c = true) ∧ ∀ y ∈ varsV s, y ∈ xs := fun i s g h1 h2 => by
    obtain ⟨x, hx, x1, x2, x3, x4⟩ := hsts.get h1
    obtain ⟨x', hx', hg'⟩ := hgs.get h2
    obtain rfl : x = x' := by rw [hx] at hx'; injection hx'
    obtain ⟨g', cells, b1, b2, b3, b4, b5⟩ := hR.var x s x1 x3
    obtain rfl : g = g' := by rw [hg'] at b1; injection b1
    obtain ⟨a1, a2, a3⟩ := b5 x2
    exact ⟨x, cells, hx, hg', b2, b3, b4, a1, a2, a3, x4⟩
  have hmemg : ∀ g ∈ gs, ∃ i s, gs[i]? = some g ∧ st[i]? = some s := fun g hg => by
    obtain ⟨i, hi⟩ := List.getElem?_of_mem hg
    have := hsts.length
    exact ⟨i, _, hi, List.getElem?_eq_getElem (by have := (List.getElem?_eq_some_iff.1 hi).1; omega)⟩
  have hext : Ext W' (hide (patch W w') gs) := fun p u hp => by
    have hne : p.block ∉ gs := fun hg9 => by
      obtain ⟨i, s, h1, h2⟩ := hmemg _ hg9
      obtain ⟨x, cells, _, _, _, _, _, _, a2, _⟩ := hvar i s _ h2 h1
      exact a2 p u rfl hp
    rw [hide_cell, if_neg hne, patch_cell]
    split
    · rename_i hlt
      exact hR.old p u (by rw [hs] at hlt; exact hlt) hp
    · exact hR.ext p u hp
  have hsz : W'.heap.size ≤ (hide (patch W w') gs).heap.size := by
    rw [hide_size, hR.size, patch_size (by rw [hs]; exact hR.below.size)]; exact Nat.le_refl _
  have hloc : ∀ x ∈ xs, ∀ g, β' x = some g → loc gs (idxN xs x) = some g := fun x hx g hg9 => by
    have h1 := idxN_get hx
    obtain ⟨g', hg'⟩ : ∃ g', gs[idxN xs x]? = some g' := ⟨_, List.getElem?_eq_getElem (by rw [← hgl]; exact (List.getElem?_eq_some_iff.1 h1).1)⟩
    obtain ⟨x', hx', hb'⟩ := hgs.get hg'
    obtain rfl : x = x' := by rw [h1] at hx'; injection hx'
    rw [hg9] at hb'; injection hb' with hb'; subst hb'
    exact hg'
  have hC : ∀ (v : Value) (c : Cv), (∀ y ∈ varsC c, y ∈ xs) → RelC β' W' v c → RelC (loc gs) (hide (patch W w') gs) v (mapC (idxN xs) c) := fun v c hy hr => by
    cases c with
    | any => trivial
    | raw u => exact hr
    | ent e => exact e.mono hext hsz hr
    | ptr x o => obtain ⟨g, h1, h2⟩ := hr; exact ⟨g, hloc x (hy x (by simp [varsC])) g h1, h2⟩
    | row x o n d => obtain ⟨g, h1, h2⟩ := hr; exact ⟨g, hloc x (hy x (by simp [varsC])) g h1, h2⟩
    | grow x n => trivial
  have hCs : ∀ (cs : List Cv) (us : List Value), (∀ y ∈ cs.flatMap varsC, y ∈ xs) → All2 (RelC β' W') us cs → All2 (RelC (loc gs) (hide (patch W w') gs)) us (cs.map (mapC (idxN xs))) := by
    intro cs
    induction cs with
    | nil => intro us _ h; cases us with | nil => trivial | cons => exact h.elim
    | cons c cs ih =>
      intro us hy h
      cases us with
      | nil => exact h.elim
      | cons u us => exact ⟨hC u c (fun y h1 => hy y (by rw [List.flatMap_cons]; exact List.mem_append_left _ h1)) h.1, ih us (fun y h1 => hy y (by rw [List.flatMap_cons]; exact List.mem_append_right _ h1)) h.2⟩
  have hS : ∀ (v : Value) (c : Sv), (∀ y ∈ varsS c, y ∈ xs) → RelS β' W' v c → RelS (loc gs) (hide (patch W w') gs) v (mapS (idxN xs) c) := fun v c hy hr => by
    cases c with
    | cel c => exact hC v c hy hr
    | agg l => obtain ⟨vs, h1, h2⟩ := hr; exact ⟨vs, h1, hCs l vs hy h2⟩
  have hSs : ∀ (cs : List Sv) (us : List Value), (∀ y ∈ cs.flatMap varsS, y ∈ xs) → All2 (RelS β' W') us cs → All2 (RelS (loc gs) (hide (patch W w') gs)) us (cs.map (mapS (idxN xs))) := by
    intro cs
    induction cs with
    | nil => intro us _ h; cases us with | nil => trivial | cons => exact h.elim
    | cons c cs ih =>
      intro us hy h
      cases us with
      | nil => exact h.elim
      | cons u us => exact ⟨hS u c (fun y h1 => hy y (by rw [List.flatMap_cons]; exact List.mem_append_left _ h1)) h.1, ih us (fun y h1 => hy y (by rw [List.flatMap_cons]; exact List.mem_append_right _ h1)) h.2⟩
  have hfin : RelA (loc gs) (hide (patch W w') gs) (tupV vs) (mapA (idxN xs) (resA l)) := by
    have hin' := inAll_spec hin
    cases hra : resA l with
    | one c => rw [hra] at hrel hin'; exact hS _ c hin' hrel
    | tup cs => rw [hra] at hrel hin'; obtain ⟨us, k1, k2⟩ := hrel; exact ⟨us, k1, hSs cs us hin' k2⟩
  have hndg : gs.Nodup := by
    have hxn := nodupN_spec hnd
    rw [List.nodup_iff_pairwise_ne, List.pairwise_iff_getElem]
    intro i j hi hj hij e9
    obtain ⟨x, hx, hbx⟩ := hgs.get (List.getElem?_eq_getElem hi)
    obtain ⟨y, hy, hby⟩ := hgs.get (List.getElem?_eq_getElem hj)
    obtain ⟨i', s', e1, e2⟩ := hmemg _ (List.getElem_mem hi)
    obtain ⟨_, _, _, _, _, _, _, a1, _⟩ := hvar i' s' _ e2 e1
    have hxy := hR.inj x y _ hbx (by rw [e9]; exact hby) a1
    subst hxy
    have k1 := List.getElem?_eq_some_iff.1 hx
    have k2 := List.getElem?_eq_some_iff.1 hy
    have := (List.getElem_inj hxn).1 (k1.2.trans k2.2.symm)
    omega
  have hpost : a'.defers = [] ∧ ∃ v, (results fn a'.tmps).run P w' = .ok v w' ∧ ∃ (u : Value) (gs : List Nat), Ending.returned v = .returned u ∧ Below w.heap.size w w' ∧ gs.length = (st.map (mapW (idxN xs))).length ∧ gs.Nodup ∧ (∀ g ∈ gs, w.heap.size ≤ g ∧ g < w'.heap.size) ∧ RelA (loc gs) (hide (patch W w') gs) u (mapA (idxN xs) (resA l)) ∧
      ∀ (i : Nat) (s : VarSt) (g : Nat), (st.map (mapW (idxN xs)))[i]? = some s → gs[i]? = some g → ∃ cs : Array Value, w'.heap[g]? = some (.cells cs s.t (0, 0)) ∧ All2 (RelC (loc gs) (hide (patch W w') gs)) cs.toList s.cs ∧ ∀ c ∈ cs.toList, okCell c = true := by
    refine ⟨hR.defers, _, results_run hv1, _, gs, rfl, hR.below, by rw [List.length_map, ← hgl, hsts.length], hndg, fun g hg9 => ?_, hfin, fun i s g h1 h2 => ?_⟩
    · obtain ⟨i, s, e1, e2⟩ := hmemg g hg9
      obtain ⟨_, _, _, _, b2, _, _, a1, _⟩ := hvar i s g e2 e1
      exact ⟨a1, b2⟩
    · rw [List.getElem?_map] at h1
      obtain ⟨s0, e1, e2⟩ := Option.map_eq_some_iff.1 h1
      subst e2
      obtain ⟨x, cells, _, _, _, b3, b4, _, _, a3, x4⟩ := hvar i s0 g e1 h2
      refine ⟨cells, by rw [mapW_t]; exact b3, ?_, a3⟩
      obtain ⟨t0, cs0, o0, sy0⟩ := s0
      have hshut : ∀ (hc : ∀ c ∈ cs0, varsC c = []), All2 (RelC (loc gs) (hide (patch W w') gs)) cells.toList cs0 := fun hc =>
        all2_restrict (β := β') (fun y hy => by obtain ⟨c, e1, e2⟩ := List.mem_flatMap.1 hy; rw [hc c e1] at e2; cases e2) (fun e v hh => e.mono hext hsz hh) (fun y hy => by obtain ⟨c, e1, e2⟩ := List.mem_flatMap.1 hy; have := growsC_sub e2; rw [hc c e1] at this; cases this) b4
      cases sy0 with
      | no => exact hCs cs0 _ (fun y hy => x4 y hy) b4
      | yes hc => exact hshut hc
      | gro n es hc => exact hshut hc
  rcases hex with rfl | rfl <;> exact hpost
/-- A row handed back, not written any more. -/
theorem FitsO.fits {f : FuncId} {args : List Sv} {mem : List (Nat × VarSt)} {res res' : Av} {s : VarSt} (h : FitsO P G f args mem res s)
    (hn : ∀ (g : Nat) (W : World) (v : Value), CellsAt W g 0 s.cs → RelA (only 0 g) W v res → RelA (fun _ => none) W v res') (hgr : growsA res = [] := by rfl) : Fits P G f args mem res' := by
  refine ⟨h.1, fun β W w vals hs he hu hg ha hm => (h.2.2 β W w vals hs he hu hg ha hm).mono ?_⟩
  rintro e w' ⟨v, g, cs, rfl, hr, hb, e1, e2, e3, e4, e5⟩
  refine ⟨v, rfl, ?_, hb⟩
  have hext : Ext (bare (patch W w') g s.t) (patch W w') := fun p u hp => by
    rw [bare_cell] at hp
    split at hp
    · cases hp
    · exact hp
  have hsz : (bare (patch W w') g s.t).heap.size ≤ (patch W w').heap.size := by rw [bare_size]; exact Nat.le_refl _
  have hat : CellsAt (patch W w') g 0 s.cs := fun i c hi => by
    obtain ⟨u, hu, hr⟩ := e4.get hi
    refine ⟨u, ?_, hr.mono hext hsz⟩
    rw [patch_cell, if_neg (by dsimp only; omega), Nat.zero_add, Lib.cell_of_heap e3]
    simpa using hu
  have := hn g _ v hat (relA_restrict (β' := only 0 g) (fun _ _ => rfl) (fun e v hh => e.mono hext hsz hh) (fun x hx => by rw [hgr] at hx; cases hx) hr)
  exact this.up ⟨fun _ _ h => (by cases h), Ext.refl _, Nat.le_refl _, cur_same fun _ _ => rfl⟩
end
end Go.Proofs.YtnncfbmddpijcaaGreatDoor.AM

/- Loops: round by round. -/
namespace Go.Proofs.YtnncfbmddpijcaaGreatDoor.AM
open Go Go.RowKit

section
variable {P : Program} {G : World → Prop}
/-- What a piece of code does, of what is said. -/
def Moves (P : Program) (G : World → Prop) (b : Code) (tm : List Av) (vr : List (Nat × VarSt)) (e : Exit) (tm' : List Av) (vr' : List (Nat × VarSt)) : Prop :=
  ∀ (w0 : Base) (Q : Exit → Act → World → Prop) (a : Act) (w : World), Is w0 G tm vr a w → (∀ a w, Is w0 G tm' vr' a w → Q e a w) → b.wp P Q a w
/-- A piece of code run from a state, and what is kept of that. -/
def runPart (P : Program) (n : Nat) (b : Code) (tm : List Av) (vr : List (Nat × VarSt)) (k : Nat) (tr : List Tr) (keep ids : List Nat) : Option (Exit × List Av × List (Nat × VarSt) × List Tr) :=
  match vr.all fun m => Nat.blt m.1 k with
  | true => (match run P n false b ⟨tm, vr, k, tr, []⟩ with
    | some (e, S) => (match closedIds ids (forgetT keep 0 S.tm) (forgetV S.vr ids) with | true => some (e, forgetT keep 0 S.tm, forgetV S.vr ids, S.out) | false => none)
    | none => none)
  | false => none
theorem moves_of_run (hG : ∀ {w w' : World}, Below w.heap.size w w' → G w → G w') (hm : P.follows .mixedOrders = true) {n k : Nat} {b : Code} {tm tm' : List Av} {vr vr' : List (Nat × VarSt)} {tr out : List Tr} {keep ids : List Nat} {e : Exit}
    (h : runPart P n b tm vr k tr keep ids = some (e, tm', vr', out)) (hok : ∀ t ∈ out, TrOk P G t) : Moves P G b tm vr e tm' vr' := by
  intro w0 Q a w hI hQ
  unfold runPart at h
  split at h
  · rename_i hfr
    split at h
    · rename_i e1 S hrun
      split at h
      · rename_i hcl
        injection h with h; injection h with h1 h2; injection h2 with h2 h3; injection h3 with h3 h4
        subst h1; subst h2; subst h3; subst h4
        exact (run_sound hG hm n).1 b _ S e1 hrun hok Q a w ⟨hI, all_fresh hfr⟩ fun a1 w1 h1 => hQ a1 w1 (h1.1.forget keep ids hcl)
      · cases h
    · cases h
  · cases h
theorem loop_moves {b : Code} {n : Nat} {tm : Nat → List Av} {vr : Nat → List (Nat × VarSt)} {e : Exit} {tm' : List Av} {vr' : List (Nat × VarSt)} (hr : ∀ k, k < n → Moves P G b (tm k) (vr k) .normal (tm (k + 1)) (vr (k + 1))) (he : e ≠ .normal) (hx : Moves P G b (tm n) (vr n) e tm' vr') :
    Moves P G (.loop b) (tm 0) (vr 0) e tm' vr' := by
  intro w0 Q a w hI hQ
  have key : ∀ (m k : Nat), k + m = n → ∀ (a : Act) (w : World), Is w0 G (tm k) (vr k) a w → Code.rounds P b Q (m + 1) a w := by
    intro m
    induction m with
    | zero =>
      intro k hk a w hI
      obtain rfl : k = n := by omega
      rw [rounds_succ]
      refine hx w0 _ a w hI fun a1 w1 h1 => ?_
      have := hQ a1 w1 h1
      cases e <;> first | exact this | exact absurd rfl he
    | succ m ih =>
      intro k hk a w hI
      rw [rounds_succ]
      exact hr k (by omega) w0 _ a w hI fun a1 w1 h1 => ih (k + 1) (by omega) a1 w1 h1
  exact wp_loop_rounds (n + 1) (key n 0 (by omega) a w hI)
/-- Nothing more is asked than what is told. -/
def AllOk (P : Program) (G : World → Prop) : List Tr → Prop
  | [] => True
  | t :: l => TrOk P G t ∧ AllOk P G l
theorem AllOk.all : ∀ {l : List Tr}, AllOk P G l → ∀ t ∈ l, TrOk P G t
  | [], _, t, h => by cases h
  | _ :: _, h, t, ht => by
    rcases List.mem_cons.1 ht with rfl | ht
    · exact h.1
    · exact h.2.all t ht
theorem AllOk.back {l : List Tr} (h : AllOk P G l) : ∀ t ∈ l.reverse, TrOk P G t := fun t ht => h.all t (List.mem_reverse.1 ht)
end
end Go.Proofs.YtnncfbmddpijcaaGreatDoor.AM
