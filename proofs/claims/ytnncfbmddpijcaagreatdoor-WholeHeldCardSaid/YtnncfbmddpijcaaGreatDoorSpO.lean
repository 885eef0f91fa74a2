
/- Spans: the least and the greatest of four; products. -/
import Derived.Test.YtnncfbmddpijcaaGreatDoorSpF
namespace Go.Proofs.YtnncfbmddpijcaaGreatDoor
open Go Go.RowKit Go.Shelf AM
set_option maxRecDepth 100000 in
theorem outLLL {a b c d : Dy} {n k : Nat} (ha : BD n k a) (hb : BD n k b) (hc : BD n k c) (hd : BD n k d) (hk : n + k ≤ 512) (p0 : dv b < dv a) (q0 : ¬ dv a < dv b) (p1 : dv c < dv b) (q1 : ¬ dv a < dv c) (p2 : dv d < dv c) (q2 : ¬ dv a < dv d) : FitsP 36 [arr4 a b c d] [] (.one (spS d a)) := by
  have hT : AllOk Tryz.prog Glob [
    Tr.call 25 [dS a, dS a] [] (Av.one (boolS false)),
    Tr.call 25 [dS a, dS a] [] (Av.one (boolS false)),
    Tr.call 25 [dS b, dS a] [] (Av.one (boolS true)),
    Tr.call 25 [dS a, dS b] [] (Av.one (boolS false)),
    Tr.call 25 [dS c, dS b] [] (Av.one (boolS true)),
    Tr.call 25 [dS a, dS c] [] (Av.one (boolS false)),
    Tr.call 25 [dS d, dS c] [] (Av.one (boolS true)),
    Tr.call 25 [dS a, dS d] [] (Av.one (boolS false))] := ⟨
    lessD_is ha ha hk (decide_eq_false (by grind)),
    lessD_is ha ha hk (decide_eq_false (by grind)),
    lessD_is hb ha hk (decide_eq_true p0),
    lessD_is ha hb hk (decide_eq_false q0),
    lessD_is hc hb hk (decide_eq_true p1),
    lessD_is ha hc hk (decide_eq_false q1),
    lessD_is hd hc hk (decide_eq_true p2),
    lessD_is ha hd hk (decide_eq_false q2), trivial⟩
  exact fits_of_trace (n := 300) (k0 := 0) hT Tryz.func36 (by kernel_rfl) (by kernel_rfl) (by kernel_rfl)

set_option maxRecDepth 100000 in
theorem outLLH {a b c d : Dy} {n k : Nat} (ha : BD n k a) (hb : BD n k b) (hc : BD n k c) (hd : BD n k d) (hk : n + k ≤ 512) (p0 : dv b < dv a) (q0 : ¬ dv a < dv b) (p1 : dv c < dv b) (q1 : ¬ dv a < dv c) (p2 : ¬ dv d < dv c) (q2 : dv a < dv d) : FitsP 36 [arr4 a b c d] [] (.one (spS c d)) := by
  have hT : AllOk Tryz.prog Glob [
    Tr.call 25 [dS a, dS a] [] (Av.one (boolS false)),
    Tr.call 25 [dS a, dS a] [] (Av.one (boolS false)),
    Tr.call 25 [dS b, dS a] [] (Av.one (boolS true)),
    Tr.call 25 [dS a, dS b] [] (Av.one (boolS false)),
    Tr.call 25 [dS c, dS b] [] (Av.one (boolS true)),
    Tr.call 25 [dS a, dS c] [] (Av.one (boolS false)),
    Tr.call 25 [dS d, dS c] [] (Av.one (boolS false)),
    Tr.call 25 [dS a, dS d] [] (Av.one (boolS true))] := ⟨
    lessD_is ha ha hk (decide_eq_false (by grind)),
    lessD_is ha ha hk (decide_eq_false (by grind)),
    lessD_is hb ha hk (decide_eq_true p0),
    lessD_is ha hb hk (decide_eq_false q0),
    lessD_is hc hb hk (decide_eq_true p1),
    lessD_is ha hc hk (decide_eq_false q1),
    lessD_is hd hc hk (decide_eq_false p2),
    lessD_is ha hd hk (decide_eq_true q2), trivial⟩
  exact fits_of_trace (n := 300) (k0 := 0) hT Tryz.func36 (by kernel_rfl) (by kernel_rfl) (by kernel_rfl)

set_option maxRecDepth 100000 in
theorem outLLN {a b c d : Dy} {n k : Nat} (ha : BD n k a) (hb : BD n k b) (hc : BD n k c) (hd : BD n k d) (hk : n + k ≤ 512) (p0 : dv b < dv a) (q0 : ¬ dv a < dv b) (p1 : dv c < dv b) (q1 : ¬ dv a < dv c) (p2 : ¬ dv d < dv c) (q2 : ¬ dv a < dv d) : FitsP 36 [arr4 a b c d] [] (.one (spS c a)) := by
  have hT : AllOk Tryz.prog Glob [
    Tr.call 25 [dS a, dS a] [] (Av.one (boolS false)),
    Tr.call 25 [dS a, dS a] [] (Av.one (boolS false)),
    Tr.call 25 [dS b, dS a] [] (Av.one (boolS true)),
    Tr.call 25 [dS a, dS b] [] (Av.one (boolS false)),
    Tr.call 25 [dS c, dS b] [] (Av.one (boolS true)),
    Tr.call 25 [dS a, dS c] [] (Av.one (boolS false)),
    Tr.call 25 [dS d, dS c] [] (Av.one (boolS false)),
    Tr.call 25 [dS a, dS d] [] (Av.one (boolS false))] := ⟨
    lessD_is ha ha hk (decide_eq_false (by grind)),
    lessD_is ha ha hk (decide_eq_false (by grind)),
    lessD_is hb ha hk (decide_eq_true p0),
    lessD_is ha hb hk (decide_eq_false q0),
    lessD_is hc hb hk (decide_eq_true p1),
    lessD_is ha hc hk (decide_eq_false q1),
    lessD_is hd hc hk (decide_eq_false p2),
    lessD_is ha hd hk (decide_eq_false q2), trivial⟩
  exact fits_of_trace (n := 300) (k0 := 0) hT Tryz.func36 (by kernel_rfl) (by kernel_rfl) (by kernel_rfl)

set_option maxRecDepth 100000 in
theorem outLHL {a b c d : Dy} {n k : Nat} (ha : BD n k a) (hb : BD n k b) (hc : BD n k c) (hd : BD n k d) (hk : n + k ≤ 512) (p0 : dv b < dv a) (q0 : ¬ dv a < dv b) (p1 : ¬ dv c < dv b) (q1 : dv a < dv c) (p2 : dv d < dv b) (q2 : ¬ dv c < dv d) : FitsP 36 [arr4 a b c d] [] (.one (spS d c)) := by
  have hT : AllOk Tryz.prog Glob [
    Tr.call 25 [dS a, dS a] [] (Av.one (boolS false)),
    Tr.call 25 [dS a, dS a] [] (Av.one (boolS false)),
    Tr.call 25 [dS b, dS a] [] (Av.one (boolS true)),
    Tr.call 25 [dS a, dS b] [] (Av.one (boolS false)),
    Tr.call 25 [dS c, dS b] [] (Av.one (boolS false)),
    Tr.call 25 [dS a, dS c] [] (Av.one (boolS true)),
    Tr.call 25 [dS d, dS b] [] (Av.one (boolS true)),
    Tr.call 25 [dS c, dS d] [] (Av.one (boolS false))] := ⟨
    lessD_is ha ha hk (decide_eq_false (by grind)),
    lessD_is ha ha hk (decide_eq_false (by grind)),
    lessD_is hb ha hk (decide_eq_true p0),
    lessD_is ha hb hk (decide_eq_false q0),
    lessD_is hc hb hk (decide_eq_false p1),
    lessD_is ha hc hk (decide_eq_true q1),
    lessD_is hd hb hk (decide_eq_true p2),
    lessD_is hc hd hk (decide_eq_false q2), trivial⟩
  exact fits_of_trace (n := 300) (k0 := 0) hT Tryz.func36 (by kernel_rfl) (by kernel_rfl) (by kernel_rfl)

set_option maxRecDepth 100000 in
theorem outLHH {a b c d : Dy} {n k : Nat} (ha : BD n k a) (hb : BD n k b) (hc : BD n k c) (hd : BD n k d) (hk : n + k ≤ 512) (p0 : dv b < dv a) (q0 : ¬ dv a < dv b) (p1 : ¬ dv c < dv b) (q1 : dv a < dv c) (p2 : ¬ dv d < dv b) (q2 : dv c < dv d) : FitsP 36 [arr4 a b c d] [] (.one (spS b d)) := by
  have hT : AllOk Tryz.prog Glob [
    Tr.call 25 [dS a, dS a] [] (Av.one (boolS false)),
    Tr.call 25 [dS a, dS a] [] (Av.one (boolS false)),
    Tr.call 25 [dS b, dS a] [] (Av.one (boolS true)),
    Tr.call 25 [dS a, dS b] [] (Av.one (boolS false)),
    Tr.call 25 [dS c, dS b] [] (Av.one (boolS false)),
    Tr.call 25 [dS a, dS c] [] (Av.one (boolS true)),
    Tr.call 25 [dS d, dS b] [] (Av.one (boolS false)),
    Tr.call 25 [dS c, dS d] [] (Av.one (boolS true))] := ⟨
    lessD_is ha ha hk (decide_eq_false (by grind)),
    lessD_is ha ha hk (decide_eq_false (by grind)),
    lessD_is hb ha hk (decide_eq_true p0),
    lessD_is ha hb hk (decide_eq_false q0),
    lessD_is hc hb hk (decide_eq_false p1),
    lessD_is ha hc hk (decide_eq_true q1),
    lessD_is hd hb hk (decide_eq_false p2),
    lessD_is hc hd hk (decide_eq_true q2), trivial⟩
  exact fits_of_trace (n := 300) (k0 := 0) hT Tryz.func36 (by kernel_rfl) (by kernel_rfl) (by kernel_rfl)

set_option maxRecDepth 100000 in
theorem outLHN {a b c d : Dy} {n k : Nat} (ha : BD n k a) (hb : BD n k b) (hc : BD n k c) (hd : BD n k d) (hk : n + k ≤ 512) (p0 : dv b < dv a) (q0 : ¬ dv a < dv b) (p1 : ¬ dv c < dv b) (q1 : dv a < dv c) (p2 : ¬ dv d < dv b) (q2 : ¬ dv c < dv d) : FitsP 36 [arr4 a b c d] [] (.one (spS b c)) := by
  have hT : AllOk Tryz.prog Glob [
    Tr.call 25 [dS a, dS a] [] (Av.one (boolS false)),
    Tr.call 25 [dS a, dS a] [] (Av.one (boolS false)),
    Tr.call 25 [dS b, dS a] [] (Av.one (boolS true)),
    Tr.call 25 [dS a, dS b] [] (Av.one (boolS false)),
    Tr.call 25 [dS c, dS b] [] (Av.one (boolS false)),
    Tr.call 25 [dS a, dS c] [] (Av.one (boolS true)),
    Tr.call 25 [dS d, dS b] [] (Av.one (boolS false)),
    Tr.call 25 [dS c, dS d] [] (Av.one (boolS false))] := ⟨
    lessD_is ha ha hk (decide_eq_false (by grind)),
    lessD_is ha ha hk (decide_eq_false (by grind)),
    lessD_is hb ha hk (decide_eq_true p0),
    lessD_is ha hb hk (decide_eq_false q0),
    lessD_is hc hb hk (decide_eq_false p1),
    lessD_is ha hc hk (decide_eq_true q1),
    lessD_is hd hb hk (decide_eq_false p2),
    lessD_is hc hd hk (decide_eq_false q2), trivial⟩
  exact fits_of_trace (n := 300) (k0 := 0) hT Tryz.func36 (by kernel_rfl) (by kernel_rfl) (by kernel_rfl)

set_option maxRecDepth 100000 in
theorem outLNL {a b c d : Dy} {n k : Nat} (ha : BD n k a) (hb : BD n k b) (hc : BD n k c) (hd : BD n k d) (hk : n + k ≤ 512) (p0 : dv b < dv a) (q0 : ¬ dv a < dv b) (p1 : ¬ dv c < dv b) (q1 : ¬ dv a < dv c) (p2 : dv d < dv b) (q2 : ¬ dv a < dv d) : FitsP 36 [arr4 a b c d] [] (.one (spS d a)) := by
  have hT : AllOk Tryz.prog Glob [
    Tr.call 25 [dS a, dS a] [] (Av.one (boolS false)),
    Tr.call 25 [dS a, dS a] [] (Av.one (boolS false)),
    Tr.call 25 [dS b, dS a] [] (Av.one (boolS true)),
    Tr.call 25 [dS a, dS b] [] (Av.one (boolS false)),
    Tr.call 25 [dS c, dS b] [] (Av.one (boolS false)),
    Tr.call 25 [dS a, dS c] [] (Av.one (boolS false)),
    Tr.call 25 [dS d, dS b] [] (Av.one (boolS true)),
    Tr.call 25 [dS a, dS d] [] (Av.one (boolS false))] := ⟨
    lessD_is ha ha hk (decide_eq_false (by grind)),
    lessD_is ha ha hk (decide_eq_false (by grind)),
    lessD_is hb ha hk (decide_eq_true p0),
    lessD_is ha hb hk (decide_eq_false q0),
    lessD_is hc hb hk (decide_eq_false p1),
    lessD_is ha hc hk (decide_eq_false q1),
    lessD_is hd hb hk (decide_eq_true p2),
    lessD_is ha hd hk (decide_eq_false q2), trivial⟩
  exact fits_of_trace (n := 300) (k0 := 0) hT Tryz.func36 (by kernel_rfl) (by kernel_rfl) (by kernel_rfl)

set_option maxRecDepth 100000 in
theorem outLNH {a b c d : Dy} {n k : Nat} (ha : BD n k a) (hb : BD n k b) (hc : BD n k c) (hd : BD n k d) (hk : n + k ≤ 512) (p0 : dv b < dv a) (q0 : ¬ dv a < dv b) (p1 : ¬ dv c < dv b) (q1 : ¬ dv a < dv c) (p2 : ¬ dv d < dv b) (q2 : dv a < dv d) : FitsP 36 [arr4 a b c d] [] (.one (spS b d)) := by
  have hT : AllOk Tryz.prog Glob [
    Tr.call 25 [dS a, dS a] [] (Av.one (boolS false)),
    Tr.call 25 [dS a, dS a] [] (Av.one (boolS false)),
    Tr.call 25 [dS b, dS a] [] (Av.one (boolS true)),
    Tr.call 25 [dS a, dS b] [] (Av.one (boolS false)),
    Tr.call 25 [dS c, dS b] [] (Av.one (boolS false)),
    Tr.call 25 [dS a, dS c] [] (Av.one (boolS false)),
    Tr.call 25 [dS d, dS b] [] (Av.one (boolS false)),
    Tr.call 25 [dS a, dS d] [] (Av.one (boolS true))] := ⟨
    lessD_is ha ha hk (decide_eq_false (by grind)),
    lessD_is ha ha hk (decide_eq_false (by grind)),
    lessD_is hb ha hk (decide_eq_true p0),
    lessD_is ha hb hk (decide_eq_false q0),
    lessD_is hc hb hk (decide_eq_false p1),
    lessD_is ha hc hk (decide_eq_false q1),
    lessD_is hd hb hk (decide_eq_false p2),
    lessD_is ha hd hk (decide_eq_true q2), trivial⟩
  exact fits_of_trace (n := 300) (k0 := 0) hT Tryz.func36 (by kernel_rfl) (by kernel_rfl) (by kernel_rfl)

set_option maxRecDepth 100000 in
theorem outLNN {a b c d : Dy} {n k : Nat} (ha : BD n k a) (hb : BD n k b) (hc : BD n k c) (hd : BD n k d) (hk : n + k ≤ 512) (p0 : dv b < dv a) (q0 : ¬ dv a < dv b) (p1 : ¬ dv c < dv b) (q1 : ¬ dv a < dv c) (p2 : ¬ dv d < dv b) (q2 : ¬ dv a < dv d) : FitsP 36 [arr4 a b c d] [] (.one (spS b a)) := by
  have hT : AllOk Tryz.prog Glob [
    Tr.call 25 [dS a, dS a] [] (Av.one (boolS false)),
    Tr.call 25 [dS a, dS a] [] (Av.one (boolS false)),
    Tr.call 25 [dS b, dS a] [] (Av.one (boolS true)),
    Tr.call 25 [dS a, dS b] [] (Av.one (boolS false)),
    Tr.call 25 [dS c, dS b] [] (Av.one (boolS false)),
    Tr.call 25 [dS a, dS c] [] (Av.one (boolS false)),
    Tr.call 25 [dS d, dS b] [] (Av.one (boolS false)),
    Tr.call 25 [dS a, dS d] [] (Av.one (boolS false))] := ⟨
    lessD_is ha ha hk (decide_eq_false (by grind)),
    lessD_is ha ha hk (decide_eq_false (by grind)),
    lessD_is hb ha hk (decide_eq_true p0),
    lessD_is ha hb hk (decide_eq_false q0),
    lessD_is hc hb hk (decide_eq_false p1),
    lessD_is ha hc hk (decide_eq_false q1),
    lessD_is hd hb hk (decide_eq_false p2),
    lessD_is ha hd hk (decide_eq_false q2), trivial⟩
  exact fits_of_trace (n := 300) (k0 := 0) hT Tryz.func36 (by kernel_rfl) (by kernel_rfl) (by kernel_rfl)

set_option maxRecDepth 100000 in
theorem outHLL {a b c d : Dy} {n k : Nat} (ha : BD n k a) (hb : BD n k b) (hc : BD n k c) (hd : BD n k d) (hk : n + k ≤ 512) (p0 : ¬ dv b < dv a) (q0 : dv a < dv b) (p1 : dv c < dv a) (q1 : ¬ dv b < dv c) (p2 : dv d < dv c) (q2 : ¬ dv b < dv d) : FitsP 36 [arr4 a b c d] [] (.one (spS d b)) := by
  have hT : AllOk Tryz.prog Glob [
    Tr.call 25 [dS a, dS a] [] (Av.one (boolS false)),
    Tr.call 25 [dS a, dS a] [] (Av.one (boolS false)),
    Tr.call 25 [dS b, dS a] [] (Av.one (boolS false)),
    Tr.call 25 [dS a, dS b] [] (Av.one (boolS true)),
    Tr.call 25 [dS c, dS a] [] (Av.one (boolS true)),
    Tr.call 25 [dS b, dS c] [] (Av.one (boolS false)),
    Tr.call 25 [dS d, dS c] [] (Av.one (boolS true)),
    Tr.call 25 [dS b, dS d] [] (Av.one (boolS false))] := ⟨
    lessD_is ha ha hk (decide_eq_false (by grind)),
    lessD_is ha ha hk (decide_eq_false (by grind)),
    lessD_is hb ha hk (decide_eq_false p0),
    lessD_is ha hb hk (decide_eq_true q0),
    lessD_is hc ha hk (decide_eq_true p1),
    lessD_is hb hc hk (decide_eq_false q1),
    lessD_is hd hc hk (decide_eq_true p2),
    lessD_is hb hd hk (decide_eq_false q2), trivial⟩
  exact fits_of_trace (n := 300) (k0 := 0) hT Tryz.func36 (by kernel_rfl) (by kernel_rfl) (by kernel_rfl)

set_option maxRecDepth 100000 in
theorem outHLH {a b c d : Dy} {n k : Nat} (ha : BD n k a) (hb : BD n k b) (hc : BD n k c) (hd : BD n k d) (hk : n + k ≤ 512) (p0 : ¬ dv b < dv a) (q0 : dv a < dv b) (p1 : dv c < dv a) (q1 : ¬ dv b < dv c) (p2 : ¬ dv d < dv c) (q2 : dv b < dv d) : FitsP 36 [arr4 a b c d] [] (.one (spS c d)) := by
  have hT : AllOk Tryz.prog Glob [
    Tr.call 25 [dS a, dS a] [] (Av.one (boolS false)),
    Tr.call 25 [dS a, dS a] [] (Av.one (boolS false)),
    Tr.call 25 [dS b, dS a] [] (Av.one (boolS false)),
    Tr.call 25 [dS a, dS b] [] (Av.one (boolS true)),
    Tr.call 25 [dS c, dS a] [] (Av.one (boolS true)),
    Tr.call 25 [dS b, dS c] [] (Av.one (boolS false)),
    Tr.call 25 [dS d, dS c] [] (Av.one (boolS false)),
    Tr.call 25 [dS b, dS d] [] (Av.one (boolS true))] := ⟨
    lessD_is ha ha hk (decide_eq_false (by grind)),
    lessD_is ha ha hk (decide_eq_false (by grind)),
    lessD_is hb ha hk (decide_eq_false p0),
    lessD_is ha hb hk (decide_eq_true q0),
    lessD_is hc ha hk (decide_eq_true p1),
    lessD_is hb hc hk (decide_eq_false q1),
    lessD_is hd hc hk (decide_eq_false p2),
    lessD_is hb hd hk (decide_eq_true q2), trivial⟩
  exact fits_of_trace (n := 300) (k0 := 0) hT Tryz.func36 (by kernel_rfl) (by kernel_rfl) (by kernel_rfl)

set_option maxRecDepth 100000 in
theorem outHLN {a b c d : Dy} {n k : Nat} (ha : BD n k a) (hb : BD n k b) (hc : BD n k c) (hd : BD n k d) (hk : n + k ≤ 512) (p0 : ¬ dv b < dv a) (q0 : dv a < dv b) (p1 : dv c < dv a) (q1 : ¬ dv b < dv c) (p2 : ¬ dv d < dv c) (q2 : ¬ dv b < dv d) : FitsP 36 [arr4 a b c d] [] (.one (spS c b)) := by
  have hT : AllOk Tryz.prog Glob [
    Tr.call 25 [dS a, dS a] [] (Av.one (boolS false)),
    Tr.call 25 [dS a, dS a] [] (Av.one (boolS false)),
    Tr.call 25 [dS b, dS a] [] (Av.one (boolS false)),
    Tr.call 25 [dS a, dS b] [] (Av.one (boolS true)),
    Tr.call 25 [dS c, dS a] [] (Av.one (boolS true)),
    Tr.call 25 [dS b, dS c] [] (Av.one (boolS false)),
    Tr.call 25 [dS d, dS c] [] (Av.one (boolS false)),
    Tr.call 25 [dS b, dS d] [] (Av.one (boolS false))] := ⟨
    lessD_is ha ha hk (decide_eq_false (by grind)),
    lessD_is ha ha hk (decide_eq_false (by grind)),
    lessD_is hb ha hk (decide_eq_false p0),
    lessD_is ha hb hk (decide_eq_true q0),
    lessD_is hc ha hk (decide_eq_true p1),
    lessD_is hb hc hk (decide_eq_false q1),
    lessD_is hd hc hk (decide_eq_false p2),
    lessD_is hb hd hk (decide_eq_false q2), trivial⟩
  exact fits_of_trace (n := 300) (k0 := 0) hT Tryz.func36 (by kernel_rfl) (by kernel_rfl) (by kernel_rfl)

set_option maxRecDepth 100000 in
theorem outHHL {a b c d : Dy} {n k : Nat} (ha : BD n k a) (hb : BD n k b) (hc : BD n k c) (hd : BD n k d) (hk : n + k ≤ 512) (p0 : ¬ dv b < dv a) (q0 : dv a < dv b) (p1 : ¬ dv c < dv a) (q1 : dv b < dv c) (p2 : dv d < dv a) (q2 : ¬ dv c < dv d) : FitsP 36 [arr4 a b c d] [] (.one (spS d c)) := by
  have hT : AllOk Tryz.prog Glob [
    Tr.call 25 [dS a, dS a] [] (Av.one (boolS false)),
    Tr.call 25 [dS a, dS a] [] (Av.one (boolS false)),
    Tr.call 25 [dS b, dS a] [] (Av.one (boolS false)),
    Tr.call 25 [dS a, dS b] [] (Av.one (boolS true)),
    Tr.call 25 [dS c, dS a] [] (Av.one (boolS false)),
    Tr.call 25 [dS b, dS c] [] (Av.one (boolS true)),
    Tr.call 25 [dS d, dS a] [] (Av.one (boolS true)),
    Tr.call 25 [dS c, dS d] [] (Av.one (boolS false))] := ⟨
    lessD_is ha ha hk (decide_eq_false (by grind)),
    lessD_is ha ha hk (decide_eq_false (by grind)),
    lessD_is hb ha hk (decide_eq_false p0),
    lessD_is ha hb hk (decide_eq_true q0),
    lessD_is hc ha hk (decide_eq_false p1),
    lessD_is hb hc hk (decide_eq_true q1),
    lessD_is hd ha hk (decide_eq_true p2),
    lessD_is hc hd hk (decide_eq_false q2), trivial⟩
  exact fits_of_trace (n := 300) (k0 := 0) hT Tryz.func36 (by kernel_rfl) (by kernel_rfl) (by kernel_rfl)

set_option maxRecDepth 100000 in
theorem outHHH {a b c d : Dy} {n k : Nat} (ha : BD n k a) (hb : BD n k b) (hc : BD n k c) (hd : BD n k d) (hk : n + k ≤ 512) (p0 : ¬ dv b < dv a) (q0 : dv a < dv b) (p1 : ¬ dv c < dv a) (q1 : dv b < dv c) (p2 : ¬ dv d < dv a) (q2 : dv c < dv d) : FitsP 36 [arr4 a b c d] [] (.one (spS a d)) := by
  have hT : AllOk Tryz.prog Glob [
    Tr.call 25 [dS a, dS a] [] (Av.one (boolS false)),
    Tr.call 25 [dS a, dS a] [] (Av.one (boolS false)),
    Tr.call 25 [dS b, dS a] [] (Av.one (boolS false)),
    Tr.call 25 [dS a, dS b] [] (Av.one (boolS true)),
    Tr.call 25 [dS c, dS a] [] (Av.one (boolS false)),
    Tr.call 25 [dS b, dS c] [] (Av.one (boolS true)),
    Tr.call 25 [dS d, dS a] [] (Av.one (boolS false)),
    Tr.call 25 [dS c, dS d] [] (Av.one (boolS true))] := ⟨
    lessD_is ha ha hk (decide_eq_false (by grind)),
    lessD_is ha ha hk (decide_eq_false (by grind)),
    lessD_is hb ha hk (decide_eq_false p0),
    lessD_is ha hb hk (decide_eq_true q0),
    lessD_is hc ha hk (decide_eq_false p1),
    lessD_is hb hc hk (decide_eq_true q1),
    lessD_is hd ha hk (decide_eq_false p2),
    lessD_is hc hd hk (decide_eq_true q2), trivial⟩
  exact fits_of_trace (n := 300) (k0 := 0) hT Tryz.func36 (by kernel_rfl) (by kernel_rfl) (by kernel_rfl)

set_option maxRecDepth 100000 in
theorem outHHN {a b c d : Dy} {n k : Nat} (ha : BD n k a) (hb : BD n k b) (hc : BD n k c) (hd : BD n k d) (hk : n + k ≤ 512) (p0 : ¬ dv b < dv a) (q0 : dv a < dv b) (p1 : ¬ dv c < dv a) (q1 : dv b < dv c) (p2 : ¬ dv d < dv a) (q2 : ¬ dv c < dv d) : FitsP 36 [arr4 a b c d] [] (.one (spS a c)) := by
  have hT : AllOk Tryz.prog Glob [
    Tr.call 25 [dS a, dS a] [] (Av.one (boolS false)),
    Tr.call 25 [dS a, dS a] [] (Av.one (boolS false)),
    Tr.call 25 [dS b, dS a] [] (Av.one (boolS false)),
    Tr.call 25 [dS a, dS b] [] (Av.one (boolS true)),
    Tr.call 25 [dS c, dS a] [] (Av.one (boolS false)),
    Tr.call 25 [dS b, dS c] [] (Av.one (boolS true)),
    Tr.call 25 [dS d, dS a] [] (Av.one (boolS false)),
    Tr.call 25 [dS c, dS d] [] (Av.one (boolS false))] := ⟨
    lessD_is ha ha hk (decide_eq_false (by grind)),
    lessD_is ha ha hk (decide_eq_false (by grind)),
    lessD_is hb ha hk (decide_eq_false p0),
    lessD_is ha hb hk (decide_eq_true q0),
    lessD_is hc ha hk (decide_eq_false p1),
    lessD_is hb hc hk (decide_eq_true q1),
    lessD_is hd ha hk (decide_eq_false p2),
    lessD_is hc hd hk (decide_eq_false q2), trivial⟩
  exact fits_of_trace (n := 300) (k0 := 0) hT Tryz.func36 (by kernel_rfl) (by kernel_rfl) (by kernel_rfl)

set_option maxRecDepth 100000 in
theorem outHNL {a b c d : Dy} {n k : Nat} (ha : BD n k a) (hb : BD n k b) (hc : BD n k c) (hd : BD n k d) (hk : n + k ≤ 512) (p0 : ¬ dv b < dv a) (q0 : dv a < dv b) (p1 : ¬ dv c < dv a) (q1 : ¬ dv b < dv c) (p2 : dv d < dv a) (q2 : ¬ dv b < dv d) : FitsP 36 [arr4 a b c d] [] (.one (spS d b)) := by
  have hT : AllOk Tryz.prog Glob [
    Tr.call 25 [dS a, dS a] [] (Av.one (boolS false)),
    Tr.call 25 [dS a, dS a] [] (Av.one (boolS false)),
    Tr.call 25 [dS b, dS a] [] (Av.one (boolS false)),
    Tr.call 25 [dS a, dS b] [] (Av.one (boolS true)),
    Tr.call 25 [dS c, dS a] [] (Av.one (boolS false)),
    Tr.call 25 [dS b, dS c] [] (Av.one (boolS false)),
    Tr.call 25 [dS d, dS a] [] (Av.one (boolS true)),
    Tr.call 25 [dS b, dS d] [] (Av.one (boolS false))] := ⟨
    lessD_is ha ha hk (decide_eq_false (by grind)),
    lessD_is ha ha hk (decide_eq_false (by grind)),
    lessD_is hb ha hk (decide_eq_false p0),
    lessD_is ha hb hk (decide_eq_true q0),
    lessD_is hc ha hk (decide_eq_false p1),
    lessD_is hb hc hk (decide_eq_false q1),
    lessD_is hd ha hk (decide_eq_true p2),
    lessD_is hb hd hk (decide_eq_false q2), trivial⟩
  exact fits_of_trace (n := 300) (k0 := 0) hT Tryz.func36 (by kernel_rfl) (by kernel_rfl) (by kernel_rfl)

set_option maxRecDepth 100000 in
theorem outHNH {a b c d : Dy} {n k : Nat} (ha : BD n k a) (hb : BD n k b) (hc : BD n k c) (hd : BD n k d) (hk : n + k ≤ 512) (p0 : ¬ dv b < dv a) (q0 : dv a < dv b) (p1 : ¬ dv c < dv a) (q1 : ¬ dv b < dv c) (p2 : ¬ dv d < dv a) (q2 : dv b < dv d) : FitsP 36 [arr4 a b c d] [] (.one (spS a d)) := by
  have hT : AllOk Tryz.prog Glob [
    Tr.call 25 [dS a, dS a] [] (Av.one (boolS false)),
    Tr.call 25 [dS a, dS a] [] (Av.one (boolS false)),
    Tr.call 25 [dS b, dS a] [] (Av.one (boolS false)),
    Tr.call 25 [dS a, dS b] [] (Av.one (boolS true)),
    Tr.call 25 [dS c, dS a] [] (Av.one (boolS false)),
    Tr.call 25 [dS b, dS c] [] (Av.one (boolS false)),
    Tr.call 25 [dS d, dS a] [] (Av.one (boolS false)),
    Tr.call 25 [dS b, dS d] [] (Av.one (boolS true))] := ⟨
    lessD_is ha ha hk (decide_eq_false (by grind)),
    lessD_is ha ha hk (decide_eq_false (by grind)),
    lessD_is hb ha hk (decide_eq_false p0),
    lessD_is ha hb hk (decide_eq_true q0),
    lessD_is hc ha hk (decide_eq_false p1),
    lessD_is hb hc hk (decide_eq_false q1),
    lessD_is hd ha hk (decide_eq_false p2),
    lessD_is hb hd hk (decide_eq_true q2), trivial⟩
  exact fits_of_trace (n := 300) (k0 := 0) hT Tryz.func36 (by kernel_rfl) (by kernel_rfl) (by kernel_rfl)

set_option maxRecDepth 100000 in
theorem outHNN {a b c d : Dy} {n k : Nat} (ha : BD n k a) (hb : BD n k b) (hc : BD n k c) (hd : BD n k d) (hk : n + k ≤ 512) (p0 : ¬ dv b < dv a) (q0 : dv a < dv b) (p1 : ¬ dv c < dv a) (q1 : ¬ dv b < dv c) (p2 : ¬ dv d < dv a) (q2 : ¬ dv b < dv d) : FitsP 36 [arr4 a b c d] [] (.one (spS a b)) := by
  have hT : AllOk Tryz.prog Glob [
    Tr.call 25 [dS a, dS a] [] (Av.one (boolS false)),
    Tr.call 25 [dS a, dS a] [] (Av.one (boolS false)),
    Tr.call 25 [dS b, dS a] [] (Av.one (boolS false)),
    Tr.call 25 [dS a, dS b] [] (Av.one (boolS true)),
    Tr.call 25 [dS c, dS a] [] (Av.one (boolS false)),
    Tr.call 25 [dS b, dS c] [] (Av.one (boolS false)),
    Tr.call 25 [dS d, dS a] [] (Av.one (boolS false)),
    Tr.call 25 [dS b, dS d] [] (Av.one (boolS false))] := ⟨
    lessD_is ha ha hk (decide_eq_false (by grind)),
    lessD_is ha ha hk (decide_eq_false (by grind)),
    lessD_is hb ha hk (decide_eq_false p0),
    lessD_is ha hb hk (decide_eq_true q0),
    lessD_is hc ha hk (decide_eq_false p1),
    lessD_is hb hc hk (decide_eq_false q1),
    lessD_is hd ha hk (decide_eq_false p2),
    lessD_is hb hd hk (decide_eq_false q2), trivial⟩
  exact fits_of_trace (n := 300) (k0 := 0) hT Tryz.func36 (by kernel_rfl) (by kernel_rfl) (by kernel_rfl)

set_option maxRecDepth 100000 in
theorem outNLL {a b c d : Dy} {n k : Nat} (ha : BD n k a) (hb : BD n k b) (hc : BD n k c) (hd : BD n k d) (hk : n + k ≤ 512) (p0 : ¬ dv b < dv a) (q0 : ¬ dv a < dv b) (p1 : dv c < dv a) (q1 : ¬ dv a < dv c) (p2 : dv d < dv c) (q2 : ¬ dv a < dv d) : FitsP 36 [arr4 a b c d] [] (.one (spS d a)) := by
  have hT : AllOk Tryz.prog Glob [
    Tr.call 25 [dS a, dS a] [] (Av.one (boolS false)),
    Tr.call 25 [dS a, dS a] [] (Av.one (boolS false)),
    Tr.call 25 [dS b, dS a] [] (Av.one (boolS false)),
    Tr.call 25 [dS a, dS b] [] (Av.one (boolS false)),
    Tr.call 25 [dS c, dS a] [] (Av.one (boolS true)),
    Tr.call 25 [dS a, dS c] [] (Av.one (boolS false)),
    Tr.call 25 [dS d, dS c] [] (Av.one (boolS true)),
    Tr.call 25 [dS a, dS d] [] (Av.one (boolS false))] := ⟨
    lessD_is ha ha hk (decide_eq_false (by grind)),
    lessD_is ha ha hk (decide_eq_false (by grind)),
    lessD_is hb ha hk (decide_eq_false p0),
    lessD_is ha hb hk (decide_eq_false q0),
    lessD_is hc ha hk (decide_eq_true p1),
    lessD_is ha hc hk (decide_eq_false q1),
    lessD_is hd hc hk (decide_eq_true p2),
    lessD_is ha hd hk (decide_eq_false q2), trivial⟩
  exact fits_of_trace (n := 300) (k0 := 0) hT Tryz.func36 (by kernel_rfl) (by kernel_rfl) (by kernel_rfl)

set_option maxRecDepth 100000 in
theorem outNLH {a b c d : Dy} {n k : Nat} (ha : BD n k a) (hb : BD n k b) (hc : BD n k c) (hd : BD n k d) (hk : n + k ≤ 512) (p0 : ¬ dv b < dv a) (q0 : ¬ dv a < dv b) (p1 : dv c < dv a) (q1 : ¬ dv a < dv c) (p2 : ¬ dv d < dv c) (q2 : dv a < dv d) : FitsP 36 [arr4 a b c d] [] (.one (spS c d)) := by
  have hT : AllOk Tryz.prog Glob [
    Tr.call 25 [dS a, dS a] [] (Av.one (boolS false)),
    Tr.call 25 [dS a, dS a] [] (Av.one (boolS false)),
    Tr.call 25 [dS b, dS a] [] (Av.one (boolS false)),
    Tr.call 25 [dS a, dS b] [] (Av.one (boolS false)),
    Tr.call 25 [dS c, dS a] [] (Av.one (boolS true)),
    Tr.call 25 [dS a, dS c] [] (Av.one (boolS false)),
    Tr.call 25 [dS d, dS c] [] (Av.one (boolS false)),
    Tr.call 25 [dS a, dS d] [] (Av.one (boolS true))] := ⟨
    lessD_is ha ha hk (decide_eq_false (by grind)),
    lessD_is ha ha hk (decide_eq_false (by grind)),
    lessD_is hb ha hk (decide_eq_false p0),
    lessD_is ha hb hk (decide_eq_false q0),
    lessD_is hc ha hk (decide_eq_true p1),
    lessD_is ha hc hk (decide_eq_false q1),
    lessD_is hd hc hk (decide_eq_false p2),
    lessD_is ha hd hk (decide_eq_true q2), trivial⟩
  exact fits_of_trace (n := 300) (k0 := 0) hT Tryz.func36 (by kernel_rfl) (by kernel_rfl) (by kernel_rfl)

set_option maxRecDepth 100000 in
theorem outNLN {a b c d : Dy} {n k : Nat} (ha : BD n k a) (hb : BD n k b) (hc : BD n k c) (hd : BD n k d) (hk : n + k ≤ 512) (p0 : ¬ dv b < dv a) (q0 : ¬ dv a < dv b) (p1 : dv c < dv a) (q1 : ¬ dv a < dv c) (p2 : ¬ dv d < dv c) (q2 : ¬ dv a < dv d) : FitsP 36 [arr4 a b c d] [] (.one (spS c a)) := by
  have hT : AllOk Tryz.prog Glob [
    Tr.call 25 [dS a, dS a] [] (Av.one (boolS false)),
    Tr.call 25 [dS a, dS a] [] (Av.one (boolS false)),
    Tr.call 25 [dS b, dS a] [] (Av.one (boolS false)),
    Tr.call 25 [dS a, dS b] [] (Av.one (boolS false)),
    Tr.call 25 [dS c, dS a] [] (Av.one (boolS true)),
    Tr.call 25 [dS a, dS c] [] (Av.one (boolS false)),
    Tr.call 25 [dS d, dS c] [] (Av.one (boolS false)),
    Tr.call 25 [dS a, dS d] [] (Av.one (boolS false))] := ⟨
    lessD_is ha ha hk (decide_eq_false (by grind)),
    lessD_is ha ha hk (decide_eq_false (by grind)),
    lessD_is hb ha hk (decide_eq_false p0),
    lessD_is ha hb hk (decide_eq_false q0),
    lessD_is hc ha hk (decide_eq_true p1),
    lessD_is ha hc hk (decide_eq_false q1),
    lessD_is hd hc hk (decide_eq_false p2),
    lessD_is ha hd hk (decide_eq_false q2), trivial⟩
  exact fits_of_trace (n := 300) (k0 := 0) hT Tryz.func36 (by kernel_rfl) (by kernel_rfl) (by kernel_rfl)

set_option maxRecDepth 100000 in
theorem outNHL {a b c d : Dy} {n k : Nat} (ha : BD n k a) (hb : BD n k b) (hc : BD n k c) (hd : BD n k d) (hk : n + k ≤ 512) (p0 : ¬ dv b < dv a) (q0 : ¬ dv a < dv b) (p1 : ¬ dv c < dv a) (q1 : dv a < dv c) (p2 : dv d < dv a) (q2 : ¬ dv c < dv d) : FitsP 36 [arr4 a b c d] [] (.one (spS d c)) := by
  have hT : AllOk Tryz.prog Glob [
    Tr.call 25 [dS a, dS a] [] (Av.one (boolS false)),
    Tr.call 25 [dS a, dS a] [] (Av.one (boolS false)),
    Tr.call 25 [dS b, dS a] [] (Av.one (boolS false)),
    Tr.call 25 [dS a, dS b] [] (Av.one (boolS false)),
    Tr.call 25 [dS c, dS a] [] (Av.one (boolS false)),
    Tr.call 25 [dS a, dS c] [] (Av.one (boolS true)),
    Tr.call 25 [dS d, dS a] [] (Av.one (boolS true)),
    Tr.call 25 [dS c, dS d] [] (Av.one (boolS false))] := ⟨
    lessD_is ha ha hk (decide_eq_false (by grind)),
    lessD_is ha ha hk (decide_eq_false (by grind)),
    lessD_is hb ha hk (decide_eq_false p0),
    lessD_is ha hb hk (decide_eq_false q0),
    lessD_is hc ha hk (decide_eq_false p1),
    lessD_is ha hc hk (decide_eq_true q1),
    lessD_is hd ha hk (decide_eq_true p2),
    lessD_is hc hd hk (decide_eq_false q2), trivial⟩
  exact fits_of_trace (n := 300) (k0 := 0) hT Tryz.func36 (by kernel_rfl) (by kernel_rfl) (by kernel_rfl)

set_option maxRecDepth 100000 in
theorem outNHH {a b c d : Dy} {n k : Nat} (ha : BD n k a) (hb : BD n k b) (hc : BD n k c) (hd : BD n k d) (hk : n + k ≤ 512) (p0 : ¬ dv b < dv a) (q0 : ¬ dv a < dv b) (p1 : ¬ dv c < dv a) (q1 : dv a < dv c) (p2 : ¬ dv d < dv a) (q2 : dv c < dv d) : FitsP 36 [arr4 a b c d] [] (.one (spS a d)) := by
  have hT : AllOk Tryz.prog Glob [
    Tr.call 25 [dS a, dS a] [] (Av.one (boolS false)),
    Tr.call 25 [dS a, dS a] [] (Av.one (boolS false)),
    Tr.call 25 [dS b, dS a] [] (Av.one (boolS false)),
    Tr.call 25 [dS a, dS b] [] (Av.one (boolS false)),
    Tr.call 25 [dS c, dS a] [] (Av.one (boolS false)),
    Tr.call 25 [dS a, dS c] [] (Av.one (boolS true)),
    Tr.call 25 [dS d, dS a] [] (Av.one (boolS false)),
    Tr.call 25 [dS c, dS d] [] (Av.one (boolS true))] := ⟨
    lessD_is ha ha hk (decide_eq_false (by grind)),
    lessD_is ha ha hk (decide_eq_false (by grind)),
    lessD_is hb ha hk (decide_eq_false p0),
    lessD_is ha hb hk (decide_eq_false q0),
    lessD_is hc ha hk (decide_eq_false p1),
    lessD_is ha hc hk (decide_eq_true q1),
    lessD_is hd ha hk (decide_eq_false p2),
    lessD_is hc hd hk (decide_eq_true q2), trivial⟩
  exact fits_of_trace (n := 300) (k0 := 0) hT Tryz.func36 (by kernel_rfl) (by kernel_rfl) (by kernel_rfl)

set_option maxRecDepth 100000 in
theorem outNHN {a b c d : Dy} {n k : Nat} (ha : BD n k a) (hb : BD n k b) (hc : BD n k c) (hd : BD n k d) (hk : n + k ≤ 512) (p0 : ¬ dv b < dv a) (q0 : ¬ dv a < dv b) (p1 : ¬ dv c < dv a) (q1 : dv a < dv c) (p2 : ¬ dv d < dv a) (q2 : ¬ dv c < dv d) : FitsP 36 [arr4 a b c d] [] (.one (spS a c)) := by
  have hT : AllOk Tryz.prog Glob [
    Tr.call 25 [dS a, dS a] [] (Av.one (boolS false)),
    Tr.call 25 [dS a, dS a] [] (Av.one (boolS false)),
    Tr.call 25 [dS b, dS a] [] (Av.one (boolS false)),
    Tr.call 25 [dS a, dS b] [] (Av.one (boolS false)),
    Tr.call 25 [dS c, dS a] [] (Av.one (boolS false)),
    Tr.call 25 [dS a, dS c] [] (Av.one (boolS true)),
    Tr.call 25 [dS d, dS a] [] (Av.one (boolS false)),
    Tr.call 25 [dS c, dS d] [] (Av.one (boolS false))] := ⟨
    lessD_is ha ha hk (decide_eq_false (by grind)),
    lessD_is ha ha hk (decide_eq_false (by grind)),
    lessD_is hb ha hk (decide_eq_false p0),
    lessD_is ha hb hk (decide_eq_false q0),
    lessD_is hc ha hk (decide_eq_false p1),
    lessD_is ha hc hk (decide_eq_true q1),
    lessD_is hd ha hk (decide_eq_false p2),
    lessD_is hc hd hk (decide_eq_false q2), trivial⟩
  exact fits_of_trace (n := 300) (k0 := 0) hT Tryz.func36 (by kernel_rfl) (by kernel_rfl) (by kernel_rfl)

set_option maxRecDepth 100000 in
theorem outNNL {a b c d : Dy} {n k : Nat} (ha : BD n k a) (hb : BD n k b) (hc : BD n k c) (hd : BD n k d) (hk : n + k ≤ 512) (p0 : ¬ dv b < dv a) (q0 : ¬ dv a < dv b) (p1 : ¬ dv c < dv a) (q1 : ¬ dv a < dv c) (p2 : dv d < dv a) (q2 : ¬ dv a < dv d) : FitsP 36 [arr4 a b c d] [] (.one (spS d a)) := by
  have hT : AllOk Tryz.prog Glob [
    Tr.call 25 [dS a, dS a] [] (Av.one (boolS false)),
    Tr.call 25 [dS a, dS a] [] (Av.one (boolS false)),
    Tr.call 25 [dS b, dS a] [] (Av.one (boolS false)),
    Tr.call 25 [dS a, dS b] [] (Av.one (boolS false)),
    Tr.call 25 [dS c, dS a] [] (Av.one (boolS false)),
    Tr.call 25 [dS a, dS c] [] (Av.one (boolS false)),
    Tr.call 25 [dS d, dS a] [] (Av.one (boolS true)),
    Tr.call 25 [dS a, dS d] [] (Av.one (boolS false))] := ⟨
    lessD_is ha ha hk (decide_eq_false (by grind)),
    lessD_is ha ha hk (decide_eq_false (by grind)),
    lessD_is hb ha hk (decide_eq_false p0),
    lessD_is ha hb hk (decide_eq_false q0),
    lessD_is hc ha hk (decide_eq_false p1),
    lessD_is ha hc hk (decide_eq_false q1),
    lessD_is hd ha hk (decide_eq_true p2),
    lessD_is ha hd hk (decide_eq_false q2), trivial⟩
  exact fits_of_trace (n := 300) (k0 := 0) hT Tryz.func36 (by kernel_rfl) (by kernel_rfl) (by kernel_rfl)

set_option maxRecDepth 100000 in
theorem outNNH {a b c d : Dy} {n k : Nat} (ha : BD n k a) (hb : BD n k b) (hc : BD n k c) (hd : BD n k d) (hk : n + k ≤ 512) (p0 : ¬ dv b < dv a) (q0 : ¬ dv a < dv b) (p1 : ¬ dv c < dv a) (q1 : ¬ dv a < dv c) (p2 : ¬ dv d < dv a) (q2 : dv a < dv d) : FitsP 36 [arr4 a b c d] [] (.one (spS a d)) := by
  have hT : AllOk Tryz.prog Glob [
    Tr.call 25 [dS a, dS a] [] (Av.one (boolS false)),
    Tr.call 25 [dS a, dS a] [] (Av.one (boolS false)),
    Tr.call 25 [dS b, dS a] [] (Av.one (boolS false)),
    Tr.call 25 [dS a, dS b] [] (Av.one (boolS false)),
    Tr.call 25 [dS c, dS a] [] (Av.one (boolS false)),
    Tr.call 25 [dS a, dS c] [] (Av.one (boolS false)),
    Tr.call 25 [dS d, dS a] [] (Av.one (boolS false)),
    Tr.call 25 [dS a, dS d] [] (Av.one (boolS true))] := ⟨
    lessD_is ha ha hk (decide_eq_false (by grind)),
    lessD_is ha ha hk (decide_eq_false (by grind)),
    lessD_is hb ha hk (decide_eq_false p0),
    lessD_is ha hb hk (decide_eq_false q0),
    lessD_is hc ha hk (decide_eq_false p1),
    lessD_is ha hc hk (decide_eq_false q1),
    lessD_is hd ha hk (decide_eq_false p2),
    lessD_is ha hd hk (decide_eq_true q2), trivial⟩
  exact fits_of_trace (n := 300) (k0 := 0) hT Tryz.func36 (by kernel_rfl) (by kernel_rfl) (by kernel_rfl)

set_option maxRecDepth 100000 in
theorem outNNN {a b c d : Dy} {n k : Nat} (ha : BD n k a) (hb : BD n k b) (hc : BD n k c) (hd : BD n k d) (hk : n + k ≤ 512) (p0 : ¬ dv b < dv a) (q0 : ¬ dv a < dv b) (p1 : ¬ dv c < dv a) (q1 : ¬ dv a < dv c) (p2 : ¬ dv d < dv a) (q2 : ¬ dv a < dv d) : FitsP 36 [arr4 a b c d] [] (.one (spS a a)) := by
  have hT : AllOk Tryz.prog Glob [
    Tr.call 25 [dS a, dS a] [] (Av.one (boolS false)),
    Tr.call 25 [dS a, dS a] [] (Av.one (boolS false)),
    Tr.call 25 [dS b, dS a] [] (Av.one (boolS false)),
    Tr.call 25 [dS a, dS b] [] (Av.one (boolS false)),
    Tr.call 25 [dS c, dS a] [] (Av.one (boolS false)),
    Tr.call 25 [dS a, dS c] [] (Av.one (boolS false)),
    Tr.call 25 [dS d, dS a] [] (Av.one (boolS false)),
    Tr.call 25 [dS a, dS d] [] (Av.one (boolS false))] := ⟨
    lessD_is ha ha hk (decide_eq_false (by grind)),
    lessD_is ha ha hk (decide_eq_false (by grind)),
    lessD_is hb ha hk (decide_eq_false p0),
    lessD_is ha hb hk (decide_eq_false q0),
    lessD_is hc ha hk (decide_eq_false p1),
    lessD_is ha hc hk (decide_eq_false q1),
    lessD_is hd ha hk (decide_eq_false p2),
    lessD_is ha hd hk (decide_eq_false q2), trivial⟩
  exact fits_of_trace (n := 300) (k0 := 0) hT Tryz.func36 (by kernel_rfl) (by kernel_rfl) (by kernel_rfl)

theorem minD_l {a b : Dy} (h : dv b < dv a) : minD a b = b := if_pos h
theorem minD_n {a b : Dy} (h : ¬ dv b < dv a) : minD a b = a := if_neg h
theorem maxD_l {a b : Dy} (h : dv a < dv b) : maxD a b = b := if_pos h
theorem maxD_n {a b : Dy} (h : ¬ dv a < dv b) : maxD a b = a := if_neg h
def lo4 (a b c d : Dy) : Dy := minD (minD (minD a b) c) d
def hi4 (a b c d : Dy) : Dy := maxD (maxD (maxD a b) c) d
theorem minD_dv (a b : Dy) : dv (minD a b) ≤ dv a ∧ dv (minD a b) ≤ dv b ∧ (minD a b = a ∨ minD a b = b) := by
  unfold minD; split
  · exact ⟨by grind, by grind, .inr rfl⟩
  · exact ⟨by grind, by grind, .inl rfl⟩
theorem maxD_dv (a b : Dy) : dv a ≤ dv (maxD a b) ∧ dv b ≤ dv (maxD a b) ∧ (maxD a b = a ∨ maxD a b = b) := by
  unfold maxD; split
  · exact ⟨by grind, by grind, .inr rfl⟩
  · exact ⟨by grind, by grind, .inl rfl⟩
theorem lo4_dv (a b c d : Dy) : dv (lo4 a b c d) ≤ dv a ∧ dv (lo4 a b c d) ≤ dv b ∧ dv (lo4 a b c d) ≤ dv c ∧ dv (lo4 a b c d) ≤ dv d := by
  have h1 := minD_dv a b
  have h2 := minD_dv (minD a b) c
  have h3 := minD_dv (minD (minD a b) c) d
  unfold lo4
  refine ⟨?_, ?_, ?_, ?_⟩ <;> grind
theorem hi4_dv (a b c d : Dy) : dv a ≤ dv (hi4 a b c d) ∧ dv b ≤ dv (hi4 a b c d) ∧ dv c ≤ dv (hi4 a b c d) ∧ dv d ≤ dv (hi4 a b c d) := by
  have h1 := maxD_dv a b
  have h2 := maxD_dv (maxD a b) c
  have h3 := maxD_dv (maxD (maxD a b) c) d
  unfold hi4
  refine ⟨?_, ?_, ?_, ?_⟩ <;> grind
theorem lo4_or (a b c d : Dy) : lo4 a b c d = a ∨ lo4 a b c d = b ∨ lo4 a b c d = c ∨ lo4 a b c d = d := by
  unfold lo4
  rcases (minD_dv (minD (minD a b) c) d).2.2 with h | h
  · rcases (minD_dv (minD a b) c).2.2 with h2 | h2
    · rcases (minD_dv a b).2.2 with h3 | h3
      · exact .inl (by rw [h, h2, h3])
      · exact .inr (.inl (by rw [h, h2, h3]))
    · exact .inr (.inr (.inl (by rw [h, h2])))
  · exact .inr (.inr (.inr h))
theorem hi4_or (a b c d : Dy) : hi4 a b c d = a ∨ hi4 a b c d = b ∨ hi4 a b c d = c ∨ hi4 a b c d = d := by
  unfold hi4
  rcases (maxD_dv (maxD (maxD a b) c) d).2.2 with h | h
  · rcases (maxD_dv (maxD a b) c).2.2 with h2 | h2
    · rcases (maxD_dv a b).2.2 with h3 | h3
      · exact .inl (by rw [h, h2, h3])
      · exact .inr (.inl (by rw [h, h2, h3]))
    · exact .inr (.inr (.inl (by rw [h, h2])))
  · exact .inr (.inr (.inr h))
theorem BD.lo4 {a b c d : Dy} {n k : Nat} (ha : BD n k a) (hb : BD n k b) (hc : BD n k c) (hd : BD n k d) : BD n k (lo4 a b c d) := ((ha.minS hb).minS hc).minS hd
theorem BD.hi4 {a b c d : Dy} {n k : Nat} (ha : BD n k a) (hb : BD n k b) (hc : BD n k c) (hd : BD n k d) : BD n k (hi4 a b c d) := ((ha.maxS hb).maxS hc).maxS hd

theorem outermost_f {a b c d : Dy} {n k : Nat} (ha : BD n k a) (hb : BD n k b) (hc : BD n k c) (hd : BD n k d) (hk : n + k ≤ 512) : FitsP 36 [arr4 a b c d] [] (.one (spS (lo4 a b c d) (hi4 a b c d))) := by
  unfold lo4 hi4
  by_cases p0 : dv b < dv a
  · have q0 : ¬ dv a < dv b := by grind
    by_cases p1 : dv c < dv b
    · have q1 : ¬ dv a < dv c := by grind
      by_cases p2 : dv d < dv c
      · have q2 : ¬ dv a < dv d := by grind
        rw [minD_l p0, maxD_n q0, minD_l p1, maxD_n q1, minD_l p2, maxD_n q2]; exact outLLL ha hb hc hd hk p0 q0 p1 q1 p2 q2
      · by_cases q2 : dv a < dv d
        · rw [minD_l p0, maxD_n q0, minD_l p1, maxD_n q1, minD_n p2, maxD_l q2]; exact outLLH ha hb hc hd hk p0 q0 p1 q1 p2 q2
        · rw [minD_l p0, maxD_n q0, minD_l p1, maxD_n q1, minD_n p2, maxD_n q2]; exact outLLN ha hb hc hd hk p0 q0 p1 q1 p2 q2
    · by_cases q1 : dv a < dv c
      · by_cases p2 : dv d < dv b
        · have q2 : ¬ dv c < dv d := by grind
          rw [minD_l p0, maxD_n q0, minD_n p1, maxD_l q1, minD_l p2, maxD_n q2]; exact outLHL ha hb hc hd hk p0 q0 p1 q1 p2 q2
        · by_cases q2 : dv c < dv d
          · rw [minD_l p0, maxD_n q0, minD_n p1, maxD_l q1, minD_n p2, maxD_l q2]; exact outLHH ha hb hc hd hk p0 q0 p1 q1 p2 q2
          · rw [minD_l p0, maxD_n q0, minD_n p1, maxD_l q1, minD_n p2, maxD_n q2]; exact outLHN ha hb hc hd hk p0 q0 p1 q1 p2 q2
      · by_cases p2 : dv d < dv b
        · have q2 : ¬ dv a < dv d := by grind
          rw [minD_l p0, maxD_n q0, minD_n p1, maxD_n q1, minD_l p2, maxD_n q2]; exact outLNL ha hb hc hd hk p0 q0 p1 q1 p2 q2
        · by_cases q2 : dv a < dv d
          · rw [minD_l p0, maxD_n q0, minD_n p1, maxD_n q1, minD_n p2, maxD_l q2]; exact outLNH ha hb hc hd hk p0 q0 p1 q1 p2 q2
          · rw [minD_l p0, maxD_n q0, minD_n p1, maxD_n q1, minD_n p2, maxD_n q2]; exact outLNN ha hb hc hd hk p0 q0 p1 q1 p2 q2
  · by_cases q0 : dv a < dv b
    · by_cases p1 : dv c < dv a
      · have q1 : ¬ dv b < dv c := by grind
        by_cases p2 : dv d < dv c
        · have q2 : ¬ dv b < dv d := by grind
          rw [minD_n p0, maxD_l q0, minD_l p1, maxD_n q1, minD_l p2, maxD_n q2]; exact outHLL ha hb hc hd hk p0 q0 p1 q1 p2 q2
        · by_cases q2 : dv b < dv d
          · rw [minD_n p0, maxD_l q0, minD_l p1, maxD_n q1, minD_n p2, maxD_l q2]; exact outHLH ha hb hc hd hk p0 q0 p1 q1 p2 q2
          · rw [minD_n p0, maxD_l q0, minD_l p1, maxD_n q1, minD_n p2, maxD_n q2]; exact outHLN ha hb hc hd hk p0 q0 p1 q1 p2 q2
      · by_cases q1 : dv b < dv c
        · by_cases p2 : dv d < dv a
          · have q2 : ¬ dv c < dv d := by grind
            rw [minD_n p0, maxD_l q0, minD_n p1, maxD_l q1, minD_l p2, maxD_n q2]; exact outHHL ha hb hc hd hk p0 q0 p1 q1 p2 q2
          · by_cases q2 : dv c < dv d
            · rw [minD_n p0, maxD_l q0, minD_n p1, maxD_l q1, minD_n p2, maxD_l q2]; exact outHHH ha hb hc hd hk p0 q0 p1 q1 p2 q2
            · rw [minD_n p0, maxD_l q0, minD_n p1, maxD_l q1, minD_n p2, maxD_n q2]; exact outHHN ha hb hc hd hk p0 q0 p1 q1 p2 q2
        · by_cases p2 : dv d < dv a
          · have q2 : ¬ dv b < dv d := by grind
            rw [minD_n p0, maxD_l q0, minD_n p1, maxD_n q1, minD_l p2, maxD_n q2]; exact outHNL ha hb hc hd hk p0 q0 p1 q1 p2 q2
          · by_cases q2 : dv b < dv d
            · rw [minD_n p0, maxD_l q0, minD_n p1, maxD_n q1, minD_n p2, maxD_l q2]; exact outHNH ha hb hc hd hk p0 q0 p1 q1 p2 q2
            · rw [minD_n p0, maxD_l q0, minD_n p1, maxD_n q1, minD_n p2, maxD_n q2]; exact outHNN ha hb hc hd hk p0 q0 p1 q1 p2 q2
    · by_cases p1 : dv c < dv a
      · have q1 : ¬ dv a < dv c := by grind
        by_cases p2 : dv d < dv c
        · have q2 : ¬ dv a < dv d := by grind
          rw [minD_n p0, maxD_n q0, minD_l p1, maxD_n q1, minD_l p2, maxD_n q2]; exact outNLL ha hb hc hd hk p0 q0 p1 q1 p2 q2
        · by_cases q2 : dv a < dv d
          · rw [minD_n p0, maxD_n q0, minD_l p1, maxD_n q1, minD_n p2, maxD_l q2]; exact outNLH ha hb hc hd hk p0 q0 p1 q1 p2 q2
          · rw [minD_n p0, maxD_n q0, minD_l p1, maxD_n q1, minD_n p2, maxD_n q2]; exact outNLN ha hb hc hd hk p0 q0 p1 q1 p2 q2
      · by_cases q1 : dv a < dv c
        · by_cases p2 : dv d < dv a
          · have q2 : ¬ dv c < dv d := by grind
            rw [minD_n p0, maxD_n q0, minD_n p1, maxD_l q1, minD_l p2, maxD_n q2]; exact outNHL ha hb hc hd hk p0 q0 p1 q1 p2 q2
          · by_cases q2 : dv c < dv d
            · rw [minD_n p0, maxD_n q0, minD_n p1, maxD_l q1, minD_n p2, maxD_l q2]; exact outNHH ha hb hc hd hk p0 q0 p1 q1 p2 q2
            · rw [minD_n p0, maxD_n q0, minD_n p1, maxD_l q1, minD_n p2, maxD_n q2]; exact outNHN ha hb hc hd hk p0 q0 p1 q1 p2 q2
        · by_cases p2 : dv d < dv a
          · have q2 : ¬ dv a < dv d := by grind
            rw [minD_n p0, maxD_n q0, minD_n p1, maxD_n q1, minD_l p2, maxD_n q2]; exact outNNL ha hb hc hd hk p0 q0 p1 q1 p2 q2
          · by_cases q2 : dv a < dv d
            · rw [minD_n p0, maxD_n q0, minD_n p1, maxD_n q1, minD_n p2, maxD_l q2]; exact outNNH ha hb hc hd hk p0 q0 p1 q1 p2 q2
            · rw [minD_n p0, maxD_n q0, minD_n p1, maxD_n q1, minD_n p2, maxD_n q2]; exact outNNN ha hb hc hd hk p0 q0 p1 q1 p2 q2

set_option maxRecDepth 100000 in
theorem crossS_f {x y u v : Dy} {n k m j : Nat} (hx : BD n k x) (hy : BD n k y) (hu : BD m j u) (hv : BD m j v) (hk : n + k + (m + j) ≤ 512) : FitsP 33 [spS x y, spS u v] [] (.tup [arr4 (mulD x u) (mulD x v) (mulD y u) (mulD y v), ok0]) := by
  have hT : AllOk Tryz.prog Glob [
    Tr.call 42 [dS x, dS u] [] (Av.tup [dS (mulD x u), ok0]),
    Tr.call 42 [dS x, dS v] [] (Av.tup [dS (mulD x v), ok0]),
    Tr.call 42 [dS y, dS u] [] (Av.tup [dS (mulD y u), ok0]),
    Tr.call 42 [dS y, dS v] [] (Av.tup [dS (mulD y v), ok0])] := ⟨
    mulD_f hx hu hk,
    mulD_f hx hv hk,
    mulD_f hy hu hk,
    mulD_f hy hv hk, trivial⟩
  exact fits_of_trace (n := 300) (k0 := 0) hT Tryz.func33 (by kernel_rfl) (by kernel_rfl) (by kernel_rfl)

def loM (x y u v : Dy) : Dy := lo4 (mulD x u) (mulD x v) (mulD y u) (mulD y v)
def hiM (x y u v : Dy) : Dy := hi4 (mulD x u) (mulD x v) (mulD y u) (mulD y v)
theorem loM_bd {x y u v : Dy} {n k m j : Nat} (hx : BD n k x) (hy : BD n k y) (hu : BD m j u) (hv : BD m j v) : BD (n + m) (k + j) (loM x y u v) := BD.lo4 (hx.mul hu) (hx.mul hv) (hy.mul hu) (hy.mul hv)
theorem hiM_bd {x y u v : Dy} {n k m j : Nat} (hx : BD n k x) (hy : BD n k y) (hu : BD m j u) (hv : BD m j v) : BD (n + m) (k + j) (hiM x y u v) := BD.hi4 (hx.mul hu) (hx.mul hv) (hy.mul hu) (hy.mul hv)

set_option maxRecDepth 100000 in
theorem mulS_f {x y u v : Dy} {b n k m j : Nat} (hx : BD n k x) (hy : BD n k y) (hu : BD m j u) (hv : BD m j v) (hk : n + k + (m + j) + 1 ≤ 512) (hb : 2 ≤ b) (hb2 : b ≤ 4096) : FitsP 11 [spS x y, spS u v, intS (b : Int)] [] (.tup [spS (rdD b (loM x y u v)) (ruD b (hiM x y u v)), ok0]) := by
  have hT : AllOk Tryz.prog Glob [
    Tr.call 34 [spS x y] [] (Av.one (spS x y)),
    Tr.call 34 [spS u v] [] (Av.one (spS u v)),
    Tr.call 33 [spS x y, spS u v] [] (Av.tup [Sv.agg [Cv.raw (Value.bool (decide (Dy.m (mulD x u) < (0 : Int)))), Cv.ent (nat (Int.natAbs (Dy.m (mulD x u)))), Cv.raw (Value.int IntKind.i64 (Dy.e (mulD x u))), Cv.raw (Value.bool (decide (Dy.m (mulD x v) < (0 : Int)))), Cv.ent (nat (Int.natAbs (Dy.m (mulD x v)))), Cv.raw (Value.int IntKind.i64 (Dy.e (mulD x v))), Cv.raw (Value.bool (decide (Dy.m (mulD y u) < (0 : Int)))), Cv.ent (nat (Int.natAbs (Dy.m (mulD y u)))), Cv.raw (Value.int IntKind.i64 (Dy.e (mulD y u))), Cv.raw (Value.bool (decide (Dy.m (mulD y v) < (0 : Int)))), Cv.ent (nat (Int.natAbs (Dy.m (mulD y v)))), Cv.raw (Value.int IntKind.i64 (Dy.e (mulD y v)))], ok0]),
    Tr.call 36 [Sv.agg [Cv.raw (Value.bool (decide (Dy.m (mulD x u) < (0 : Int)))), Cv.ent (nat (Int.natAbs (Dy.m (mulD x u)))), Cv.raw (Value.int IntKind.i64 (Dy.e (mulD x u))), Cv.raw (Value.bool (decide (Dy.m (mulD x v) < (0 : Int)))), Cv.ent (nat (Int.natAbs (Dy.m (mulD x v)))), Cv.raw (Value.int IntKind.i64 (Dy.e (mulD x v))), Cv.raw (Value.bool (decide (Dy.m (mulD y u) < (0 : Int)))), Cv.ent (nat (Int.natAbs (Dy.m (mulD y u)))), Cv.raw (Value.int IntKind.i64 (Dy.e (mulD y u))), Cv.raw (Value.bool (decide (Dy.m (mulD y v) < (0 : Int)))), Cv.ent (nat (Int.natAbs (Dy.m (mulD y v)))), Cv.raw (Value.int IntKind.i64 (Dy.e (mulD y v)))]] [] (Av.one (spS (loM x y u v) (hiM x y u v))),
    Tr.call 35 [spS (loM x y u v) (hiM x y u v), intS (↑b : Int)] [] (Av.tup [spS (rdD b (loM x y u v)) (ruD b (hiM x y u v)), ok0])] := ⟨
    endsS_f,
    endsS_f,
    crossS_f hx hy hu hv (by omega),
    outermost_f (hx.mul hu) (hx.mul hv) (hy.mul hu) (hy.mul hv) (by omega),
    roundS_f (loM_bd hx hy hu hv) (hiM_bd hx hy hu hv) (by omega) hb hb2, trivial⟩
  exact fits_of_trace (n := 300) (k0 := 0) hT Tryz.func11 (by kernel_rfl) (by kernel_rfl) (by kernel_rfl)

end Go.Proofs.YtnncfbmddpijcaaGreatDoor
