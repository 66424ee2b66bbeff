/- Caches asked for keys out of a slice that came in. -/
import Derived.Test.YtdbfojolocelaaaShapes6
import Derived.Deep.LoopGhost
namespace Go.Proofs.Ytdbfojolocelaaa
open Go.RowKit Ht HS Lf

/-- What a cache of mo has behind the first i of the keys that came in. -/
def resI (ch : Bool) (S : Nat → ByteArray) (mo : Nat) : Nat → List (Ent Key)
  | 0 => []
  | i + 1 => reqL ch mo i (resI ch S mo i) (S i)
/-- Two caches asked for the first k of the keys that came in. -/
def Fill2 (S : Nat → ByteArray) (n mo : Nat) (ch ch2 : Bool) (a a2 : Nat) (w0 : World) (i : Value) (W : World) : Prop := ∃ (k : Nat) (T T2 : Nat → Prop), i = .int .i64 (k : Int) ∧ k ≤ n ∧ Pair w0 W a T mo ch (resI ch S mo k) k a2 T2 mo ch2 (resI ch2 S mo k) k
theorem reqN_pos {mo n : Nat} (h : 1 ≤ mo) : reqN mo n = n + 1 := by unfold reqN; rw [if_neg (by omega)]
/-- A request of a cache of at least one. -/
theorem request_one (w : World) (c : Nat) (S : Nat → Prop) (mo : Nat) (ch : Bool) (L : List (Ent Key)) (n : Nat) (key : Key) (a : Ca w c S mo ch L n) (hs : key.size ≤ maxLen) (hn : n ≤ 900) (hm : 1 ≤ mo) :
    Calls Try.prog 13 #[.pointer (some ⟨c, 0, none⟩), .string key] w (CaPost (stepV mo L key) w c S mo ch (reqL ch mo n L key) (n + 1)) := reqN_pos (n := n) hm ▸ request_ca w c S mo ch L n key a hs hn
theorem refSame_self (w : World) (g g' : Nat) (v u : Value) (xs : List ByteArray) (h : Row w g v xs) (k : Row w g' u xs) : Calls Try.prog 22 #[v, u] w (SamePost true w) := by
  have := refSame_any w g g' v u xs xs h k
  rw [decide_eq_true rfl] at this
  exact this
end Go.Proofs.Ytdbfojolocelaaa
