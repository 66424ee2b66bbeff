/- What the laws' awake of layer 10 asks, as plain lists. -/
import Derived.Test.YtnlckkahkghneaaGreatDoorLo
set_option maxRecDepth 100000
namespace Go.Proofs.YtnlckkahkghneaaGreatDoor.LE
open Sg
def ka : ByteArray := ⟨#[97]⟩
def kb : ByteArray := ⟨#[98]⟩
def kc : ByteArray := ⟨#[99]⟩
def w0 (six : Bool) : St := St.start six 2 [0, 18446744073709551615]
def w1 (six : Bool) : St := (w0 six).req ka
def w2 (six : Bool) : St := (w1 six).req ka
def w3 (six : Bool) : St := (w2 six).req kb
def w4 (six : Bool) : St := (w3 six).req kc
def w5 (six : Bool) : St := (w4 six).req ((w3 six).vicV kc)
def beq (a b : ByteArray) : Bool := a.data.toList == b.data.toList
def chk (six : Bool) : Bool := (w1 six).has ka && !((w1 six).outB ka) && (w3 six).outB kc && ((w4 six).keys.length == 2) && (w4 six).has kc && ((w4 six).ghosts.length == 1) && beq ((w4 six).ghosts.headD ⟨#[]⟩) ((w3 six).vicV kc) && ((w4 six).w == half) && decide ((w5 six).w < half)
theorem chk_no : chk false = true := by kernel_rfl
theorem chk_yes : chk true = true := by kernel_rfl
end Go.Proofs.YtnlckkahkghneaaGreatDoor.LE
