/- math/bits: TrailingZeros32 (walked). -/
import Derived.Test.YtdlojigbphhjaaaLen32
import Derived.Shelf.Spec.TrailingZeros
namespace Go.Proofs.Ytdlojigbphhjaaa
open Go.RowKit

theorem ctzFrom_eq (f x : Nat) (h0 : 0 < x) (h : x < 2 ^ f) : Lib.ctzFrom f x = tz x := by
  obtain ⟨m, hm, _⟩ := Lib.ctzFrom_spec f x h0 h
  have := tz_mul (Lib.ctzFrom f x) m
  rw [← hm] at this
  exact this.symm

end Go.Proofs.Ytdlojigbphhjaaa
