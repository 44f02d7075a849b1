/- Texts that the proof of OpsN rests on, one behind the other. -/
import Derived.Test.YtngenbolpnckhaaDoorOpsNQ5
import Derived.PlainAid

/- A string's bytes as numbers. -/
namespace Go.Proofs.YtngenbolpnckhaaDoor
open Go.RowKit Go.PlainAid

theorem bt_strB (T : List UInt8) {n : Nat} {c : UInt8} (h : T[n]? = some c) : bt (strB T) n = (c.toNat : Int) := by
  have hlt := (List.getElem?_eq_some_iff.1 h).1
  have hz := strB_size T
  rw [bt, dif_pos (by omega)]
  have e : (strB T)[n]'(by omega) = c := by
    have : T[n] = c := by
      rw [List.getElem?_eq_getElem hlt] at h
      injection h
    rw [← this]
    simp [strB, ByteArray.getElem_eq_getElem_data]
  rw [e]

end Go.Proofs.YtngenbolpnckhaaDoor
