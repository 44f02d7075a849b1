/- Layer 3: what the calls of package frame answer. (FrameCon, to be written of the landed code, imports this and states FramePut_any, FramePut_rd, FrameGet_rd, FrameAll_rd.) -/
import Derived.Test.YticgpldpbbfklaaRefFrameAll
namespace Go.Proofs.Yticgpldpbbfklaa
open Go.RowKit

def BytesRd (w : World) (l : List UInt8) (e : Ending) (w' : World) : Prop := ∃ v', e = .returned v' ∧ Rd w' v' (l.map B) ∧ Ext w w'
def GetRd (bs : List UInt8) (i : Int) (w : World) (e : Ending) (w' : World) : Prop :=
  ∃ v', e = .returned (.tuple #[v', .int .i64 (getF bs i).2.1, .int .i64 (getF bs i).2.2]) ∧ Rd w' v' ((getF bs i).1.map B) ∧ Ext w w'
def AllRd (bs : List UInt8) (i : Int) (w : World) (e : Ending) (w' : World) : Prop :=
  ∃ v', e = .returned (.tuple #[v', .int .i64 (allB bs i).2]) ∧ RdL w' v' (allB bs i).1 ∧ Ext w w'

theorem GetRd.of_post {bs : List UInt8} {i : Int} {w w' : World} {e : Ending} (h : GetPost bs i w e w') : GetRd bs i w e w' := by
  obtain ⟨v', he, hg⟩ := h
  exact ⟨v', he, Rd.own hg.own, hg.ext⟩
theorem AllRd.of_post {bs : List UInt8} {i : Int} {w w' : World} {e : Ending} (h : AllPost bs i w e w') : AllRd bs i w e w' := by
  obtain ⟨v', he, hg⟩ := h
  exact ⟨v', he, hg.rdl, hg.ext⟩
theorem BytesRd.of_grew {l : List UInt8} {w w' : World} {e : Ending} (h : ∃ v', e = .returned v' ∧ Grew w.heap.size 5 (.slice none 0 0) w (l.map B) v' w') : BytesRd w l e w' := by
  obtain ⟨v', he, hg⟩ := h
  exact ⟨v', he, Rd.own hg.own, hg.ext⟩

end Go.Proofs.Yticgpldpbbfklaa
