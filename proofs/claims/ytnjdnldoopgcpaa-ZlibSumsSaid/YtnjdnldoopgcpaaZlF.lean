/- zlib: Unpack, behind a head that is right. -/
import Derived.Test.YtnjdnldoopgcpaaZlE
import Derived.Test.YtnjdnldoopgcpaaInfX
import Derived.Test.YtnjdnldoopgcpaaRegionI
namespace Go.Proofs.Ytnjdnldoopgcpaa
open Go.RowKit

def unzP (rs : List Nat) (most : Int) : List Nat × Int := match inflP rs most with
  | .error E => ([], E)
  | .ok (x, u) => if (rs.drop u).length < 4 then ([], 6) else if (rs.drop u).take 4 = bigE (sumZ x) then (x, 0) else ([], 7)
theorem unzP_er {rs : List Nat} {most E : Int} (h : inflP rs most = .error E) : unzP rs most = ([], E) := by unfold unzP; rw [h]
theorem unzP_ok {rs x : List Nat} {most : Int} {u : Nat} (h : inflP rs most = .ok (x, u)) : unzP rs most = if (rs.drop u).length < 4 then ([], 6) else if (rs.drop u).take 4 = bigE (sumZ x) then (x, 0) else ([], 7) := by unfold unzP; rw [h]
theorem Bytes.part {w : World} {R o n c : Nat} {bs : List Nat} (h : Bytes w (some ⟨R, o, Option.none⟩) n c bs) {a b : Nat} (hab : a ≤ b) (hb : b ≤ n) : Bytes w (some ⟨R, o + a, Option.none⟩) (b - a) (c - a) ((bs.take b).drop a) := by
  have hl := h.len
  have hcap := h.cap
  have htop := h.top
  refine ⟨by rw [List.length_drop, List.length_take]; omega, by omega, by omega, fun x hx => h.byte x (List.mem_of_mem_take (List.mem_of_mem_drop hx)), fun hn => ?_⟩
  obtain ⟨R', o', e, hR, hc⟩ := h.at_ (by omega)
  injection e with e
  injection e with e1 e2
  subst e1 e2
  refine ⟨_, _, rfl, hR, fun i x hx => ?_⟩
  rw [List.getElem?_drop, List.getElem?_take] at hx
  split at hx
  · have := hc (a + i) x hx
    rw [← Nat.add_assoc] at this
    exact this
  · cases hx
theorem Bytes.nil (w : World) : Bytes w Option.none 0 0 [] := ⟨rfl, Nat.le_refl _, by omega, by simp, fun h => absurd h (by simp)⟩
/-- What Unpack answers. -/
def ZUIs (rs : List Nat) (most : Int) (w : World) (e : Ending) (w' : World) : Prop :=
  ∃ (x : List Nat) (E : Int) (A : Option Addr) (c : Nat), unzP rs most = (x, E) ∧ e = .returned (.tuple #[.slice A x.length c, .int .i64 E]) ∧ Bytes w' A x.length c x ∧ Below w.heap.size w w'
end Go.Proofs.Ytnjdnldoopgcpaa

