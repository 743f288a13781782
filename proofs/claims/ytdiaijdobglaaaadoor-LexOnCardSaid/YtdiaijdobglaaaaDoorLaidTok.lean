/- Tokens and bytes among the arguments: opened. -/
import Derived.Test.YtdiaijdobglaaaaDoorLaidBytes
namespace Go.Proofs.YtdiaijdobglaaaaDoor
open Go.ChangeShapes Go.WideShapes Go.ChangeAt Go.RowKit Go.Joins Go.Deep

theorem cTok : Tryd.prog.cellsOf 25 = 4 := by kernel_rfl
theorem cDecT : Tryd.prog.cellsOf 23 = 2 := by kernel_rfl
theorem cIntT : Tryd.prog.cellsOf 3 = 1 := by kernel_rfl
theorem cStrT : Tryd.prog.cellsOf 9 = 1 := by kernel_rfl
section
variable {H : Type} {enc : TypeId × Value → H} {W : World} {base : Nat} {held : Bool}
set_option maxRecDepth 100000 in
theorem open_tok {b0 : Nat} {v : Value} {d : DataW H} {p : List MemPlace} (hv : Value.okWide Tryd.prog W .any b0 25 v) (h : DataW.Trod enc Tryd.prog W base (fun _ => true) held 25 v d p) :
    ∃ (kd m s : Int) (x : ByteArray), v = .agg #[.int .i64 kd, .int .i64 m, .int .i64 s, .string x] ∧ x.size ≤ maxLen := by
  obtain ⟨cs, rfl, hsz⟩ := okWide_struct Tryd.underlying25 hv
  obtain ⟨l⟩ := cs
  match l, hsz.trans cTok with
  | [c0, c1, c2, c3], _ =>
    obtain ⟨fuel, hf⟩ := h
    obtain ⟨xs, k, -, hx, -, hlen, hg⟩ := DataW.trod_struct Tryd.underlying25 hf
    match xs, hlen with
    | [y0, y1, y2], _ =>
      have g0 := hg 0 _ rfl
      have g1 := hg 1 _ rfl
      have g2 := hg 2 _ rfl
      simp [cIntT, cDecT, cStrT, Value.cells] at g0 g1 g2
      obtain ⟨kd, e0, -, -⟩ := DataW.trod_int Tryd.underlying3 g0
      obtain ⟨zs, k', -, hy, -, hlen', hg'⟩ := DataW.trod_struct Tryd.underlying23 g1
      match zs, hlen' with
      | [z0, z1], _ =>
        have d0 := hg' 0 _ rfl
        have d1 := hg' 1 _ rfl
        simp [cIntT] at d0 d1
        obtain ⟨a, e1, -, -⟩ := DataW.trod_int Tryd.underlying3 d0
        obtain ⟨b, e2, -, -⟩ := DataW.trod_int Tryd.underlying3 d1
        obtain ⟨x, e3, -, hs⟩ := DataW.trod_string Tryd.underlying9 g2
        simp at e0 e1 e2 e3
        exact ⟨kd, a, b, x, by rw [e0, e1, e2, e3], hs⟩
theorem nil_bytes {n c : Nat} {d : DataW H} {p : List MemPlace} (h : DataW.Trod enc Tryd.prog W base (fun _ => true) held 30 (.slice none n c) d p) : c = 0 := by
  obtain ⟨fuel, hf⟩ := h
  rcases open_slice Tryd.underlying30 hf with ⟨hc, -⟩ | ⟨a', len, cap, m, k, D, Pl, hc, -⟩
  · simp [Value.cells] at hc
    exact hc.2
  · simp [Value.cells] at hc
set_option maxRecDepth 100000 in
theorem open_bytes2 {b0 : Nat} {v : Value} {d : DataW H} {p : List MemPlace} (hv : Value.okWide Tryd.prog W .any b0 30 v) (h : DataW.Trod enc Tryd.prog W base (fun _ => true) held 30 v d p) :
    ∃ (A : Option Addr) (n c : Nat) (bs : List Nat), v = .slice A n c ∧ Bytes W A n c bs ∧ (A = none → c = 0) := by
  obtain ⟨A, n, c, bs, rfl, hb⟩ := open_bytes hv h
  exact ⟨A, n, c, bs, rfl, hb, fun e => by subst e; exact nil_bytes h⟩
end
end Go.Proofs.YtdiaijdobglaaaaDoor
