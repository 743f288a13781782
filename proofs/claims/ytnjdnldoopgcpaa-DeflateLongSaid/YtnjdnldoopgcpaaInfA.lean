/- inflate: what it tells: pure. -/
import Derived.Test.YtnjdnldoopgcpaaHuffFind
import Derived.Test.YtnjdnldoopgcpaaHuffMake
import Derived.Test.YtnjdnldoopgcpaaHuffInts
import Derived.Test.YtnjdnldoopgcpaaBitsBytesW
import Derived.Test.YtnjdnldoopgcpaaHuffReadT
import Derived.Test.YtnjdnldoopgcpaaHuffMakeB
import Derived.Test.YtnjdnldoopgcpaaBitsWords
import Derived.Test.YtnjdnldoopgcpaaRowF
namespace Go.Proofs.Ytnjdnldoopgcpaa
open Go.RowKit

/-- What reads bits: the number of the bits that are left, and how many they are. -/
abbrev Ps (α : Type) := Nat → Nat → Except Int (α × Nat × Nat)
def rtn {α : Type} (a : α) : Ps α := fun N L => .ok (a, N, L)
def bad {α : Type} (e : Int) : Ps α := fun _ _ => .error e
def bnd {α β : Type} (p : Ps α) (f : α → Ps β) : Ps β := fun N L => match p N L with
  | .ok (a, N', L') => f a N' L'
  | .error e => .error e
theorem bnd_ok {α β : Type} {p : Ps α} {f : α → Ps β} {N L N' L' : Nat} {a : α} (h : p N L = .ok (a, N', L')) : bnd p f N L = f a N' L' := by unfold bnd; rw [h]
theorem bnd_er {α β : Type} {p : Ps α} {f : α → Ps β} {N L : Nat} {e : Int} (h : p N L = .error e) : bnd p f N L = .error e := by unfold bnd; rw [h]
def bitsP (k : Nat) : Ps Nat := fun N L => if k ≤ L then .ok (N % 2 ^ k, N / 2 ^ k, L - k) else .error 6
def alignP : Ps Unit := fun N L => .ok ((), N / 2 ^ (L % 8), L - L % 8)
def bytesP (n : Nat) : Ps (List Nat) := fun N L => if n ≤ L / 8 then .ok ((List.range n).map (digit N), N / 2 ^ (8 * n), L - 8 * n) else .error 6
def fieldsP : List Nat → Ps (List Nat)
  | [] => rtn []
  | k :: ks => bnd (bitsP k) fun v => bnd (fieldsP ks) fun vs => rtn (v :: vs)
def readGo (l : List Int) : Nat → Nat → Ps Nat
  | 0, _ => bad 4
  | f + 1, k => fun N L => if k < L then (match hit l N k with
    | some s => .ok (s, N / 2 ^ (k + 1), L - (k + 1))
    | none => readGo l f (k + 1) N L) else .error 6
theorem readGo_eq (l : List Int) (f k N L : Nat) : readGo l (f + 1) k N L = if k < L then (match hit l N k with
    | some s => .ok (s, N / 2 ^ (k + 1), L - (k + 1))
    | none => readGo l f (k + 1) N L) else .error 6 := rfl
def readP (l : List Int) : Ps Nat := readGo l 15 0
theorem readGo_res {l : List Int} {N av s : Nat} {E : Int} {u : Nat} (h : RES l N av s E u) : ∀ (f k : Nat), f + k = 15 → k ≤ av → (∀ j, j < k → hit l N j = none) → readGo l f k N av = if E = 0 then .ok (s, N / 2 ^ u, av - u) else .error E
  | 0, k, hk, hav, hno => by
    rcases h with ⟨L, a1, a2, a3, a4, rfl, rfl⟩ | ⟨a1, a2, rfl, rfl, rfl⟩ | ⟨a1, a2, rfl, rfl, rfl⟩
    · have := hno L (by omega); rw [a4] at this; cases this
    · omega
    · rfl
  | f + 1, k, hk, hav, hno => by
    by_cases hlt : k < av
    · cases hh : hit l N k with
      | some s' =>
        have e1 : readGo l (f + 1) k N av = .ok (s', N / 2 ^ (k + 1), av - (k + 1)) := by rw [readGo_eq, if_pos hlt, hh]
        rw [e1]
        rcases h with ⟨L, a1, a2, a3, a4, rfl, rfl⟩ | ⟨a1, a2, rfl, rfl, rfl⟩ | ⟨a1, a2, rfl, rfl, rfl⟩
        · have e : L = k := by
            rcases Nat.lt_trichotomy L k with h | h | h
            · have := hno L h; rw [a4] at this; cases this
            · exact h
            · have := a3 k h; rw [hh] at this; cases this
          subst e
          rw [a4] at hh
          injection hh with hh
          subst hh
          rfl
        · have := a2 k hlt; rw [hh] at this; cases this
        · have := a2 k (by omega); rw [hh] at this; cases this
      | none =>
        have e1 : readGo l (f + 1) k N av = readGo l f (k + 1) N av := by rw [readGo_eq, if_pos hlt, hh]
        rw [e1]
        exact readGo_res h f (k + 1) (by omega) hlt (fun j hj => by
          by_cases e : j = k
          · rw [e]; exact hh
          · exact hno j (by omega))
    · obtain rfl : k = av := by omega
      have e1 : readGo l (f + 1) k N k = .error 6 := by rw [readGo_eq, if_neg hlt]
      rw [e1]
      rcases h with ⟨L, a1, a2, a3, a4, rfl, rfl⟩ | ⟨a1, a2, rfl, rfl, rfl⟩ | ⟨a1, a2, rfl, rfl, rfl⟩
      · have := hno L a2; rw [a4] at this; cases this
      · rfl
      · omega
theorem read_res {l : List Int} {N av s : Nat} {E : Int} {u : Nat} (h : RES l N av s E u) : readP l N av = if E = 0 then .ok (s, N / 2 ^ u, av - u) else .error E := readGo_res h 15 0 rfl (Nat.zero_le _) (fun j hj => absurd hj (by omega))
theorem readGo_lt {l : List Int} : ∀ (f k N L : Nat) {s N' L' : Nat}, readGo l f k N L = .ok (s, N', L') → L' < L ∧ s < l.length
  | 0, k, N, L, s, N', L', h => by cases h
  | f + 1, k, N, L, s, N', L', h => by
    rw [readGo_eq] at h
    by_cases hlt : k < L
    · rw [if_pos hlt] at h
      cases hh : hit l N k with
      | some s' =>
        rw [hh] at h
        injection h with h
        injection h with h1 h2
        injection h2 with h2 h3
        subst h1
        exact ⟨by omega, ((hit_iff l N k s').1 hh).1⟩
      | none =>
        rw [hh] at h
        exact readGo_lt f (k + 1) N L h
    · rw [if_neg hlt] at h; cases h
theorem readP_lt {l : List Int} {N L s N' L' : Nat} (h : readP l N L = .ok (s, N', L')) : L' < L ∧ s < l.length := readGo_lt 15 0 N L h
/-- A token. -/
structure Tk where
  byte : Int
  len : Int
  back : Int
def tkSize (t : Tk) : Int := max 1 t.len
structure Acc where
  toks : List Tk
  made : Int
def addP (most : Int) (t : Tk) (a : Acc) : Ps Acc := if most - a.made < tkSize t then bad 2 else rtn ⟨a.toks ++ [t], a.made + tkSize t⟩
def addAll (most : Int) : List Nat → Acc → Ps Acc
  | [], a => rtn a
  | b :: bs, a => bnd (addP most ⟨b, 0, 0⟩ a) (addAll most bs)
def spanB (g i : Nat) : Nat := i / g - 1
def spanF (first g : Nat) : Nat → Nat
  | 0 => first
  | i + 1 => spanF first g i + 2 ^ spanB g i
def spansL (first n g : Nat) : List (Nat × Nat) := (List.range n).map fun i => (spanF first g i, spanB g i)
def lensT : List (Nat × Nat) := spansL 3 28 4 ++ [(258, 0)]
def distT : List (Nat × Nat) := spansL 1 30 2
theorem lensT_len : lensT.length = 29 := by decide +kernel
theorem distT_len : distT.length = 30 := by decide +kernel
def numberP (tb : List (Nat × Nat)) (s : Nat) : Ps Nat := match tb[s]? with
  | none => bad 4
  | some p => bnd (bitsP p.2) fun x => rtn (p.1 + x)
def matchP (most : Int) (ds : List Int) (s : Nat) (a : Acc) : Ps Acc :=
  bnd (numberP lensT s) fun len => bnd (readP ds) fun t => bnd (numberP distT t) fun back => if a.made < (back : Int) then bad 4 else addP most ⟨0, len, back⟩ a
def symsP (most : Int) (ls ds : List Int) : Nat → Acc → Ps Acc
  | 0, _ => bad 99
  | f + 1, a => bnd (readP ls) fun s => if s = 256 then rtn a else bnd (if s < 256 then addP most ⟨s, 0, 0⟩ a else matchP most ds (s - 257) a) (symsP most ls ds f)
def storedP (most : Int) (a : Acc) : Ps Acc :=
  bnd alignP fun _ => bnd (fieldsP [16, 16]) fun n => if n.getD 0 0 + n.getD 1 0 = 65535 then bnd (bytesP (n.getD 0 0)) fun bs => addAll most bs a else bad 4
def repB (s : Nat) : Nat := if s = 18 then 7 else if s = 17 then 3 else 2
def repL (s : Nat) : Nat := if s = 18 then 11 else 3
def codeGo (cl : List Int) (n : Nat) : Nat → List Int → Ps (List Int)
  | 0, _ => bad 99
  | f + 1, l => if l.length < n then bnd (readP cl) fun s => if s < 16 then codeGo cl n f (l ++ [(s : Int)]) else if s = 16 ∧ l = [] then bad 4 else
      bnd (bitsP (repB s)) fun m => codeGo cl n f (l ++ List.replicate (repL s + m) (if s = 16 then l.getLastD 0 else 0))
    else if n < l.length then bad 4 else rtn l
def orderT : List Nat := [16, 17, 18, 0, 8, 7, 9, 6, 10, 5, 11, 4, 12, 3, 13, 2, 14, 1, 15]
def placeL (told : List Nat) : Nat → List Int
  | 0 => List.replicate 19 0
  | i + 1 => (placeL told i).set (orderT.getD i 0) (told.getD i 0 : Nat)
instance (l : List Int) : Decidable (lensOk l) := by unfold lensOk; infer_instance
instance (l : List Int) : Decidable (sumOk l) := by unfold sumOk; infer_instance
def makeP (l : List Int) : Ps Unit := if lensOk l then (if sumOk l then rtn () else bad 4) else bad 1
def lenCodesP (k : Nat) : Ps (List Int) := bnd (fieldsP (List.replicate k 3)) fun told => bnd (makeP (placeL told k)) fun _ => rtn (placeL told k)
def makeBoth (ls ds : List Int) : Ps (List Int × List Int) := if ls.getD 256 0 = 0 then bad 4 else bnd (makeP ls) fun _ => bnd (makeP ds) fun _ => rtn (ls, ds)
def dynP : Ps (List Int × List Int) :=
  bnd (fieldsP [5, 5, 4]) fun n => if 286 < n.getD 0 0 + 257 ∨ 30 < n.getD 1 0 + 1 then bad 4 else
    bnd (lenCodesP (n.getD 2 0 + 4)) fun cl => bnd (codeGo cl (n.getD 0 0 + 257 + (n.getD 1 0 + 1)) 1000 []) fun l => makeBoth (l.take (n.getD 0 0 + 257)) (l.drop (n.getD 0 0 + 257))
def FUEL : Nat := 10000000000
def blockP (most : Int) (t : Nat) (a : Acc) : Ps Acc :=
  if t = 0 then storedP most a else if t = 1 then symsP most fixedL (List.replicate 32 5) FUEL a else if t = 2 then bnd dynP fun c => symsP most c.1 c.2 FUEL a else bad 4
def blocksP (most : Int) : Nat → Acc → Ps Acc
  | 0, _ => bad 99
  | f + 1, a => bnd (fieldsP [1, 2]) fun h => bnd (blockP most (h.getD 1 0) a) fun a' => if h.getD 0 0 = 1 then rtn a' else blocksP most f a'
def tokensP (bs : List Nat) (most : Int) : Except Int (List Tk × Nat) :=
  if 0 ≤ most ∧ most ≤ 1048576 then (match blocksP most FUEL ⟨[], 0⟩ (num bs) (8 * bs.length) with
    | .ok (a, _, L) => .ok (a.toks, bs.length - L / 8)
    | .error e => .error e) else .error 1
def okTk (t : Tk) : Bool := if t.len = 0 then decide (t.back = 0 ∧ 0 ≤ t.byte ∧ t.byte ≤ 255) else decide (t.byte = 0 ∧ 3 ≤ t.len ∧ t.len ≤ 258 ∧ 1 ≤ t.back ∧ t.back ≤ 32768)
def copyB : Nat → Nat → List Nat → List Nat
  | 0, _, b => b
  | n + 1, back, b => copyB n back (b ++ [b.getD (b.length - back) 0])
def expTk (t : Tk) (b : List Nat) : List Nat := if t.len = 0 then b ++ [t.byte.toNat] else copyB t.len.toNat t.back.toNat b
def expGo (most : Int) : List Tk → List Nat → Except Int (List Nat)
  | [], b => .ok b
  | t :: l, b => if (b.length : Int) < t.back then .error 4 else if most - b.length < tkSize t then .error 2 else expGo most l (expTk t b)
def expandP (l : List Tk) (most : Int) : Except Int (List Nat) := if 0 ≤ most ∧ most ≤ 1048576 then (if l.all okTk then expGo most l [] else .error 1) else .error 1
def inflP (bs : List Nat) (most : Int) : Except Int (List Nat × Nat) := match tokensP bs most with
  | .error e => .error e
  | .ok (l, n) => match expandP l most with
    | .error e => .error e
    | .ok x => .ok (x, n)
end Go.Proofs.Ytnjdnldoopgcpaa
/- inflate: the decoder in memory; what its steps keep. -/
namespace Go.Proofs.Ytnjdnldoopgcpaa
open Go.RowKit

/-- Where a decoder lies: its reader, the reader's bytes, itself; what was there ahead of it; how many bytes may come out; the rows of the spans. -/
structure Cx where
  B : Nat
  R : Nat
  D : Nat
  base : Nat
  most : Int
  aL : Option Addr
  cL : Nat
  aD : Option Addr
  cD : Nat
def tkV (t : Tk) : List Value := [.int .i64 t.byte, .int .i64 t.len, .int .i64 t.back]
def rowTk (l : List Tk) : List Value := (l.map tkV).flatten
theorem rowTk_snoc (l : List Tk) (t : Tk) : rowTk l ++ [.int .i64 t.byte, .int .i64 t.len, .int .i64 t.back] = rowTk (l ++ [t]) := by unfold rowTk; rw [List.map_append]; exact flat_snoc _ _
theorem tkV_all (l : List Tk) : ∀ cs ∈ l.map tkV, cs.length = 3 := fun cs h => by
  obtain ⟨x, -, rfl⟩ := List.mem_map.1 h
  rfl
def spV (p : Nat × Nat) : List Value := [.int .i64 (p.1 : Int), .int .i64 (p.2 : Int)]
theorem spV_all (l : List (Nat × Nat)) : ∀ cs ∈ l.map spV, cs.length = 2 := fun cs h => by
  obtain ⟨x, -, rfl⟩ := List.mem_map.1 h
  rfl
def SpansAt (w : World) (A : Option Addr) (n c : Nat) (l : List (Nat × Nat)) : Prop := RowAt w A n c 2 (l.map spV) ∧ ∀ R o, A = some ⟨R, o, none⟩ → ∃ cs, Whole w R 93 cs
theorem SpansAt.fr {w w' : World} {A : Option Addr} {n c : Nat} {l : List (Nat × Nat)} (h : SpansAt w A n c l) {S : Nat → Prop} (hf : Fr S w w') (hS : ∀ k cs, Whole w k 93 cs → ¬ S k) : SpansAt w' A n c l :=
  ⟨h.1.moved hf.size (fun R o e => by
    obtain ⟨cs, hw⟩ := h.2 R o e
    exact hf.block R hw.lt (hS R cs hw)), fun R o e => by
    obtain ⟨cs, hw⟩ := h.2 R o e
    exact ⟨cs, hw.frame hf (hS R cs hw)⟩⟩
def decV (x : Cx) (p3 p4 : Value) (made : Int) (v : Value) : Array Value := #[.pointer (some ⟨x.B, 0, none⟩), .slice x.aL 29 x.cL, .slice x.aD 30 x.cD, p3, p4, .int .i64 x.most, .int .i64 made, v]
/-- The blocks that a decoder's steps may turn. -/
def FlS (x : Cx) (w : World) (k : Nat) : Prop := k = x.B ∨ k = x.D ∨ (x.base ≤ k ∧ ∃ cs, Whole w k 35 cs)
def Fl (x : Cx) (w w' : World) : Prop := Fr (FlS x w) w w'
theorem Fl.refl (x : Cx) (w : World) : Fl x w w := Fr.refl _ _
theorem Fl.trans {x : Cx} {a b c : World} (h : Fl x a b) (k : Fl x b c) : Fl x a c := by
  refine Fr.trans h k (fun j hj hs => ?_)
  by_cases hn : FlS x a j
  · exact hn
  · rcases hs with e | e | ⟨hb, cs, hw⟩
    · exact .inl e
    · exact .inr (.inl e)
    · exact .inr (.inr ⟨hb, cs, (Fr.block h j hj hn).symm.trans hw⟩)
theorem Fl.ofB {x : Cx} {w w' : World} (h : Fr (fun k => k = x.B) w w') : Fl x w w' := h.more (fun _ _ e => .inl e)
theorem Fl.grown {x : Cx} {w w' : World} (h : w.grownBy w' (some x.B)) : Fl x w w' := (Fr.of_grown h).more (fun _ _ e => .inl (by injection e))
theorem Fl.new {x : Cx} {w w' : World} (h : Below w.heap.size w w') : Fl x w w' := (Fr.of_below h).more (fun _ hj e => absurd hj (by omega))
theorem Fl.below {x : Cx} {w w' : World} (h : Fl x w w') (hl : x.base ≤ x.B ∧ x.base ≤ x.D ∧ x.base ≤ w.heap.size) : Below x.base w w' :=
  Fr.below h hl.2.2 (fun _ hj hs => by
    rcases hs with e | e | ⟨hb, -⟩ <;> omega)
/-- A table in memory. -/
def TabAt (w : World) (P : Nat) (l : List Int) : Prop := l.length ≤ 320 ∧ ∃ base G v, TB w P base G (cntArr (natsOf l) l.length) v (symsAt l 15 0) (wordsAt l 15 0) l.length
end Go.Proofs.Ytnjdnldoopgcpaa

