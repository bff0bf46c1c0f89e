import Derived.Test.YthddilflldkmfaaDoorRge
import Derived.Test.YthddilflldkmfaaDoorLeta
namespace Go.Proofs.YthddilflldkmfaaDoor
open Go.RowKit Go.Lib
/-- A step of a script, as it lies in memory. -/
structure Ro where
  kd : Int
  on : Int
  sz : Int
  nn : Int
  s : List UInt8
  lp : Option Addr
  ln : Nat
  lc : Nat
def ro0 : Ro := ⟨0, 0, 0, 0, [], none, 0, 0⟩
structure RoAt (w : World) (p q : Nat) (x : Ro) : Prop where
  c0 : w.cell? ⟨p, q, none⟩ = some (.int .i64 x.kd)
  c1 : w.cell? ⟨p, q + 1, none⟩ = some (.int .i64 x.on)
  c2 : w.cell? ⟨p, q + 2, none⟩ = some (.int .i64 x.sz)
  c3 : w.cell? ⟨p, q + 3, none⟩ = some (.int .i64 x.nn)
  c4 : w.cell? ⟨p, q + 4, none⟩ = some (.string ⟨x.s.toArray⟩)
  c5 : w.cell? ⟨p, q + 5, none⟩ = some (.slice x.lp x.ln x.lc)
theorem RoAt.keep {w w' : World} {p q : Nat} {x : Ro} (h : RoAt w p q x) (e : w'.heap[p]? = w.heap[p]?) : RoAt w' p q x :=
  ⟨(World.cell?_of_block e).trans h.c0, (World.cell?_of_block e).trans h.c1, (World.cell?_of_block e).trans h.c2, (World.cell?_of_block e).trans h.c3, (World.cell?_of_block e).trans h.c4, (World.cell?_of_block e).trans h.c5⟩
/-- Steps, one behind the other in memory. -/
def Ros (w : World) (a : Option Addr) (n : Nat) (os : List Ro) : Prop :=
  n = os.length ∧ (0 < n → ∃ p o, a = some ⟨p, o, none⟩ ∧ ∀ j, j < n → RoAt w p (o + j * 6) (os.getD j ro0))
theorem Ros.at {w : World} {a : Option Addr} {n : Nat} {os : List Ro} (h : Ros w a n os) {j : Nat} (hj : j < n) : ∃ p o, a = some ⟨p, o, none⟩ ∧ p < w.heap.size ∧ RoAt w p (o + j * 6) (os.getD j ro0) := by
  obtain ⟨p, o, e, hc⟩ := h.2 (by omega)
  exact ⟨p, o, e, block_lt_of_cell (hc j hj).c0, hc j hj⟩
theorem Ros.below {w w' : World} {a : Option Addr} {n : Nat} {os : List Ro} (h : Ros w a n os) (hb : Below w.heap.size w w') : Ros w' a n os := by
  refine ⟨h.1, fun hn => ?_⟩
  obtain ⟨p, o, e, hc⟩ := h.2 hn
  exact ⟨p, o, e, fun j hj => (hc j hj).keep (hb.block p (block_lt_of_cell (hc j hj).c0))⟩
/-- How great a script is. -/
def szf (n : Nat) (x : Ro) : Nat := addN (addN n 100) (addN x.s.length (8 * min x.ln 2147483647))
def szo (os : List Ro) : Nat := os.foldl szf 0
theorem szo_next (os : List Ro) (k : Nat) (h : k < os.length) : szo (os.take (k + 1)) = szf (szo (os.take k)) (os.getD k ro0) := by
  have e : os.take (k + 1) = os.take k ++ [os.getD k ro0] := by
    rw [List.take_succ_eq_append_getElem h]
    simp [h]
  unfold szo
  rw [e, List.foldl_append]
  rfl
theorem szo_le (os : List Ro) : szo os ≤ 2147483648 := by
  suffices ∀ (l : List Ro) (n : Nat), n ≤ 2147483648 → l.foldl szf n ≤ 2147483648 from this os 0 (by omega)
  intro l
  induction l with
  | nil => exact fun n h => h
  | cons x l ih => exact fun n _ => ih _ (addN_bd _ _)
theorem szo_stay (l : List Ro) : l.foldl szf 2147483648 = 2147483648 := by
  induction l with
  | nil => rfl
  | cons x l ih =>
    have : szf 2147483648 x = 2147483648 := by
      have e : addN 2147483648 100 = 2147483648 := by simp [addN]
      unfold szf
      rw [e]
      unfold addN
      rw [if_pos (by omega)]
    rw [List.foldl_cons, this]
    exact ih
theorem szo_top (os : List Ro) (k : Nat) (h : ¬ szo (os.take k) ≤ 2147483647) : szo os = 2147483648 := by
  have h2 := szo_le (os.take k)
  have e : szo (os.take k) = 2147483648 := by omega
  have : szo os = (os.drop k).foldl szf (szo (os.take k)) := by
    unfold szo
    rw [← List.foldl_append, List.take_append_drop]
  rw [this, e]
  exact szo_stay _
theorem updl_of {L : Nat → Bool} {i j : Nat} (h : L j = true) : upd L i j = true := by by_cases e : j = i <;> simp [upd, e, h]
def WdZ (w : World) (L : Nat → Bool) (W : World) : Prop := Below w.heap.size w W ∧ (L 18 = true → L 0 = true)
theorem WdZ.step {w : World} {L : Nat → Bool} {W : World} (h : WdZ w L W) (i : Nat) (hi : i ≠ 18) : WdZ w (upd L i) W :=
  ⟨h.1, fun q => updl_of (h.2 (by simpa [upd, Ne.symm hi] using q))⟩
set_option maxHeartbeats 1000000 in
set_option maxRecDepth 8000 in
theorem size_any (a : Option Addr) (n cap : Nat) (os : List Ro) (w : World) (hp : Ros w a n os) (hn : n ≤ 140737488351232) (hps : ∀ j, (os.getD j ro0).s.length ≤ 140737488351232) :
    Calls Tryd.prog 8 #[.slice a n cap] w fun e w' => e = .returned (.int .i64 (szo os : Nat)) ∧ Below w.heap.size w w' := by
  have HP := hide hp
  clear hp
  go_enter Tryd.func8, Tryd.ntmps8
  go_wp2
  go_loopw [3, 4] (fun c i wr => ∃ k : Nat, k ≤ n ∧ i = .int .i64 k ∧ c = .int .i64 ((szo (os.take k) : Nat) : Int) ∧ Below w.heap.size w wr) (fun _ i _ => n - (Go.RowKit.intOf i).toNat)
  case atStart => exact ⟨0, by omega, rfl, by simp [szo], Below.refl _ _⟩
  case round =>
    obtain ⟨k, hkn, rfl, rfl, hbr⟩ := hrel
    have hle := szo_le (os.take k)
    by_cases hlt : k < n
    · by_cases hm : szo (os.take k) ≤ 2147483647
      · obtain ⟨p, o, rfl, hpl, hro⟩ := ((unhide HP).below hbr).at hlt
        have hnx := hide (szo_next os k (by have := (unhide HP).1; omega))
        have hX := hps k
        generalize os.getD k ro0 = X at *
        generalize szo (os.take k) = C at *
        have hm' : (C : Int) ≤ 2147483647 := by omega
        have hlt' : (k : Int) < (n : Int) := by omega
        have hb1 := addN_bd C 100
        have hb2 := addN_bd X.s.length (8 * min X.ln 2147483647)
        have HRO := hide hro
        have HBR := hide hbr
        clear hro hbr
        go_wp2_with fail
        refine rgs p o n cap k C X.ln X.lc (min X.ln 2147483647) (addN C 100) (addN X.s.length (8 * min X.ln 2147483647)) (szf C X) X.lp X.s rfl rfl rfl _ _ (show 33 ≤ 34 from by decide) rfl rfl rfl (WdZ wr) ?h0 ?hp ?hcl ?hlate hlt hlt ?l6 ?l12 ?m14 ?m15 ?c1 ?c16 ?c17 ?_
        case h0 => exact ⟨(Below.refl _ _).drew, fun h => by cases h⟩
        case hp => exact fun i hi L W hW => hW.step i (by intro e; subst e; simp at hi)
        case hcl => exact fun L W hW h => hW.2 h
        case hlate => exact fun L W hW h0 => ⟨hW.1, fun _ => updl_of h0⟩
        case l6 => exact fun L W hW => (World.cell?_of_block (hW.1.block p hpl)).trans (unhide HRO).c4
        case l12 => exact fun L W hW => (World.cell?_of_block (hW.1.block p hpl)).trans (unhide HRO).c5
        case m14 =>
          congr 1
          split <;> omega
        case m15 => omega
        case c1 => exact fun L W hW _ => (add_any C 100 W (by omega) (by omega)).mono (fun e w' h => ⟨h.1, by rw [h.2]; exact hW.step 1 (by decide)⟩)
        case c16 => exact fun L W hW _ => (add_any X.s.length (8 * min X.ln 2147483647) W (by omega) (by omega)).mono (fun e w' h => ⟨h.1, by rw [h.2]; exact hW.step 16 (by decide)⟩)
        case c17 => exact fun L W hW _ => (add_any (addN C 100) (addN X.s.length (8 * min X.ln 2147483647)) W (by omega) (by omega)).mono (fun e w' h => ⟨h.1, by rw [h.2]; exact hW.step 17 (by decide)⟩)
        intro L W _ hW
        have HW := hide ((unhide HBR).trans (hW.1.mono (unhide HBR).size))
        clear hW HRO
        simp only [put_list]
        generalize szf C X = G at *
        generalize addN C 100 = D1 at *
        generalize addN X.s.length (8 * min X.ln 2147483647) = D2 at *
        generalize min X.ln 2147483647 = M at *
        generalize (8 * (M : Int)) = M8 at *
        simp only [List.set_cons_succ, List.set_cons_zero]
        go_wp2
        go_roundw
        case rel => exact ⟨k + 1, by omega, by go_num, by rw [unhide hnx], unhide HW⟩
        case measure => simp [Go.RowKit.intOf]; omega
      · have e := szo_top os k hm
        have e2 : szo (os.take k) = 2147483648 := by omega
        rw [e2]
        clear hm e2 hle
        have he := hide e
        clear e
        go_wp2
        go_ret
        exact ⟨by rw [unhide he]; rfl, hbr⟩
    · have hkn' : k = n := by omega
      have e : os.take k = os := List.take_of_length_le (by have := (unhide HP).1; omega)
      rw [e] at hle ⊢
      have hd : decide (k < n) = false := by simp; omega
      generalize hC : szo os = C at *
      clear hlt hkn'
      go_wp2
      go_ret
      exact ⟨by rw [hC]; rfl, hbr⟩
end Go.Proofs.YthddilflldkmfaaDoor
