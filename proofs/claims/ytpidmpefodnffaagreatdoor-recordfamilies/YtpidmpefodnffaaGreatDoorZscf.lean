import Derived.Test.YtpidmpefodnffaaGreatDoorSce
import Derived.Maps.OwnSet
import Derived.Maps.RangeWalk
import Derived.Sort.KeysCollected
namespace Go.Proofs.YtpidmpefodnffaaGreatDoor
open Go.RowKit Go.Lib Go.Maps
theorem law9 : Keyed Tryz.prog 9 := string_keyed Tryz.underlying9
theorem key9 (x : Bs) (h : x.length ≤ 9223372036854775807) : keyOf Tryz.prog 9 (S x) = some (.string x) := by
  simp [keyOf, Tryz.underlying9, mapKey, ba_len, maxLen, h]
/-- A set: the names that a map has as keys. -/
def SetAt (w : World) (b n : Nat) (u : List Bs) : Prop := ∃ D : DataW Unit, w.ownsMap Tryz.prog 9 (unitElem (H := Unit)) b n D ∧ ∀ x : Bs, Maps.has D (.string x) = true ↔ x ∈ u
theorem SetAt.block {w : World} {b n : Nat} {u : List Bs} (h : SetAt w b n u) : ∃ es c, w.heap[b]? = some (.map es c) := by
  obtain ⟨D, ⟨es, c, hb, _⟩, _⟩ := h
  exact ⟨es, c, hb⟩
theorem SetAt.lt {w : World} {b n : Nat} {u : List Bs} (h : SetAt w b n u) : b < w.heap.size := by
  obtain ⟨es, c, hb⟩ := h.block
  exact (Array.getElem?_eq_some_iff.1 hb).1
theorem SetAt.only {P : Nat → Prop} {w w' : World} {b n : Nat} {u : List Bs} (h : SetAt w b n u) (ho : Only P w w') (hp : ¬ P b) : SetAt w' b n u := by
  have hl := h.lt
  obtain ⟨D, ⟨es, c, hb, r⟩, hx⟩ := h
  exact ⟨D, ⟨es, c, (ho.block b hl hp).trans hb, r⟩, hx⟩
theorem SetAt.ne {w : World} {b n p o : Nat} {u : List Bs} {v : Value} (h : SetAt w b n u) (hc : w.cell? ⟨p, o, none⟩ = some v) : p ≠ b := by
  obtain ⟨es, c, hb⟩ := h.block
  intro e
  subst e
  simp [World.cell?, hb] at hc
theorem Sts.only {P : Nat → Prop} {w w' : World} {a : Option Addr} {n : Nat} {l : List Bs} (h : Sts w a n l) (ho : Only P w w') (hp : ∀ p o j v, a = some ⟨p, o, none⟩ → w.cell? ⟨p, j, none⟩ = some v → ¬ P p) : Sts w' a n l := by
  refine ⟨h.1, fun hn => ?_⟩
  obtain ⟨p, o, e, hc⟩ := h.2 hn
  refine ⟨p, o, e, fun j hj => ?_⟩
  have hb := ho.block p (blk_lt (hc j hj)) (hp p o _ _ e (hc j hj))
  have := hc j hj
  simp only [World.cell?] at this ⊢
  rw [hb]
  exact this
theorem lit_ne {x y : Bs} (h : y ≠ x) : Lit.string y ≠ Lit.string x := fun e => h (by cases e; rfl)
theorem SetAt.put {w1 : World} {b m : Nat} {u : List Bs} {D : DataW Unit} {x : Bs} (h1 : w1.ownsMap Tryz.prog 9 (unitElem (H := Unit)) b (m + 1) (D.put (.string x) (.agg []))) (hD : IsMap D) (hh : ∀ y : Bs, Maps.has D (.string y) = true ↔ y ∈ u) : SetAt w1 b (m + 1) (u ++ [x]) := by
  refine ⟨_, h1, fun y => ?_⟩
  rw [List.mem_append, List.mem_singleton]
  by_cases e : y = x
  · subst e
    rw [has_put_same hD (show WideAt.IsKeyLit (.string y) from trivial)]
    simp
  · rw [has_put_other (lit_ne e), hh y]
    simp [e]
set_option maxHeartbeats 4000000 in
set_option maxRecDepth 8000 in
theorem add_any (b m : Nat) (u : List Bs) (a : Option Addr) (n cap : Nat) (l : List Bs) (w : World) (hs : SetAt w b m u) (hp : Sts w a n l) (hn : n ≤ 140737488355000) (hm : m ≤ 140737488355000) (hL : Lns l) :
    Calls Tryz.prog 214 #[.map (some b), .slice a n cap] w fun e w' => e = .returned (.tuple #[]) ∧ SetAt w' b (m + n) (u ++ l) ∧ Only (fun k => k = b) w w' := by
  have HP := hide hp
  have HN := hide hp.1
  have HS := hide hs
  have HL := hide hL
  clear hp hs hL
  go_enter Tryz.func214, Tryz.ntmps214
  go_wp2
  go_loopw [8] (fun i wr => ∃ k : Nat, k ≤ n ∧ i = .int .i64 k ∧ SetAt wr b (m + k) (u ++ l.take k) ∧ Only (fun k => k = b) w wr) (fun i _ => n - (Go.RowKit.intOf i).toNat)
  case atStart => exact ⟨0, by omega, rfl, by simpa using unhide HS, Only.refl _ _⟩
  case round =>
    obtain ⟨k, hk, rfl, hset, honly⟩ := hrel
    by_cases hlt : k < n
    · have hkl : k < l.length := by have := unhide HN; omega
      have hp2 : Sts wr a n l := (unhide HP).only honly (fun p o j v e hc => (unhide HS).ne hc)
      obtain ⟨p, o, rfl, hpl, hc0⟩ := hp2.at hlt
      have hne := hset.ne hc0
      have hlt' : (k : Int) < (n : Int) := by omega
      have hkey := key9 (l.getD k []) (unhide HL k)
      have HT := hide (show l.take (k + 1) = l.take k ++ [l.getD k []] by rw [take_snocS l k hkl]; simp [hkl])
      obtain ⟨D, hown, hhas⟩ := hset
      have HH := hide hhas
      have HO := hide honly
      have HW := hide hown
      clear hhas honly hp2 hown
      generalize l.getD k [] = x at *
      go_wp2_with (first | (at_mapUpdate; refine wpList_mapUpdate_own _ rfl _ _ _ 287 rfl 9 292 law9 Tryz.underlying287 unitElem b (m + k) D rfl (unhide HW) (by unfold maxLen; omega) _ _ _ rfl rfl hkey (.agg []) [] unitElem_mk ?_; intro w1 hown1 hg1; have HO1 := hide hown1; have HG1 := hide hg1; clear hown1 hg1))
      go_round
      case rel =>
        refine ⟨k + 1, by omega, by go_num, ?_, (unhide HO).trans (Only.of_grown (unhide HG1)) (fun j _ e => (Option.some.inj e).symm)⟩
        rw [unhide HT, ← List.append_assoc]
        exact SetAt.put (unhide HO1) (unhide HW).isMap (unhide HH)
      case measure => simp [Go.RowKit.intOf]; omega
    · have hd : ¬ (k : Int) < (n : Int) := by omega
      have ek : k = n := by omega
      have e : l.take k = l := List.take_of_length_le (by have := unhide HN; omega)
      rw [e, ek] at hset
      have HS2 := hide hset
      have HO := hide honly
      clear hset honly e ek
      go_wp2
      refine bodyPost_end (results_none rfl _ _ _) rfl ?_
      exact ⟨rfl, unhide HS2, unhide HO⟩
theorem setAt_new (w : World) : SetAt (w.alloc (.map #[] 0)) w.heap.size 0 [] := by
  refine ⟨_, World.ownsMap_made w Tryz.prog 9 unitElem, fun x => ?_⟩
  simp [Maps.has]
end Go.Proofs.YtpidmpefodnffaaGreatDoor
namespace Go.Proofs.YtpidmpefodnffaaGreatDoor
open Go.RowKit Go.Lib Go.Maps
theorem invK (key : Value) (kl : Lit) (h : keyOf Tryz.prog 9 key = some kl) : ∃ x : Bs, key = encStr x := by
  obtain ⟨x, hx, _⟩ := Maps.keyOf_str Tryz.underlying9 h
  exact ⟨x, hx⟩
theorem invV (v : Value) (y : DataW Unit × List MemPlace) (h : unitElem (H := Unit) v = some y) : ∃ c : Unit, v = (fun _ : Unit => Value.agg #[]) c := ⟨(), (unitElem_inv h).1⟩
end Go.Proofs.YtpidmpefodnffaaGreatDoor
