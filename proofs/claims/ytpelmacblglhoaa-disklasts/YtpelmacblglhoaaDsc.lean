import Derived.Test.YtpelmacblglhoaaDsb
import Derived.Test.YtpelmacblglhoaaDsh
import Derived.OwnWalk
namespace Go.Proofs.Ytpelmacblglhoaa
open Go.RowKit
set_option maxHeartbeats 4000000
set_option maxRecDepth 8000
theorem clone_any (s : Bs) (w : World) (hs : s.length ≤ 281474976710656) : Calls Try.prog 55 #[S s] w fun e w' => e = .returned (S s) ∧ Below w.heap.size w w' := by
  have H := hide (Try.stringslite_Clone ⟨s.toArray⟩ w (by simpa [ByteArray.size] using hs))
  go_enter Try.func55, Try.ntmps55
  go_wp2_with fail
  refine (unhide H).mono ?_
  rintro e w1 ⟨rfl, b1⟩
  have HB := hide b1
  clear b1
  go_wp2
  go_ret
  exact ⟨rfl, unhide HB⟩
/-- Texts in memory. -/
def Sts (w : World) (a : Option Addr) (n : Nat) (l : List Bs) : Prop :=
  n = l.length ∧ (0 < n → ∃ p o, a = some ⟨p, o, none⟩ ∧ ∀ j, j < n → w.cell? ⟨p, o + j, none⟩ = some (S (l.getD j [])))
theorem blk_lt {w : World} {p o : Nat} {v : Value} (h : w.cell? ⟨p, o, none⟩ = some v) : p < w.heap.size := block_lt_of_cell h
theorem Sts.at {w : World} {a : Option Addr} {n : Nat} {l : List Bs} (h : Sts w a n l) {j : Nat} (hj : j < n) : ∃ p o, a = some ⟨p, o, none⟩ ∧ p < w.heap.size ∧ w.cell? ⟨p, o + j, none⟩ = some (S (l.getD j [])) := by
  obtain ⟨p, o, e, hc⟩ := h.2 (by omega)
  exact ⟨p, o, e, blk_lt (hc j hj), hc j hj⟩
theorem Sts.below {w w' : World} {a : Option Addr} {n : Nat} {l : List Bs} (h : Sts w a n l) (hb : Below w.heap.size w w') : Sts w' a n l := by
  refine ⟨h.1, fun hn => ?_⟩
  obtain ⟨p, o, e, hc⟩ := h.2 hn
  exact ⟨p, o, e, fun j hj => (hb.cell (by exact blk_lt (hc j hj))).trans (hc j hj)⟩
theorem Sts.of {w : World} {v : Value} {l : List Bs} (h : w.ownsRow 0 9 1 v l.length (l.map S)) : ∃ p cap, v = .slice p l.length cap ∧ Sts w p l.length l ∧ (∀ g o, p = some ⟨g, o, none⟩ → v.ownBlock = some g) := by
  rcases h.2 with ⟨e, q⟩ | ⟨g, cap, cur, e1, e2⟩
  · exact ⟨none, 0, by rw [e, q], ⟨rfl, fun h => by omega⟩, fun g o e => by cases e⟩
  · refine ⟨_, cap, e1, ⟨rfl, fun _ => ⟨g, 0, rfl, fun j hj => ?_⟩⟩, fun g' o e => ?_⟩
    · subst e1
      rw [Nat.zero_add]
      exact owns_cell h j _ (by simp [hj])
    · cases e
      rw [e1]
      rfl
/-- The first k are copied. -/
def half (l : List Bs) (k : Nat) : List Value := (l.take k).map S ++ List.replicate (l.length - k) (S [])
theorem half_set (l : List Bs) (k : Nat) (hk : k < l.length) : (half l k).set k (S (l.getD k [])) = half l (k + 1) := by
  unfold half
  have e : l.length - k = (l.length - (k + 1)) + 1 := by omega
  have hlen : ((l.take k).map S).length = k := by simp; omega
  have e2 : l.getD k [] = l[k] := by simp [hk]
  rw [List.set_append_right _ _ (by omega), hlen, Nat.sub_self, e, List.replicate_succ, List.set_cons_zero, List.take_succ_eq_append_getElem hk, List.map_append, List.append_assoc, e2]
  rfl
theorem half_all (l : List Bs) : half l l.length = l.map S := by simp [half]
theorem half_at (l : List Bs) (k : Nat) (hk : k < l.length) : (half l k)[k]? = some (S []) := by
  unfold half
  have hlen : ((l.take k).map S).length = k := by simp; omega
  rw [List.getElem?_append_right (by omega), hlen, Nat.sub_self, List.getElem?_replicate, if_pos (by omega)]
theorem made9 (m : Nat) : (madeCells #[Value.string ⟨#[]⟩] m).toList = List.replicate m (S []) := by
  unfold madeCells
  apply List.ext_getElem
  · simp
  · intro i h1 h2
    simp [Nat.mod_one]
theorem copies_any (a : Option Addr) (n cap : Nat) (l : List Bs) (w : World) (hp : Sts w a n l) (hL : ∀ x ∈ l, x.length ≤ 281474976710656) (hn : n ≤ 1000000000000) :
    Calls Try.prog 41 #[.slice a n cap] w fun e w' => ∃ V, e = .returned V ∧ w'.ownsRow 0 9 1 V l.length (l.map S) ∧ (∀ k, V.ownBlock = some k → w.heap.size ≤ k) ∧ Below w.heap.size w w' := by
  have hN := hp.1
  subst hN
  have HP := hide hp
  have HL := hide hL
  clear hp hL
  go_enter Try.func41, Try.ntmps41
  go_wp2_with (first | (refine make_own 28 9 _ 1 16 Try.underlying28 info9 rfl (.tmp 7) (.tmp 7) rfl _ _ l.length rfl rfl rfl rfl (by omega) (by omega) ?_; intro w1 ho1 b1 _; have HO1 := hide ho1; have HB1 := hide b1; clear ho1 b1) | fail)
  go_loopw [11] (fun i wr => ∃ k : Nat, k ≤ l.length ∧ i = .int .i64 k ∧ wr.ownsRow 0 9 1 (.slice (some ⟨w.heap.size, 0, none⟩) l.length l.length) l.length (half l k) ∧ Below w.heap.size w wr) (fun i _ => l.length - (Go.RowKit.intOf i).toNat)
  case atStart =>
    refine ⟨0, by omega, rfl, ?_, unhide HB1⟩
    have := unhide HO1
    rw [show (Value.string ⟨#[]⟩).cells = #[Value.string ⟨#[]⟩] from rfl, made9, Nat.mul_one] at this
    simpa [half] using this
  case round =>
    obtain ⟨k, hk, rfl, ho, hb⟩ := hrel
    have HO := hide ho
    have HB := hide hb
    by_cases hlt : k < l.length
    · obtain ⟨p, o, rfl, hpl, hc0⟩ := ((unhide HP).below hb).at hlt
      have hlt' : (k : Int) < (l.length : Int) := by omega
      have hx : l.getD k [] ∈ l := by rw [List.getD_eq_getElem?_getD, List.getElem?_eq_getElem hlt]; exact List.getElem_mem hlt
      have HS := hide (half_set l k hlt)
      have hl := unhide HL _ hx
      clear hx
      generalize l.getD k [] = x at *
      have H1 := hide (clone_any x wr hl)
      clear ho hb
      go_wp2_with fail
      refine (unhide H1).mono ?_
      rintro e w2 ⟨rfl, b2⟩
      have ho2 := owns_below (unhide HO) b2
      have hc2 := owns_cell ho2 k (S []) (half_at l k hlt)
      have hl2 := blk_lt hc2
      have hz2 : w2.frozen? ⟨w.heap.size, k, none⟩ = false := by
        obtain ⟨cs, q⟩ := owns_lt ho2 _ rfl
        exact frz q k
      have ho3 := owns_set ho2 k (S x)
      rw [unhide HS] at ho3
      have HO3 := hide ho3
      have HB3 := hide ((((unhide HB).trans (b2.mono (unhide HB).size))).setCell (p := ⟨w.heap.size, k, none⟩) (Nat.le_refl _) (S x))
      clear b2 H1 hc0 ho2 ho3 HB HO HS
      go_wp2
      go_round
      case measure => simp [Go.RowKit.intOf]; omega
      case rel => exact ⟨k + 1, by omega, by simp, unhide HO3, unhide HB3⟩
    · have hlt' : ¬ (k : Int) < (l.length : Int) := by omega
      obtain rfl : k = l.length := by omega
      clear ho hb
      go_wp2
      go_ret
      refine ⟨_, rfl, ?_, ?_, unhide HB⟩
      · have := unhide HO
        rwa [half_all] at this
      · intro k hk
        cases hk
        exact Nat.le_refl _
theorem blocks_any {D : Nat} {d : Ds} {vw vl : Value} {w : World} (h : DAt D d vw vl w) (hL : ∀ x ∈ d.last, x.length ≤ 281474976710656) (hn : d.last.length ≤ 1000000000000) :
    Calls Try.prog 11 #[ptr D] w fun e w' => ∃ V, e = .returned V ∧ w'.ownsRow 0 9 1 V d.last.length (d.last.map S) ∧ (∀ k, V.ownBlock = some k → w.heap.size ≤ k) ∧ Below w.heap.size w w' := by
  obtain ⟨c0, c1, c2, c3, c4⟩ := h.c
  have hl := h.lt
  obtain ⟨p, cap, rfl, hs, _⟩ := Sts.of h.ls
  have H1 := hide (copies_any p _ cap d.last w hs hL hn)
  clear h hs hL
  generalize hm : d.last.length = n at *
  go_enter Try.func11, Try.ntmps11
  go_wp2_with fail
  refine (unhide H1).mono ?_
  rintro e w2 ⟨V, rfl, q⟩
  have HQ := hide q
  clear q
  go_wp2
  go_ret
  exact ⟨V, rfl, unhide HQ⟩
end Go.Proofs.Ytpelmacblglhoaa
