import Derived.Test.YtllialbdofklgaaGreatDoorZdsa
import Derived.Test.YtllialbdofklgaaGreatDoorNsh
import Derived.OwnWalk
import Derived.RegionTactic
import Derived.BigRegion
namespace Go.Proofs.YtllialbdofklgaaGreatDoor
open Go.RowKit
set_option maxHeartbeats 4000000
set_option maxRecDepth 8000
theorem clone_any (s : Bs) (w : World) (hs : s.length ≤ 281474976710656) : Calls Tryz.prog 54 #[S s] w fun e w' => e = .returned (S s) ∧ Below w.heap.size w w' := by
  have H := hide (Tryz.stringslite_Clone ⟨s.toArray⟩ w (by simpa [ByteArray.size] using hs))
  go_enter Tryz.func54, Tryz.ntmps54
  go_wp2_with fail
  refine (unhide H).mono ?_
  rintro e w1 ⟨rfl, b1⟩
  have HB := hide b1
  clear b1
  go_wp2
  go_ret
  exact ⟨rfl, unhide HB⟩
/-- Texts in memory. -/
def Sts (w : World) (a : Option Addr) (n : Nat) (l : List Bs) : Prop :=
  n = l.length ∧ (0 < n → ∃ p o, a = some ⟨p, o, none⟩ ∧ ∀ j, j < n → w.cell? ⟨p, o + j, none⟩ = some (S (l.getD j [])))
theorem blk_lt {w : World} {p o : Nat} {v : Value} (h : w.cell? ⟨p, o, none⟩ = some v) : p < w.heap.size := block_lt_of_cell h
theorem Sts.at {w : World} {a : Option Addr} {n : Nat} {l : List Bs} (h : Sts w a n l) {j : Nat} (hj : j < n) : ∃ p o, a = some ⟨p, o, none⟩ ∧ p < w.heap.size ∧ w.cell? ⟨p, o + j, none⟩ = some (S (l.getD j [])) := by
  obtain ⟨p, o, e, hc⟩ := h.2 (by omega)
  exact ⟨p, o, e, blk_lt (hc j hj), hc j hj⟩
theorem Sts.below {w w' : World} {a : Option Addr} {n : Nat} {l : List Bs} (h : Sts w a n l) (hb : Below w.heap.size w w') : Sts w' a n l := by
  refine ⟨h.1, fun hn => ?_⟩
  obtain ⟨p, o, e, hc⟩ := h.2 hn
  exact ⟨p, o, e, fun j hj => (hb.cell (by exact blk_lt (hc j hj))).trans (hc j hj)⟩
theorem Sts.of {w : World} {v : Value} {l : List Bs} (h : w.ownsRow 0 9 1 v l.length (l.map S)) : ∃ p cap, v = .slice p l.length cap ∧ Sts w p l.length l ∧ (∀ g o, p = some ⟨g, o, none⟩ → v.ownBlock = some g) := by
  rcases h.2 with ⟨e, q⟩ | ⟨g, cap, cur, e1, e2⟩
  · exact ⟨none, 0, by rw [e, q], ⟨rfl, fun h => by omega⟩, fun g o e => by cases e⟩
  · refine ⟨_, cap, e1, ⟨rfl, fun _ => ⟨g, 0, rfl, fun j hj => ?_⟩⟩, fun g' o e => ?_⟩
    · subst e1
      rw [Nat.zero_add]
      exact owns_cell h j _ (by simp [hj])
    · cases e
      rw [e1]
      rfl
/-- The first k are copied. -/
def half (l : List Bs) (k : Nat) : List Value := (l.take k).map S ++ List.replicate (l.length - k) (S [])
theorem half_set (l : List Bs) (k : Nat) (hk : k < l.length) : (half l k).set k (S (l.getD k [])) = half l (k + 1) := by
  unfold half
  have e : l.length - k = (l.length - (k + 1)) + 1 := by omega
  have hlen : ((l.take k).map S).length = k := by simp; omega
  have e2 : l.getD k [] = l[k] := by simp [hk]
  rw [List.set_append_right _ _ (by omega), hlen, Nat.sub_self, e, List.replicate_succ, List.set_cons_zero, List.take_succ_eq_append_getElem hk, List.map_append, List.append_assoc, e2]
  rfl
theorem half_all (l : List Bs) : half l l.length = l.map S := by simp [half]
theorem half_at (l : List Bs) (k : Nat) (hk : k < l.length) : (half l k)[k]? = some (S []) := by
  unfold half
  have hlen : ((l.take k).map S).length = k := by simp; omega
  rw [List.getElem?_append_right (by omega), hlen, Nat.sub_self, List.getElem?_replicate, if_pos (by omega)]
theorem made9 (m : Nat) : (madeCells #[Value.string ⟨#[]⟩] m).toList = List.replicate m (S []) := by
  unfold madeCells
  apply List.ext_getElem
  · simp
  · intro i h1 h2
    simp [Nat.mod_one]
end Go.Proofs.YtllialbdofklgaaGreatDoor
namespace Go.Proofs.YtllialbdofklgaaGreatDoor
open Go.RowKit
set_option maxHeartbeats 4000000
set_option maxRecDepth 8000
/-- What copy does: things of sz cells each. -/
theorem run_copyk (w : World) (T e ty : TypeId) (z : Value) (sz bys : Nat) (ht : Tryz.prog.underlying T = some (.slice e)) (hinfo : (Tryz.prog.info? e).map (fun i => (i.zero, i.size, i.bytes)) = some (some z, sz, bys))
    (g off dn dcap : Nat) (ad : Addr) (sn scap : Nat) (cur : Array Value) (cs : List Value) (m : Nat) (hm : m = Nat.min sn dn) (hg : w.heap[g]? = some (.cells cur e (0, 0))) (hn : cs.length = m * sz)
    (hsrc : ∀ j v, cs[j]? = some v → w.cell? (ad.add j) = some v) (hfit : off + cs.length ≤ cur.size) (h1 : ∀ v ∈ cs, v.oneCell' = true) :
    (Builtin.copy_ #[T, T] ty #[.slice (some ⟨g, off, none⟩) dn dcap, .slice (some ad) sn scap]).run Tryz.prog w =
      .ok (goInt m) (w.setRow g (cur.toList.take off ++ cs ++ cur.toList.drop (off + cs.length)).toArray) := by
  have hl := run_loadCells_list (P := Tryz.prog) w ad cs hsrc
  have hst := run_storeCells_at Tryz.prog g off e cs 0 cur w hg (by simpa using hfit) h1
  obtain ⟨i0, hi, hz0, hz1, hz2⟩ := info_parts hinfo
  rw [hn] at hl
  simp only [Nat.add_zero] at hst
  simp [Builtin.copy_, run_underlying ht, Builtin.lenOf, Builtin.firstCells, sizeOf, typeInfo, hi, hz1, ← hm, hl, hst]
theorem wp_copyk {ops : Array Oper} {rest : List Oper} {o : Oper} {a : Act} {w : World} {Q : Exit → Act → World → Prop} (T e : TypeId) (z : Value) (sz bys : Nat) (ht : Tryz.prog.underlying T = some (.slice e)) (hinfo : (Tryz.prog.info? e).map (fun i => (i.zero, i.size, i.bytes)) = some (some z, sz, bys)) (hgd : o.guard = none) (d s : Operand)
    (ho : o.op = .call { callee := .builtin .copy, args := #[d, s], argTypes := #[T, T] }) (g off dn dcap : Nat) (ad : Addr) (sn scap : Nat) (hd : a.eval d = .slice (some ⟨g, off, none⟩) dn dcap) (hs : a.eval s = .slice (some ad) sn scap)
    (cur : Array Value) (cs : List Value) (m : Nat) (hm : m = Nat.min sn dn) (hg : w.heap[g]? = some (.cells cur e (0, 0))) (hn : cs.length = m * sz)
    (hsrc : ∀ j v, cs[j]? = some v → w.cell? (ad.add j) = some v) (hfit : off + cs.length ≤ cur.size) (h1 : ∀ v ∈ cs, v.oneCell' = true)
    (h : ∀ w', w' = w.setRow g (cur.toList.take off ++ cs ++ cur.toList.drop (off + cs.length)).toArray → wpList Tryz.prog ops Q rest (a.put o.dst (goInt m)) w') : wpList Tryz.prog ops Q (o :: rest) a w := by
  have hr := run_copyk w T e o.type z sz bys ht hinfo g off dn dcap ad sn scap cur cs m hm hg hn hsrc hfit h1
  refine wpList_plain hgd fun K hK => ?_
  unfold Oper.wp
  simp only [execOp, ho, resolve, invoke, builtin, Sem.run_bind, Sem.run_pure, Result.andThen_ok, List.map_toArray, List.map_cons, List.map_nil, hd, hs, hr]
  exact hK _ _ (h _ rfl)
theorem setRow_only (w : World) (g : Nat) (cs : Array Value) : Only (fun k => k = g) w (w.setRow g cs) := ⟨rfl, rfl, rfl, by simp [World.setRow], fun k _ hk => setRow_other w g k _ hk⟩
end Go.Proofs.YtllialbdofklgaaGreatDoor
namespace Go.Proofs.YtllialbdofklgaaGreatDoor
open Go.RowKit
set_option maxHeartbeats 4000000
set_option maxRecDepth 8000
/-- Numbers in memory. -/
def Ins (w : World) (a : Option Addr) (n : Nat) (l : List Int) : Prop :=
  n = l.length ∧ (0 < n → ∃ p o, a = some ⟨p, o, none⟩ ∧ ∀ j, j < n → w.cell? ⟨p, o + j, none⟩ = some (I (l.getD j 0)))
theorem Ins.at {w : World} {a : Option Addr} {n : Nat} {l : List Int} (h : Ins w a n l) {j : Nat} (hj : j < n) : ∃ p o, a = some ⟨p, o, none⟩ ∧ p < w.heap.size ∧ w.cell? ⟨p, o + j, none⟩ = some (I (l.getD j 0)) := by
  obtain ⟨p, o, e, hc⟩ := h.2 (by omega)
  exact ⟨p, o, e, blk_lt (hc j hj), hc j hj⟩
theorem Ins.below {w w' : World} {a : Option Addr} {n : Nat} {l : List Int} (h : Ins w a n l) (hb : Below w.heap.size w w') : Ins w' a n l := by
  refine ⟨h.1, fun hn => ?_⟩
  obtain ⟨p, o, e, hc⟩ := h.2 hn
  exact ⟨p, o, e, fun j hj => (hb.cell (by exact blk_lt (hc j hj))).trans (hc j hj)⟩
theorem Ins.only {P : Nat → Prop} {w w' : World} {a : Option Addr} {n : Nat} {l : List Int} (h : Ins w a n l) (hb : Only P w w') (hp : ∀ g o, a = some ⟨g, o, none⟩ → ¬ P g) : Ins w' a n l := by
  refine ⟨h.1, fun hn => ?_⟩
  obtain ⟨p, o, e, hc⟩ := h.2 hn
  exact ⟨p, o, e, fun j hj => (World.cell?_of_block (hb.block p (blk_lt (hc j hj)) (hp p o e))).trans (hc j hj)⟩
theorem Ins.of {w : World} {v : Value} {l : List Int} (h : w.ownsRow 0 3 1 v l.length (l.map fun n => I n)) : ∃ p cap, v = .slice p l.length cap ∧ Ins w p l.length l ∧ (∀ g o, p = some ⟨g, o, none⟩ → v.ownBlock = some g) := by
  rcases h.2 with ⟨e, q⟩ | ⟨g, cap, cur, e1, e2⟩
  · exact ⟨none, 0, by rw [e, q], ⟨rfl, fun h => by omega⟩, fun g o e => by cases e⟩
  · refine ⟨_, cap, e1, ⟨rfl, fun _ => ⟨g, 0, rfl, fun j hj => ?_⟩⟩, fun g' o e => ?_⟩
    · subst e1
      rw [Nat.zero_add]
      exact owns_cell h j _ (by simp [hj])
    · cases e
      rw [e1]
      rfl
theorem Ins.nil (w : World) (a : Option Addr) : Ins w a 0 [] := ⟨rfl, fun h => by omega⟩
end Go.Proofs.YtllialbdofklgaaGreatDoor
