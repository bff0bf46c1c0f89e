import Derived.Test.YtpelmacblglhoaaDsr
import Derived.Test.YtpelmacblglhoaaDso
import Derived.Test.YtpelmacblglhoaaDsp
namespace Go.Proofs.Ytpelmacblglhoaa
open Go.RowKit
set_option maxHeartbeats 4000000
set_option maxRecDepth 8000
/-- What lasts behind the first k pending writes of a crash. -/
def crs (last : List Bs) (ws : List Wr) (st : St) : Nat → List Bs
  | 0 => last
  | k + 1 => let l := crs last ws st k; let x := ws.getD k (0, []); l.set x.1 (tornv (l.getD x.1 []) x.2 ((st.getD k none).getD 0))
theorem tornv_len (a b : Bs) (s : Nat) (h1 : a.length = 512) (h2 : b.length = 512) : (tornv a b s).length = 512 := by
  have := tornK_len a b s 8 h1 h2 (by omega)
  exact this
theorem crs_len (last : List Bs) (ws : List Wr) (st : St) (k : Nat) : (crs last ws st k).length = last.length := by
  induction k with
  | zero => rfl
  | succ k ih => simp [crs, ih]
theorem set_sz {l : List Bs} {i : Nat} {x : Bs} (h : ∀ y ∈ l, y.length = 512) (hx : x.length = 512) : ∀ y ∈ l.set i x, y.length = 512 := by
  intro y hy
  rcases List.mem_or_eq_of_mem_set hy with q | q
  · exact h y q
  · rw [q]; exact hx
theorem crs_sz {last : List Bs} {ws : List Wr} (st : St) (h : ∀ y ∈ last, y.length = 512) (hw : ∀ x ∈ ws, x.1 < last.length ∧ x.2.length = 512) (k : Nat) (hk : k ≤ ws.length) : ∀ y ∈ crs last ws st k, y.length = 512 := by
  induction k with
  | zero => exact h
  | succ k ih =>
    have hx := hw _ (mem_getD (z := (0, [])) (show k < ws.length by omega))
    refine set_sz (ih (by omega)) (tornv_len _ _ _ (ih (by omega) _ (mem_getD ?_)) hx.2)
    rw [crs_len]
    exact hx.1
/-- Between two writes of a crash. -/
structure Crs (w : World) (D : Nat) (d : Ds) (vl vw : Value) (g1 : Nat) (st : St) (k : Nat) (W : World) : Prop where
  dat : DAt D { d with ws := [], last := crs d.last d.ws st k } (.slice none 0 0) vl W
  ws : W.ownsRow 0 69 2 vw d.ws.length (cellsW d.ws)
  ss : W.ownsRow 0 3 1 (.slice (some ⟨g1, 0, none⟩) d.ws.length d.ws.length) d.ws.length (cellsN st)
  onl : Only (fun k => k = D ∨ vl.ownBlock = some k) w W
/-- Another block of texts than the others. -/
theorem Crs.step {w W W' : World} {D : Nat} {d : Ds} {vl vw : Value} {g1 : Nat} {st : St} {k g n cap : Nat} (h : Crs w D d vl vw g1 st k W) (b : Below W.heap.size W W') (hv : vl = .slice (some ⟨g, 0, none⟩) n cap) :
    Crs w D d vl vw g1 st (k + 1) (W'.setCell ⟨g, (d.ws.getD k (0, [])).1, none⟩ (S (tornv ((crs d.last d.ws st k).getD (d.ws.getD k (0, [])).1 []) (d.ws.getD k (0, [])).2 ((st.getD k none).getD 0)))) := by
  subst hv
  have hd := h.dat.below b
  have hw := owns_below h.ws b
  have hs := owns_below h.ss b
  have hls := hd.ls
  have hlen : (({ d with ws := [], last := crs d.last d.ws st k } : Ds).last).length = n := by
    obtain ⟨p, c, e⟩ := owns_form hls
    cases e
    rfl
  have oth : ∀ {t a m : Nat} {v : Value} {xs : List Value}, W'.ownsRow 0 t a v m xs → t ≠ 9 → ∀ k, v.ownBlock = some k → ¬ k = g := by
    intro t a m v xs hv ht k hk q
    obtain ⟨c1, q1⟩ := owns_lt hv k hk
    obtain ⟨c2, q2⟩ := owns_lt hls g rfl
    rw [q, q2] at q1
    cases q1
    exact ht rfl
  generalize hi : (d.ws.getD k (0, [])).1 = i
  generalize hx : tornv ((crs d.last d.ws st k).getD i []) (d.ws.getD k (0, [])).2 ((st.getD k none).getD 0) = x
  have e : crs d.last d.ws st (k + 1) = (crs d.last d.ws st k).set i x := by
    show List.set _ _ _ = _
    rw [hi, hx]
  have O := Only.setCell W' ⟨g, i, none⟩ (S x)
  refine ⟨⟨?_, owns_nil _ _ _, ?_⟩, owns_only hw O (oth hw (by decide)), owns_only hs O (oth hs (by decide)), ?_⟩
  · rw [O.block D hd.lt (fun q => hd.nl g rfl q.symm)]
    exact hd.blk
  · show World.ownsRow _ 0 9 1 _ (crs d.last d.ws st (k + 1)).length ((crs d.last d.ws st (k + 1)).map S)
    rw [e, List.length_set, List.map_set]
    have e2 : (crs d.last d.ws st k).length = n := hlen
    rw [e2]
    have h3 := hls
    rw [hlen] at h3
    exact owns_set h3 i (S x)
  · exact (h.onl.trans (Only.of_below (P := fun _ => False) b) (fun _ _ q => q.elim)).put ⟨g, i, none⟩ (S x) (Or.inl (Or.inr rfl))
end Go.Proofs.Ytpelmacblglhoaa
