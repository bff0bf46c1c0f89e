import Derived.Test.YtpelmacblglhoaaDsv
import Derived.Test.YtpelmacblglhoaaDse
namespace Go.Proofs.Ytpelmacblglhoaa
open Go.RowKit
set_option maxHeartbeats 4000000
set_option maxRecDepth 8000
def newv (n : Int) : Int := if mayv n then 0 else 1
/-- Texts in a row of one's own, none of it old. -/
structure Ows (w : World) (V : Value) (l : List Bs) (wr : World) : Prop where
  row : wr.ownsRow 0 9 1 V l.length (l.map S)
  new : ∀ k, V.ownBlock = some k → w.heap.size ≤ k
  bel : Below w.heap.size w wr
theorem Ows.nil (w : World) : Ows w (.slice none 0 0) [] w := ⟨owns_nil _ _ _, (fun _ h => nomatch h), Below.refl _ _⟩
theorem Ows.below {w wr w' : World} {V : Value} {l : List Bs} (h : Ows w V l wr) (hb : Below wr.heap.size wr w') : Ows w V l w' :=
  ⟨owns_below h.row hb, h.new, h.bel.trans (hb.mono h.bel.size)⟩
theorem wp_pushS {ops : Array Oper} {rest : List Oper} {o : Oper} {ac : Act} {Q : Exit → Act → World → Prop} {w wr : World} {V : Value} {l : List Bs} {x : Bs} (hgd : o.guard = none) (p q : Operand) (ho : o.op = .call { callee := .builtin .append, args := #[p, q], argTypes := #[28, 28] })
    (hp : ac.eval p = V) (hq : ac.eval q = .slice (some ⟨wr.heap.size, 0, none⟩) 1 1) (h : Ows w V l wr) (hs : l.length ≤ 1000000000)
    (hn : ∀ V' w', Ows w V' (l ++ [x]) w' → wpList Try.prog ops Q rest (ac.put o.dst V') w') : wpList Try.prog ops Q (o :: rest) ac (wr.alloc (.cells #[S x] 9)) := by
  refine push_own 28 9 _ 1 16 Try.underlying28 info9 rfl (by decide) hgd p q ho V l.length (l.map S) hp wr h.row [S x] rfl (by intro u hu; obtain rfl := List.mem_singleton.1 hu; rfl) hq (by omega) (by omega) ?_
  intro pp cap w' r1 r2 r3
  refine hn _ w' ⟨?_, fun k hk => ?_, r2.below h.bel h.bel.size h.new⟩
  · rw [List.length_append, List.map_append]; exact r1
  · rcases r3 k hk with r | r
    · exact h.new k r
    · exact Nat.le_trans h.bel.size r
theorem zs_len : zs.length = 512 := by simp [zs]
theorem zs_text {w : World} {g : Nat} (h : w.ownsRow 0 5 1 (.slice (some ⟨g, 0, none⟩) 512 512) 512 (List.replicate 512 (B 0))) : (convert 63 9 (.slice (some ⟨g, 0, none⟩) 512 512)).run Try.prog w = .ok (S zs) w := by
  have := text_of (X := zs) (w := w) (g := g) (by rw [zs_len]; simpa [zs] using h)
  rwa [zs_len] at this
theorem allR_zs (n : Nat) : allR (List.replicate n zs) = true := by
  unfold allR
  rw [List.all_eq_true]
  intro x hx
  rw [(List.mem_replicate.1 hx).2]
  simp [zs_len]
theorem rNew_any (n : Int) (w : World) : Calls Try.prog 19 #[I n] w fun e w' => (∃ v, e = .returned (.tuple #[v, I (newv n)]) ∧ RL (newv n) v) ∧ Below w.heap.size w w' := by
  generalize hr : newv n = r
  have HR := hide hr
  clear hr
  by_cases hm : mayv n = true
  · obtain ⟨m1, m2⟩ : 8 ≤ n ∧ n ≤ 4096 := by simpa [mayv] using hm
    have HN := hide (show newv n = 0 by simp [newv, hm])
    have HM := hide hm
    clear hm
    obtain ⟨c, rfl⟩ : ∃ c : Nat, n = (c : Int) := ⟨n.toNat, by omega⟩
    go_enter Try.func19, Try.ntmps19
    go_wp2
    go_loopw [4, 5] (fun V i wr => ∃ k : Nat, k ≤ c ∧ i = .int .i64 k ∧ Ows w V (List.replicate k zs) wr) (fun _ i _ => c - (Go.RowKit.intOf i).toNat)
    case atStart => exact ⟨0, by omega, rfl, Ows.nil w⟩
    case round =>
      obtain ⟨k, hk, rfl, ho⟩ := hrel
      have HO := hide ho
      clear ho
      by_cases hlt : k < c
      · have hlt' : (k : Int) < (c : Int) := by omega
        go_wp2_with (first
          | (refine make_own 63 5 _ 1 1 Try.underlying63 info5 rfl (.const (.int .i64 512)) (.const (.int .i64 512)) rfl _ _ 512 rfl rfl rfl rfl (by omega) (by omega) ?_; intro w1 ho1 b1 _; rw [made5] at ho1; have HT := hide (zs_text ho1); have HO1 := hide ((unhide HO).below b1); clear ho1 b1)
          | (refine wpList_conv rfl 63 9 (.tmp 18) rfl _ _ (by rfl) (unhide HT) ?_)
          | (at_builtin; refine wp_pushS (x := zs) rfl (.tmp 17) (.tmp 20) rfl (by rfl) (by rfl) (unhide HO1) (by simp; omega) ?_; intro V' w3 hw3; have HO3 := hide hw3; clear hw3))
        go_round
        case measure => simp [Go.RowKit.intOf]; omega
        case rel => exact ⟨k + 1, by omega, by simp, by rw [List.replicate_succ']; exact unhide HO3⟩
      · have hlt' : ¬ (k : Int) < (c : Int) := by omega
        obtain rfl : k = c := by omega
        obtain ⟨p, cap, e, hs, _⟩ := Sts.of (unhide HO).row
        have hL : loadv (List.replicate k zs) = 0 := loadv_ok (by simpa using unhide HM) (allR_zs k)
        have h1 := rLoad_any p _ cap _ wr hs (by simp; omega)
        rw [hL] at h1
        rw [List.length_replicate] at h1 e
        subst e
        have H1 := hide h1
        have HB := hide (unhide HO).bel
        clear h1 hs HO
        go_wp2_with fail
        refine (unhide H1).mono ?_
        rintro e w2 ⟨⟨v, rfl, hv⟩, b2⟩
        obtain ⟨g, rfl⟩ := hv.1 rfl
        have HB2 := hide ((unhide HB).trans (b2.mono (unhide HB).size))
        clear b2 hv
        go_wp2
        go_ret2
        obtain rfl : r = 0 := (unhide HR).symm.trans (unhide HN)
        exact ⟨⟨_, rfl, RL.ok g rfl⟩, unhide HB2⟩
  · have hm2 : mayv n = false := by simpa using hm
    have HN := hide (show newv n = 1 by simp [newv, hm2])
    have hc : n < 8 ∨ 4096 < n := by
      simp [mayv] at hm2
      omega
    clear hm hm2
    rcases hc with hc | hc
    · go_enter Try.func19, Try.ntmps19
      go_wp2
      go_ret2
      obtain rfl : r = 1 := (unhide HR).symm.trans (unhide HN)
      exact ⟨⟨_, rfl, RL.err (by decide)⟩, Below.refl _ _⟩
    · have hc2 : ¬ n < 8 := by omega
      go_enter Try.func19, Try.ntmps19
      go_wp2
      go_ret2
      obtain rfl : r = 1 := (unhide HR).symm.trans (unhide HN)
      exact ⟨⟨_, rfl, RL.err (by decide)⟩, Below.refl _ _⟩
end Go.Proofs.Ytpelmacblglhoaa
