import Derived.Test.YtpelmacblglhoaaDvb
import Derived.Test.YtpelmacblglhoaaDvc
import Derived.Test.YtpelmacblglhoaaDvd
import Derived.Test.YtpelmacblglhoaaZzbj
import Derived.Test.YtpelmacblglhoaaDum
namespace Go.Proofs.Ytpelmacblglhoaa
open Go.RowKit
theorem play_wi {w0 w : World} {K Z : Nat} {s : Ws} (h : WI w0 K Z none s w) (kind on n : Int) (str : Bs) (ks : List Kp) (a : Option Addr) (ck : Nat) (hk : Kls w0 a ks.length ks) (hr : Opr ⟨kind, on, n, str, ks⟩) (hK : K + 1 ≤ 5000000) (hhn : s.hn ≤ 1000000) :
    Calls Try.prog 7 #[ptr Z, .agg #[I kind, I on, I n, S str, .slice a ks.length ck]] w fun e w' => e = .returned (.bool true) ∧ ∃ s', WI w0 (K + 1) Z none s' w' ∧ s'.hn ≤ 1000000 := by
  by_cases k3 : kind = 3
  · exact play_3 h kind on n str ks a ck hk hr hK hhn k3
  · by_cases k9 : kind = 9
    · exact play_9 h kind on n str ks a ck hk hr hK hhn k9
    · exact play_o h kind on n str ks a ck hk hr hK hhn ⟨k3, k9⟩
end Go.Proofs.Ytpelmacblglhoaa
namespace Go.Proofs.Ytpelmacblglhoaa
open Go.RowKit
set_option maxHeartbeats 4000000
set_option maxRecDepth 8000
section
variable {w0 w w' : World} {K Z : Nat} {s : Ws}
theorem not_md {a b : Nat} (h0 : a ≠ 0 ∨ (b ≠ 0 ∧ b ≠ 3 ∧ b ≠ 6)) (h3 : a ≠ 3) (h4 : a ≠ 4) : ¬ Md (a, b) := by
  rintro (q | q | q | q | q)
  · have e1 := congrArg Prod.fst q; have e2 := congrArg Prod.snd q; simp at e1 e2; omega
  · have e1 := congrArg Prod.fst q; have e2 := congrArg Prod.snd q; simp at e1 e2; omega
  · have e1 := congrArg Prod.fst q; have e2 := congrArg Prod.snd q; simp at e1 e2; omega
  · exact h3 q
  · exact h4 q
theorem still_wi (h : WI w0 K Z none s w) (hK : K ≤ 5000000) : Calls Try.prog 9 #[ptr Z] w fun e w' => e = .returned (.bool true) ∧ ∃ s', WI w0 K Z none s' w' ∧ s'.sd = s.sd ∧ s'.hn = s.hn := by
  have hn1 := h.n1
  have hn2 := h.n2
  have h4 : S4 w s.tag Z s.cs s.tag s.N1 s.vs1 (fun i => (s.L1 i).length) (fun i => (s.L1 i).map S) (.slice s.pf1 s.N1 s.cf1) 0 (.slice s.pd1 s.Dn1.length s.cd1) s.Dn1 (.slice none 0 0) 0 s.N2 s.vs2 (fun i => (s.L2 i).length) (fun i => cellsW (s.L2 i)) (.slice s.pf2 s.N2 s.cf2) 0 (.slice s.pd2 s.Dn2.length s.cd2) s.Dn2 (.slice none 0 0) 0 w :=
    ⟨⟨h.blk, h.tz, Only.refl _ _, fun _ _ => rfl⟩, h.b1, h.d1, h.b2, h.d2⟩
  refine (still_any w s.tag Z s.N1 s.N2 s.f1 s.f2 s.vs1 s.vs2 s.ws1 s.ws2 s.L1 s.L2 s.pf1 s.pf2 s.pw1 s.pw2 s.pd1 s.pd2 s.cf1 s.cf2 s.cw1 s.cw2 s.cd1 s.cd2 s.vl s.vh s.Dn1 s.Dn2 h4 h.u1 h.u2 h.e1 h.e2 (by omega) (by omega)).mono ?_
  rintro e w' ⟨rfl, tag', pe1, ce1, pe2, ce2, En1, En2, hs, hd1, hd2, hl1, hl2⟩
  refine ⟨rfl, ?_⟩
  obtain ⟨tg, htg⟩ : ∃ tg : Nat → Tg, tg = fun k => if (tag' k).1 = 3 ∨ (tag' k).1 = 4 then (5, 0) else tag' k := ⟨_, rfl⟩
  have t1 : ∀ k, k < w.heap.size → (s.tag k).1 ≠ 3 → (s.tag k).1 ≠ 4 → tg k = s.tag k := by
    intro k hk h3 h4
    rw [htg]
    simp only
    rw [hs.agr k hk, if_neg (by omega)]
  have t2 : ∀ k, tag' k = (5, 0) ∨ (tag' k).1 = 3 ∨ (tag' k).1 = 4 → tg k = (5, 0) := by
    intro k hk
    rw [htg]
    simp only
    by_cases q : (tag' k).1 = 3 ∨ (tag' k).1 = 4
    · rw [if_pos q]
    · rw [if_neg q]
      rcases hk with a | a
      · exact a
      · exact absurd a q
  have t3 : ∀ k b, tag' k = (0, b) → tg k = (0, b) := by
    intro k b hk
    rw [htg]
    simp only
    rw [hk, if_neg (by simp)]
  have ho := hs.onl
  have hle := ho.size
  refine ⟨{ s with tag := tg, N1 := 0, f1 := s.f1 + s.N1, pf1 := none, cf1 := 0, pw1 := none, cw1 := 0, pd1 := pe1, cd1 := ce1, Dn1 := En1, N2 := 0, f2 := s.f2 + s.N2, pf2 := none, cf2 := 0, pw2 := none, cw2 := 0, pd2 := pe2, cd2 := ce2, Dn2 := En2 },
    ⟨hs.blk, t3 Z 0 hs.tz, owns_only h.rl ho (fun k hk q => not_md (a := 0) (b := 7) (.inr (by decide)) (by decide) (by decide) (by rw [← h.tl k hk]; exact q)), fun k hk => (t1 k (owns_blk h.rl k hk) (by rw [h.tl k hk]; simp) (by rw [h.tl k hk]; simp)).trans (h.tl k hk),
      fun i x hx hi => ?_, ⟨owns_nil _ _ _, (fun _ hk => nomatch hk), fun i _ h => absurd h (Nat.not_lt_zero _), fun i _ h => absurd h (Nat.not_lt_zero _), fun i h => absurd h (Nat.not_lt_zero _)⟩, ⟨owns_nil _ _ _, (fun _ hk => nomatch hk), fun i h => absurd h (Nat.not_lt_zero _)⟩,
      hd1.retag (fun k hk q => t3 k 3 q) (fun k hk q => .inl (t2 k (by rcases q with a | ⟨a, _⟩; exact .inl a; exact .inr (.inl a)))),
      ⟨owns_nil _ _ _, (fun _ hk => nomatch hk), fun i _ h => absurd h (Nat.not_lt_zero _), fun i _ h => absurd h (Nat.not_lt_zero _), fun i h => absurd h (Nat.not_lt_zero _)⟩, ⟨owns_nil _ _ _, (fun _ hk => nomatch hk), fun i h => absurd h (Nat.not_lt_zero _)⟩,
      hd2.retag (fun k hk q => t3 k 6 q) (fun k hk q => .inl (t2 k (by rcases q with a | ⟨a, _⟩; exact .inl a; exact .inr (.inr a)))),
      hl1, hl2, by simp only; omega, by simp only; omega, h.ns,
      owns_only h.rh ho (fun k hk q => not_md (a := 0) (b := 8) (.inr (by decide)) (by decide) (by decide) (by rw [← h.th k hk]; exact q)), fun k hk => (t1 k (owns_blk h.rh k hk) (by rw [h.th k hk]; simp) (by rw [h.th k hk]; simp)).trans (h.th k hk),
      h.old.trans ⟨ho.os, ho.tape, ho.output, ho.size, fun k hk => ho.block k (Nat.lt_of_lt_of_le hk h.old.size) (fun q => not_md (a := 9) (b := 9) (.inl (by decide)) (by decide) (by decide) (by rw [← h.told k hk]; exact q))⟩,
      fun k hk => (t1 k (Nat.lt_of_lt_of_le hk h.old.size) (by rw [h.told k hk]; simp) (by rw [h.told k hk]; simp)).trans (h.told k hk)⟩, rfl, rfl⟩
  have o := h.so i x hx hi
  have o2 : SOk K s.tag i x w' := ⟨o.dat.only ho (fun k hk q => not_md (a := 1) (b := i) (.inl (by decide)) (by decide) (by decide) (by rw [← o.td k hk]; exact q)), o.rat.only ho (fun k hk q => not_md (a := 2) (b := i) (.inl (by decide)) (by decide) (by decide) (by rw [← o.tr k hk]; exact q)), o.ok, o.rel, o.ac, o.td, o.tr⟩
  exact ⟨o2.dat, o2.rat, o.ok, o.rel, o.ac, fun k hk => (t1 k (o.dat.old k hk) (by rw [o.td k hk]; simp) (by rw [o.td k hk]; simp)).trans (o.td k hk), fun k hk => (t1 k (o.rat.old k hk) (by rw [o.tr k hk]; simp) (by rw [o.tr k hk]; simp)).trans (o.tr k hk)⟩
end
end Go.Proofs.Ytpelmacblglhoaa
