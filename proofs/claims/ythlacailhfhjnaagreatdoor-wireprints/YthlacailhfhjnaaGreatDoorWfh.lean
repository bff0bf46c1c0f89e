import Derived.Test.YthlacailhfhjnaaGreatDoorWgd
import Derived.Test.YthlacailhfhjnaaGreatDoorWcq
namespace Go.Proofs.YthlacailhfhjnaaGreatDoor
open Go.RowKit Go.Lib
/-- The values of the fields with such a name. -/
def allv (hs : List Fl) (n : Bs) : List Bs := (hs.filter (fun f => alk f.1 n)).map (·.2)
theorem allv_next (fs : List Fl) (n : Bs) (k : Nat) (h : k < fs.length) : allv (fs.take (k + 1)) n = allv (fs.take k) n ++ (if alk (fs.getD k fl0).1 n then [(fs.getD k fl0).2] else []) := by
  have e : fs.take (k + 1) = fs.take k ++ [fs.getD k fl0] := by
    rw [List.take_succ_eq_append_getElem h]
    simp [h]
  rw [e]
  unfold allv
  rw [List.filter_append, List.map_append]
  congr 1
  cases hq : alk (fs.getD k fl0).1 n
  · simp only [List.filter_cons, hq]; rfl
  · simp only [List.filter_cons, hq]; rfl
theorem allv_len (fs : List Fl) (n : Bs) (k : Nat) : (allv (fs.take k) n).length ≤ k := by
  unfold allv
  rw [List.length_map]
  have := List.length_filter_le (fun f : Fl => alk f.1 n) (fs.take k)
  rw [List.length_take] at this
  omega
/-- Texts in a row of one's own. -/
structure Ows (w : World) (V : Value) (l : List Bs) (wr : World) : Prop where
  row : wr.ownsRow 0 9 1 V l.length (l.map S)
  new : ∀ k, V.ownBlock = some k → w.heap.size ≤ k
  bel : Below w.heap.size w wr
theorem Ows.nil (w : World) : Ows w (.slice none 0 0) [] w := ⟨⟨rfl, .inl ⟨rfl, rfl⟩⟩, (fun _ h => nomatch h), Below.refl _ _⟩
theorem Ows.below {w wr w' : World} {V : Value} {l : List Bs} (h : Ows w V l wr) (hb : Below wr.heap.size wr w') : Ows w V l w' :=
  ⟨owns_same h.row (fun j hj => by
    obtain ⟨cs, q⟩ := owns_lt h.row j hj
    exact hb.block j (lt_of_row q)), h.new, h.bel.trans (hb.mono h.bel.size)⟩
theorem wp_pushS {ops : Array Oper} {rest : List Oper} {o : Oper} {ac : Act} {Q : Exit → Act → World → Prop} {w wr : World} {V : Value} {l : List Bs} {x : Bs} (hgd : o.guard = none) (p q : Operand) (ho : o.op = .call { callee := .builtin .append, args := #[p, q], argTypes := #[36, 36] })
    (hp : ac.eval p = V) (hq : ac.eval q = .slice (some ⟨wr.heap.size, 0, none⟩) 1 1) (h : Ows w V l wr) (hs : l.length ≤ 1000000000000)
    (hn : ∀ V' w', Ows w V' (l ++ [x]) w' → wpList Tryz.prog ops Q rest (ac.put o.dst V') w') : wpList Tryz.prog ops Q (o :: rest) ac (wr.alloc (.cells #[S x] 9)) := by
  refine push_own 36 9 _ 1 16 Tryz.underlying36 info9 rfl (by decide) hgd p q ho V l.length (l.map S) hp wr h.row [S x] rfl (by intro u hu; obtain rfl := List.mem_singleton.1 hu; rfl) hq (by omega) (by omega) ?_
  intro pp cap w' r1 r2 r3
  refine hn _ w' ⟨?_, fun k hk => ?_, r2.below h.bel h.bel.size h.new⟩
  · rw [List.length_append, List.map_append]; exact r1
  · rcases r3 k hk with r | r
    · exact h.new k r
    · exact Nat.le_trans h.bel.size r
set_option maxHeartbeats 8000000 in
set_option maxRecDepth 8000 in
theorem rAll_any (a : Option Addr) (n cap : Nat) (fs : List Fl) (x : Bs) (w : World) (hp : Fls w a n fs) (hL : Lens fs) (hn : n ≤ 1000000000000) (hx : x.length ≤ 140737488351232) :
    Calls Tryz.prog 18 #[.slice a n cap, S x] w fun e w' => ∃ V, e = .returned V ∧ Ows w V (allv fs x) w' := by
  have hN := hp.1
  subst hN
  have HP := hide hp
  clear hp
  go_enter Tryz.func18, Tryz.ntmps18
  go_wp2
  go_loopw [5, 6] (fun V i wr => ∃ k : Nat, k ≤ fs.length ∧ i = .int .i64 k ∧ Ows w V (allv (fs.take k) x) wr) (fun _ i _ => fs.length - (Go.RowKit.intOf i).toNat)
  case atStart => exact ⟨0, by omega, rfl, by simpa [allv] using Ows.nil w⟩
  case round =>
    obtain ⟨k, hk, rfl, hi⟩ := hrel
    have HI := hide hi
    by_cases hlt : k < fs.length
    · obtain ⟨p, o, rfl, hpl, hc0, hc1⟩ := ((unhide HP).below hi.bel).at hlt
      have hlt' : (k : Int) < (fs.length : Int) := by omega
      have hl := hL k
      have hnx := hide (allv_next fs x k (by omega))
      have hle := allv_len fs x k
      generalize fs.getD k fl0 = F at *
      obtain ⟨fn, fv⟩ := F
      simp only at hc0 hc1 hl
      have H1 := hide (small_wide fn wr hl.1)
      have HK : Hid (alk fn x = (fn.map low == x.map low)) := hide rfl
      clear hi
      go_wp2_with fail
      refine (unhide H1).mono ?_
      rintro e w1 ⟨rfl, b1⟩
      have H2 := hide (small_wide x w1 hx)
      have HI1 := hide ((unhide HI).below b1)
      have e1 := (b1.cell (by exact hpl)).trans hc1
      clear b1 H1 hc0 hc1 HI
      go_wp2_with fail
      refine (unhide H2).mono ?_
      rintro e w2 ⟨rfl, b2⟩
      have HI2 := hide ((unhide HI1).below b2)
      have e2 := (b2.cell (by exact blk_lt e1)).trans e1
      clear b2 H2 e1 HI1
      generalize fn.map low = L1 at *
      generalize x.map low = L2 at *
      by_cases hq : (L1 == L2) = true
      · have HR := hide (show allv (fs.take (k + 1)) x = allv (fs.take k) x ++ [fv] by rw [unhide hnx, unhide HK, hq]; rfl)
        obtain rfl : L1 = L2 := by simpa using hq
        clear hnx HK hq
        go_wp2_with (first | (at_builtin; refine wp_pushS (x := fv) rfl (.tmp 22) (.tmp 28) rfl (by rfl) (by rfl) (unhide HI2) (by omega) ?_; intro V' w3 hw3) | fail)
        exact ⟨⟨k + 1, by omega, by go_num, by rw [unhide HR]; exact hw3⟩, by simp [Go.RowKit.intOf]; omega⟩
      · have hq' : (L1 == L2) = false := by simpa using hq
        have hne : ¬ L1 = L2 := by simpa using hq
        have HR := hide (show allv (fs.take (k + 1)) x = allv (fs.take k) x by rw [unhide hnx, unhide HK, hq']; simp)
        clear hnx HK hq
        go_wp2_with fail
        exact ⟨⟨k + 1, by omega, by go_num, by rw [unhide HR]; exact unhide HI2⟩, by simp [Go.RowKit.intOf]; omega⟩
    · have hd : decide ((k : Int) < (fs.length : Int)) = false := by simp; omega
      have hkn : fs.take k = fs := List.take_of_length_le (by omega)
      rw [hkn] at HI
      clear hi
      go_wp2
      go_ret
      exact ⟨_, rfl, unhide HI⟩
set_option maxHeartbeats 8000000 in
set_option maxRecDepth 8000 in
theorem all_any (a : Option Addr) (n cap : Nat) (fs : List Fl) (x : Bs) (w : World) (hp : Fls w a n fs) (hL : Lens fs) (hn : n ≤ 1000000000000) :
    Calls Tryz.prog 17 #[.slice a n cap, S x] w fun e w' => ∃ V, e = .returned V ∧ Ows w V (allv fs x) w' := by
  have hN := hp.1
  subst hN
  have HP := hide hp
  clear hp
  go_enter Tryz.func17, Tryz.ntmps17
  go_wp2
  go_loopw [5, 10] (fun V i wr => ∃ k : Nat, k ≤ fs.length ∧ i = .int .i64 k ∧ Ows w V (allv (fs.take k) x) wr) (fun _ i _ => fs.length - (Go.RowKit.intOf i).toNat)
  case atStart => exact ⟨0, by omega, rfl, by simpa [allv] using Ows.nil w⟩
  case round =>
    obtain ⟨k, hk, rfl, hi⟩ := hrel
    have HI := hide hi
    by_cases hlt : k < fs.length
    · obtain ⟨p, o, rfl, hpl, hc0, hc1⟩ := ((unhide HP).below hi.bel).at hlt
      have hlt' : (k : Int) < (fs.length : Int) := by omega
      have hl := hL k
      have hnx := hide (allv_next fs x k (by omega))
      have hle := allv_len fs x k
      generalize fs.getD k fl0 = F at *
      obtain ⟨fn, fv⟩ := F
      simp only at hc0 hc1 hl
      have b1 := (Below.refl wr.heap.size wr).alloc (Nat.le_refl _) (.cells #[S fn, S fv] 35)
      have x1 := heap_alloc_new wr (.cells #[S fn, S fv] 35)
      have H1 := hide (alike_any fn x (wr.alloc (.cells #[S fn, S fv] 35)) (by omega))
      have X1 := hide (And.intro (hi.below b1) x1)
      clear hi b1 x1
      go_wp2_with fail
      refine (unhide H1).mono ?_
      rintro e w1 ⟨rfl, q, hw⟩
      have hb1 : Below (wr.alloc (.cells #[S fn, S fv] 35)).heap.size (wr.alloc (.cells #[S fn, S fv] 35)) w1 := by rw [hw]; exact below_dN (Below.refl _ _) q
      have HI1 := hide ((unhide X1).1.below hb1)
      have x2 := (hb1.block _ (lt_of_row (unhide X1).2)).trans (unhide X1).2
      have d1 : w1.cell? ⟨wr.heap.size, 1, none⟩ = some (S fv) := cell_of_row w1 _ 1 _ 35 (0, 0) x2
      clear hw hb1 x2 X1 H1 HI
      cases hq : alk fn x
      · have HR := hide (show allv (fs.take (k + 1)) x = allv (fs.take k) x by rw [unhide hnx, hq]; simp)
        clear hnx hq
        go_wp2_with fail
        exact ⟨⟨k + 1, by omega, by go_num, by rw [unhide HR]; exact unhide HI1⟩, by simp [Go.RowKit.intOf]; omega⟩
      · have HR := hide (show allv (fs.take (k + 1)) x = allv (fs.take k) x ++ [fv] by rw [unhide hnx, hq]; rfl)
        have H2 := hide (clone_any fv w1 (by omega))
        clear hnx hq
        go_wp2_with fail
        refine (unhide H2).mono ?_
        rintro e w2 ⟨rfl, b2⟩
        have HI2 := hide ((unhide HI1).below b2)
        clear b2 H2 HI1 d1
        go_wp2_with (first | (at_builtin; refine wp_pushS (x := fv) rfl (.tmp 18) (.tmp 22) rfl (by rfl) (by rfl) (unhide HI2) (by omega) ?_; intro V' w3 hw3) | fail)
        exact ⟨⟨k + 1, by omega, by go_num, by rw [unhide HR]; exact hw3⟩, by simp [Go.RowKit.intOf]; omega⟩
    · have hd : decide ((k : Int) < (fs.length : Int)) = false := by simp; omega
      have hkn : fs.take k = fs := List.take_of_length_le (by omega)
      rw [hkn] at HI
      clear hi
      go_wp2
      go_ret
      exact ⟨_, rfl, unhide HI⟩
end Go.Proofs.YthlacailhfhjnaaGreatDoor
