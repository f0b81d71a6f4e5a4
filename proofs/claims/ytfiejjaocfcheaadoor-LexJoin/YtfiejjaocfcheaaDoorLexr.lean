/-
  The document's answer to Lex is the tokens of the text, piece by piece, or its error.
-/
import Derived.Test.YtfiejjaocfcheaaDoorLexp
namespace Go.Proofs.YtfiejjaocfcheaaDoor
open Go.RowKit

theorem Tryd.info41 : (Tryd.prog.info? 41).map (fun i => (i.zero, i.size, i.bytes)) = some (some (.agg #[.int .i64 0, .int .i64 0, .string ⟨#[]⟩]), 3, 32) := by kernel_rfl

theorem extract_size (s : ByteArray) (a n : Nat) (h : a + n ≤ s.size) : (s.extract a (a + n)).size = n := by
  rw [ByteArray.size_extract]; omega

def wordT (p : ByteArray) : Tk := ⟨1, 0, p⟩
def numT (v : Nat) : Tk := ⟨2, v, ⟨#[]⟩⟩
def signT (p : ByteArray) : Tk := ⟨3, 0, p⟩
theorem ownsRow_later {W W' : World} {B : Nat} {e : TypeId} {size : Nat} {v : Value} {n : Nat} {xs : List Value} (h : W.ownsRow B e size v n xs) (hb : Below W.heap.size W W') : W'.ownsRow B e size v n xs := by
  obtain ⟨h1, h2⟩ := h
  refine ⟨h1, ?_⟩
  rcases h2 with h2 | ⟨g, cap, cur, hv, hg, hc, hrest⟩
  · exact Or.inl h2
  · exact Or.inr ⟨g, cap, cur, hv, hg, (hb.block g (lt_of_heap hc)).trans hc, hrest⟩
theorem three_new (w : World) (x y z : Value) (t : TypeId) : ∀ j u, [x, y, z][j]? = some u → (w.alloc (.cells #[x, y, z] t)).cell? ((⟨w.heap.size, 0, none⟩ : Addr).add j) = some u := by
  intro j u hj
  have hh : (w.alloc (.cells #[x, y, z] t)).heap[w.heap.size]? = some (.cells #[x, y, z] t) := _root_.Go.heap_alloc_new w _
  have : (⟨w.heap.size, 0, none⟩ : Addr).add j = ⟨w.heap.size, j, none⟩ := by simp [Addr.add]; exact fun h => h.symm
  rw [this, Lib.cell_of_heap hh, ← hj]
  simp
theorem three_one (t : Tk) : ∀ u ∈ tkCells t, u.oneCell' = true := by
  intro u hu
  simp only [tkCells, List.mem_cons, List.not_mem_nil, or_false] at hu
  rcases hu with h | h | h
  all_goals subst h; rfl
theorem rel_append {w wr w1 : World} {v v' : Value} {ts : List Tk} {t : Tk} {o : Obj} (hb : Below w.heap.size w wr) (hown : wr.ownsRow w.heap.size 41 3 v ts.length (cellsOf ts))
    (hown' : w1.ownsRow w.heap.size 41 3 v' (ts.length + 1) (cellsOf ts ++ tkCells t)) (hg : (wr.alloc o).grownBy w1 v.ownBlock) :
    w1.ownsRow w.heap.size 41 3 v' (ts ++ [t]).length (cellsOf (ts ++ [t])) ∧ Below w.heap.size w w1 := by
  refine ⟨by rw [cellsOf_snoc, List.length_append]; exact hown', ?_⟩
  refine (hb.alloc hb.size o).grown hg ?_ ?_
  · have := hb.size; simp; omega
  · intro k hk; exact (hown.lt k hk).1

set_option maxRecDepth 100000 in
set_option maxHeartbeats 1000000 in
theorem LexOf_any (s : ByteArray) (w : World) (hs : s.size ≤ maxLen) :
    Calls Tryd.prog 13 #[.string s] w fun e w' => ∃ a cap, e = .returned (.tuple #[.slice a (lexT s).length cap, .int .i64 (lexE s)]) ∧ ToksAt w' a (lexT s) ∧ Below w.heap.size w w' := by
  unfold maxLen at hs
  by_cases hlong : 4096 < s.size
  · have HE : Hid (lexT s = [] ∧ lexE s = 2) := lex_long hlong
    go_enter Tryd.func13, Tryd.ntmps13
    go_wp2_with fail
    go_ret2
    exact ⟨none, 0, by rw [HE.out.1, HE.out.2]; rfl, by rw [HE.out.1]; exact Or.inl rfl, Below.refl _ _⟩
  · obtain ⟨i0, hi, hz0, hz1, hz2⟩ := info_parts Tryd.info41
    go_enter Tryd.func13, Tryd.ntmps13
    go_wp2_with fail
    go_loopw [5, 4] (fun i v wr => ∃ (k : Nat) (ts : List Tk), k ≤ s.size ∧ i = .int .i64 k ∧ LexInv s k ts ∧ AllFit ts ∧ ts.length ≤ k ∧ wr.ownsRow w.heap.size 41 3 v ts.length (cellsOf ts) ∧ Below w.heap.size w wr) (fun i _ _ => s.size - (intOf i).toNat)
    case atStart => exact ⟨0, [], Nat.zero_le _, rfl, LexInv.start s, AllFit.nil, Nat.le_refl _, World.ownsRow_nil _ _ _ _, Below.refl _ _⟩
    case round =>
      obtain ⟨k, ts, hk, rfl, hinv, hfit, hlen, hown, hb⟩ := hrel
      have HI : Hid (LexInv s k ts) := hinv
      have HF : Hid (AllFit ts) := hfit
      have HO : Hid (wr.ownsRow w.heap.size 41 3 u4 ts.length (cellsOf ts)) := hown
      clear hinv hfit hown
      by_cases hlt : k < s.size
      · have hrle := Lx.runN_le s k
        have hrun : ∀ w : World, Calls Tryd.prog 24 #[.string s, .int .i64 k] w fun e w' => e = .returned (.int .i64 (Lx.runN s k)) ∧ w' = w := fun w => run_any s k w (by unfold maxLen; omega) (by omega)
        have HR : Hid (∀ w : World, Calls Tryd.prog 24 #[.string s, .int .i64 k] w fun e w' => e = .returned (.int .i64 (Lx.runN s k)) ∧ w' = w) := hrun
        clear hrun
        by_cases hr : 0 < Lx.runN s k
        · have HP : Hid (Lx.pieceN s k = Lx.runN s k ∧ blankB s[k] = false) := ⟨(run_aln s k hlt hr).2, (run_aln s k hlt hr).1⟩
          have HB : Hid (Lx.nameB (s.extract k (k + Lx.runN s k)).data.toList = true → LexInv s (k + Lx.runN s k) (ts ++ [wordT (s.extract k (k + Lx.runN s k))])) := fun h => by
            have := HI.out.tok hlt HP.out.2 (tok_word s k hlt hr h)
            rwa [HP.out.1] at this
          have HC : Hid (Lx.nameB (s.extract k (k + Lx.runN s k)).data.toList = false → Lx.numOk (s.extract k (k + Lx.runN s k)).data.toList = true → LexInv s (k + Lx.runN s k) (ts ++ [numT (Lx.valL (s.extract k (k + Lx.runN s k)).data.toList)])) := fun h h' => by
            have := HI.out.tok hlt HP.out.2 (tok_num s k hlt hr h h')
            rwa [HP.out.1] at this
          have HD : Hid (Lx.nameB (s.extract k (k + Lx.runN s k)).data.toList = false → Lx.numOk (s.extract k (k + Lx.runN s k)).data.toList = false → lexAt s 0 = none) := fun h h' =>
            HI.out.stop hlt HP.out.2 (tok_bad s k hlt hr h h')
          clear HP
          generalize Lx.runN s k = N at *
          have hps : (s.extract k (k + N)).size = N := extract_size s k N (by omega)
          have HPS : Hid ((s.extract k (k + N)).size = N) := hps
          clear hps
          have hpl : (s.extract k (k + N)).size ≤ maxLen := by rw [HPS.out]; unfold maxLen; omega
          by_cases hn : Lx.nameB (s.extract k (k + N)).data.toList = true
          · have HM : Hid (∀ w : World, Calls Tryd.prog 25 #[.string (s.extract k (k + N))] w fun e w' => e = .returned (.bool true) ∧ w' = w) := fun w => by rw [← hn]; exact IsName_any _ w hpl
            have HG : Hid (LexInv s (k + N) (ts ++ [wordT (s.extract k (k + N))]) ∧ AllFit (ts ++ [wordT (s.extract k (k + N))])) := ⟨HB.out hn, HF.out.snoc hpl⟩
            clear hn HB HC HD HPS hpl
            go_wp2_with (first | (go_at_call 24; refine (HR.out _).mono ?_; rintro e w2 ⟨rfl, h2⟩; obtain rfl := h2.symm) | (go_at_call 25; refine (HM.out _).mono ?_; rintro e w2 ⟨rfl, h2⟩; obtain rfl := h2.symm) | (at_builtin; refine wpList_append_own _ rfl (.tmp 31) (.tmp 39) 22 rfl w.heap.size 41 i0 _ 3 32 Tryd.underlying22 hi hz0 hz1 hz2 rfl (by decide) _ _ _ rfl (HO.out.alloc _) ⟨wr.heap.size, 0, none⟩ 1 1 (tkCells (wordT (s.extract k (k + N)))) rfl rfl (three_new _ _ _ _ _) (three_one _) (by unfold maxLen; omega) (by omega) (by have := hb.size; simp; omega) ?_))
            intro v1 w1 hown1 hgrow1 _
            have HV : Hid (w1.ownsRow w.heap.size 41 3 v1 (ts ++ [wordT (s.extract k (k + N))]).length (cellsOf (ts ++ [wordT (s.extract k (k + N))])) ∧ Below w.heap.size w w1) := rel_append hb HO.out hown1 hgrow1
            clear hown1 hgrow1
            go_wp2_with fail
            go_roundw
            case rel => exact ⟨k + N, _, by omega, by go_num, HG.out.1, HG.out.2, by rw [List.length_append]; simp only [List.length_cons, List.length_nil]; omega, HV.out.1, HV.out.2⟩
            case measure => simp [intOf]; omega
          · have hn' : Lx.nameB (s.extract k (k + N)).data.toList = false := by simpa using hn
            clear hn
            have HM : Hid (∀ w : World, Calls Tryd.prog 25 #[.string (s.extract k (k + N))] w fun e w' => e = .returned (.bool false) ∧ w' = w) := fun w => by rw [← hn']; exact IsName_any _ w hpl
            have HQ : Hid (∀ w : World, Calls Tryd.prog 26 #[.string (s.extract k (k + N))] w fun e w' => ∃ k' : Int, e = .returned (.tuple #[.int .i64 k', .bool (Lx.numOk (s.extract k (k + N)).data.toList)]) ∧ (Lx.numOk (s.extract k (k + N)).data.toList = true → k' = Lx.valL (s.extract k (k + N)).data.toList) ∧ Below w.heap.size w w') := fun w => numberOf_any _ w (by rw [HPS.out]; exact hr) hpl
            by_cases hk2 : Lx.numOk (s.extract k (k + N)).data.toList = true
            · generalize hV : Lx.valL (s.extract k (k + N)).data.toList = V at *
              have HG : Hid (LexInv s (k + N) (ts ++ [numT V]) ∧ AllFit (ts ++ [numT V])) := ⟨HC.out hn' hk2, HF.out.snoc (by show (⟨#[]⟩ : ByteArray).size ≤ maxLen; exact Nat.zero_le _)⟩
              have HQ2 : Hid (∀ w : World, Calls Tryd.prog 26 #[.string (s.extract k (k + N))] w fun e w' => e = .returned (.tuple #[.int .i64 V, .bool true]) ∧ Below w.heap.size w w') := fun w => by
                refine (HQ.out w).mono ?_
                rintro e w' ⟨k', rfl, h1, h2⟩
                rw [hk2, h1 hk2]
                exact ⟨rfl, h2⟩
              clear hV HQ hk2 hn' HB HC HD HPS hpl
              go_wp2_with (first | (go_at_call 24; refine (HR.out _).mono ?_; rintro e w2 ⟨rfl, h2⟩; obtain rfl := h2.symm) | (go_at_call 25; refine (HM.out _).mono ?_; rintro e w2 ⟨rfl, h2⟩; obtain rfl := h2.symm))
              refine (HQ2.out _).mono ?_
              rintro e w2 ⟨rfl, hb2⟩
              have HO2 : Hid (w2.ownsRow w.heap.size 41 3 u4 ts.length (cellsOf ts)) := ownsRow_later HO.out hb2
              have hbb := hb.trans (hb2.mono hb.size)
              have hz2' := hb2.size
              go_wp2_with (at_builtin; refine wpList_append_own _ rfl (.tmp 56) (.tmp 59) 22 rfl w.heap.size 41 i0 _ 3 32 Tryd.underlying22 hi hz0 hz1 hz2 rfl (by decide) _ _ _ rfl (HO2.out.alloc _) ⟨w2.heap.size, 0, none⟩ 1 1 (tkCells (numT V)) rfl rfl (three_new _ _ _ _ _) (three_one _) (by unfold maxLen; omega) (by omega) (by have := hbb.size; simp; omega) ?_)
              intro v1 w1 hown1 hgrow1 _
              have HV : Hid (w1.ownsRow w.heap.size 41 3 v1 (ts ++ [numT V]).length (cellsOf (ts ++ [numT V])) ∧ Below w.heap.size w w1) := rel_append hbb HO2.out hown1 hgrow1
              clear hown1 hgrow1
              go_wp2_with fail
              go_roundw
              case rel => exact ⟨k + N, _, by omega, by go_num, HG.out.1, HG.out.2, by rw [List.length_append]; simp only [List.length_cons, List.length_nil]; omega, HV.out.1, HV.out.2⟩
              case measure => simp [intOf]; omega
            · have hk2' : Lx.numOk (s.extract k (k + N)).data.toList = false := by simpa using hk2
              have HE : Hid (lexT s = [] ∧ lexE s = 1) := lex_no hlong (HD.out hn' hk2')
              have HQ2 : Hid (∀ w : World, Calls Tryd.prog 26 #[.string (s.extract k (k + N))] w fun e w' => ∃ k' : Int, e = .returned (.tuple #[.int .i64 k', .bool false]) ∧ Below w.heap.size w w') := fun w => by
                refine (HQ.out w).mono ?_
                rintro e w' ⟨k', rfl, _, h2⟩
                rw [hk2']
                exact ⟨k', rfl, h2⟩
              clear HQ hk2 hk2' hn' HB HC HD HPS hpl
              go_wp2_with (first | (go_at_call 24; refine (HR.out _).mono ?_; rintro e w2 ⟨rfl, h2⟩; obtain rfl := h2.symm) | (go_at_call 25; refine (HM.out _).mono ?_; rintro e w2 ⟨rfl, h2⟩; obtain rfl := h2.symm))
              refine (HQ2.out _).mono ?_
              rintro e w2 ⟨k', rfl, hb2⟩
              go_wp2_with fail
              go_ret2
              exact ⟨none, 0, by rw [HE.out.1, HE.out.2]; rfl, by rw [HE.out.1]; exact Or.inl rfl, hb.trans (hb2.mono hb.size)⟩
        · have hr0 : Lx.runN s k = 0 := by omega
          have HP : Hid (Lx.pieceN s k = 1) := piece_lone s k hr0
          have HR0 : Hid (∀ w : World, Calls Tryd.prog 24 #[.string s, .int .i64 k] w fun e w' => e = .returned (.int .i64 0) ∧ w' = w) := fun w => by
            have := HR.out w
            rw [hr0] at this
            exact this
          clear HR
          by_cases hsg : Lx.signB s[k] = true
          · have HG : Hid (LexInv s (k + 1) (ts ++ [signT (s.extract k (k + 1))]) ∧ AllFit (ts ++ [signT (s.extract k (k + 1))])) := by
              refine ⟨?_, HF.out.snoc ?_⟩
              · have := HI.out.tok hlt (sign_plain hsg).2 (tok_sign s k hlt hr0 hsg)
                rwa [HP.out] at this
              · show (s.extract k (k + 1)).size ≤ maxLen
                rw [extract_size s k 1 (by omega)]; unfold maxLen; omega
            clear hr0 hr hrle HP
            go_wp2_with (first | (go_at_call 24; refine (HR0.out _).mono ?_; rintro e w2 ⟨rfl, h2⟩; obtain rfl := h2.symm) | (go_at_call 27; refine (RisSign_any _ _).mono ?_; rintro e w2 ⟨rfl, h2⟩; obtain rfl := h2.symm) | (at_builtin; refine wpList_append_own _ rfl (.tmp 66) (.tmp 73) 22 rfl w.heap.size 41 i0 _ 3 32 Tryd.underlying22 hi hz0 hz1 hz2 rfl (by decide) _ _ _ rfl (HO.out.alloc _) ⟨wr.heap.size, 0, none⟩ 1 1 (tkCells (signT (s.extract k (k + 1)))) rfl rfl (three_new _ _ _ _ _) (three_one _) (by unfold maxLen; omega) (by omega) (by have := hb.size; simp; omega) ?_))
            intro v1 w1 hown1 hgrow1 _
            have HV : Hid (w1.ownsRow w.heap.size 41 3 v1 (ts ++ [signT (s.extract k (k + 1))]).length (cellsOf (ts ++ [signT (s.extract k (k + 1))])) ∧ Below w.heap.size w w1) := rel_append hb HO.out hown1 hgrow1
            clear hown1 hgrow1
            go_wp2_with fail
            go_roundw
            case rel => exact ⟨k + 1, _, by omega, by go_num, HG.out.1, HG.out.2, by rw [List.length_append]; simp only [List.length_cons, List.length_nil]; omega, HV.out.1, HV.out.2⟩
            case measure => simp [intOf]; omega
          · have hsg' : Lx.signB s[k] = false := by simpa using hsg
            clear hsg
            by_cases hbl : blankB s[k] = true
            · have HG : Hid (LexInv s (k + 1) ts) := by
                have := HI.out.blank hlt hbl
                rw [HP.out] at this
                exact this
              by_cases h32 : (((s[k].toNat : Nat) : Int) == 32) = true
              · clear hr0 hr hrle HP hbl
                go_wp2_with (first | (go_at_call 24; refine (HR0.out _).mono ?_; rintro e w2 ⟨rfl, h2⟩; obtain rfl := h2.symm) | (go_at_call 27; refine (RisSign_any _ _).mono ?_; rintro e w2 ⟨rfl, h2⟩; obtain rfl := h2.symm))
                go_roundw
                case rel => exact ⟨k + 1, ts, by omega, by go_num, HG.out, HF.out, by omega, HO.out, hb⟩
                case measure => simp [intOf]; omega
              · have h32' : (((s[k].toNat : Nat) : Int) == 32) = false := by simpa using h32
                have h10 : (((s[k].toNat : Nat) : Int) == 10) = true := by
                  unfold blankB at hbl
                  simp only [Bool.or_eq_true, beq_iff_eq] at hbl
                  rcases hbl with h | h
                  · rw [h] at h32'; simp at h32'
                  · rw [h]; rfl
                clear hr0 hr hrle HP hbl h32
                go_wp2_with (first | (go_at_call 24; refine (HR0.out _).mono ?_; rintro e w2 ⟨rfl, h2⟩; obtain rfl := h2.symm) | (go_at_call 27; refine (RisSign_any _ _).mono ?_; rintro e w2 ⟨rfl, h2⟩; obtain rfl := h2.symm))
                go_roundw
                case rel => exact ⟨k + 1, ts, by omega, by go_num, HG.out, HF.out, by omega, HO.out, hb⟩
                case measure => simp [intOf]; omega
            · have hbl' : blankB s[k] = false := by simpa using hbl
              have HE : Hid (lexT s = [] ∧ lexE s = 1) := lex_no hlong (HI.out.stop hlt hbl' (tok_else s k hlt hr0 hsg'))
              have h32 : (((s[k].toNat : Nat) : Int) == 32) = false := by
                rw [beq_eq_false_iff_ne]; intro h
                have : s[k] = 32 := UInt8.toNat_inj.1 (by show s[k].toNat = 32; omega)
                rw [this] at hbl'; cases hbl'
              have h10 : (((s[k].toNat : Nat) : Int) == 10) = false := by
                rw [beq_eq_false_iff_ne]; intro h
                have : s[k] = 10 := UInt8.toNat_inj.1 (by show s[k].toNat = 10; omega)
                rw [this] at hbl'; cases hbl'
              clear hr0 hr hrle HP hbl hbl'
              go_wp2_with (first | (go_at_call 24; refine (HR0.out _).mono ?_; rintro e w2 ⟨rfl, h2⟩; obtain rfl := h2.symm) | (go_at_call 27; refine (RisSign_any _ _).mono ?_; rintro e w2 ⟨rfl, h2⟩; obtain rfl := h2.symm))
              go_ret2
              exact ⟨none, 0, by rw [HE.out.1, HE.out.2]; rfl, by rw [HE.out.1]; exact Or.inl rfl, hb⟩
      · have HE : Hid (lexT s = ts ∧ lexE s = 0) := lex_yes hlong (HI.out.done hlt)
        go_wp2_with fail
        go_ret2
        obtain ⟨a, cap, hv, hT⟩ := owned_toks HO.out HF.out
        subst hv
        exact ⟨a, cap, by rw [HE.out.1, HE.out.2]; rfl, by rw [HE.out.1]; exact hT, hb⟩

end Go.Proofs.YtfiejjaocfcheaaDoor
