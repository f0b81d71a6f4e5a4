/-
  PeepSame, all cases.
-/
import Derived.Test.YtpahhhhfhnpmjaaRc
namespace Go.Proofs.Ytpahhhhfhnpmjaa
open Go.RowKit Go.Shelf
set_option maxRecDepth 100000

theorem run_says (a ia : Option Addr) (n cap icap : Nat) (code : List Mc.Ins) (d : Int) (inp : List Int) (ticks steps : Int) (W : World) (hn : code.length = n) (hT : ImgAt W a code) (hl : code.length ≤ 1000000000000000) (hfit : ∀ i ∈ code, InsFit i)
    (hI : NumsAt W ia inp) (hil : inp.length ≤ 1000000000000000) (hic : inp.length ≤ icap) (him : icap ≤ maxLen) : RunSays a ia n cap inp.length icap d ticks steps (ansR code d inp ticks steps) W := by
  subst hn
  exact (Run_any a ia cap icap code d inp ticks steps W hT hl hfit hI hil hic him).mono fun e w' ⟨oa, oc, da, dc, he, h1, h2, h3, _, h4, h5⟩ => ⟨oa, oc, da, dc, he, h1.at, h2.at, h3, h4, h5⟩

theorem PeepSame_c (a ia : Option Addr) (cap icap : Nat) (code : List Mc.Ins) (d : Int) (inp : List Int) (t s : Int) (w : World) (hT : ImgAt w a code) (hl : code.length ≤ 1000000000000000) (hfit : ∀ i ∈ code, InsFit i)
    (hI : NumsAt w ia inp) (hil : inp.length ≤ 1000000000000000) (hic : inp.length ≤ icap) (him : icap ≤ maxLen) :
    Calls Try.prog 4 #[.agg #[.slice a code.length cap, .int .i64 d], .slice ia inp.length icap, .int .i64 t, .int .i64 s] w fun e w' => e = .returned (.bool true) ∧ Below w.heap.size w w' := by
  by_cases hc : checkI code d = 0
  · obtain ⟨_, h1, _, _, _⟩ := check_zero hc
    have hpl := peep_len code
    have HP : ∀ W, Below w.heap.size w W → PeepSays a code.length cap d (Mc.peep code) W := fun W hb => (Peep_ok a cap code d W (hT.later hb) hc).mono fun e w' ⟨g, gc, he, _, h2, h3⟩ => ⟨g, gc, he, h2.img, h3⟩
    have HF := fun W => few_any s W
    generalize (if 16384 < s then 16384 else s) = ns at *
    have HR1 : ∀ W, Below w.heap.size w W → RunSays a ia code.length cap inp.length icap d t ns (ansR code d inp t ns) W := fun W hb => run_says a ia _ cap icap code d inp t ns W rfl (hT.later hb) hl hfit (hI.later hb) hil hic him
    have HR2 : ∀ W g gc, Below w.heap.size w W → ImgAt W (some ⟨g, 0, none⟩) (Mc.peep code) → RunSays (some ⟨g, 0, none⟩) ia code.length gc inp.length icap d t ns (ansR (Mc.peep code) d inp t ns) W := fun W g gc hb hi => run_says _ ia _ gc icap (Mc.peep code) d inp t ns W hpl hi (by omega) (peep_fit hfit) (hI.later hb) hil hic him
    have HCk : ∀ W g gc, ImgAt W (some ⟨g, 0, none⟩) (Mc.peep code) → Calls Try.prog 14 #[.agg #[.slice (some ⟨g, 0, none⟩) code.length gc, .int .i64 d]] W fun e w' => e = .returned (.int .i64 0) ∧ Below W.heap.size W w' := fun W g gc hi => by
      have := Check_any (some ⟨g, 0, none⟩) gc (Mc.peep code) d W hi (by omega)
      rw [peep_check hc, hpl] at this
      exact this
    have her : (ansR (Mc.peep code) d inp t ns).err = (ansR code d inp t ns).err := by rw [ans_err, ans_err, peep_err hc]
    by_cases he : (ansR code d inp t ns).err = 0
    · by_cases h6 : (ansR code d inp t ns).en = 6
      · exact same_six a ia _ cap _ icap d t s ns _ _ _ w her he h6 HP HF HR1 HR2 HCk
      · by_cases h7 : (ansR code d inp t ns).en = 7
        · exact same_seven a ia _ cap _ icap d t s ns _ _ _ w her he h7 HP HF HR1 HR2 HCk
        · obtain ⟨q1, q2, q3, q4, q5⟩ := peep_ans hc inp t ns he h6 h7
          exact same_fin a ia _ cap _ icap d t s ns _ _ _ w her he h6 h7 q1 q2 q3 q4 q5 HP HF HR1 HR2 HCk
    · exact same_err a ia _ cap _ icap d t s ns _ _ _ w her he HP HF HR1 HR2 HCk
  · exact same_bad a ia _ cap _ icap d t s _ w hc (fun W hb => Peep_bad a cap code d W (hT.later hb) hl hc)

end Go.Proofs.Ytpahhhhfhnpmjaa
