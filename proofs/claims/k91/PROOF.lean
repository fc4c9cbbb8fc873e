import PyProof.Rows.All
import Wide.All
import OpenK.AllK
import Wide.FinOn
import HandS.ForMost
import HandS.IsInst
import HandS.Flow
import HandS.Style
import HandS.ClsMeth
import HandS.CallRecv
import HandS.More
import HandS.Walk
import HandS.RaiseMore
import KE.GoesEnum
import KE.GoesMore
import KE.GoesZip
import HandS.Codes
import HandS.Words
import HandS.Ends
import PyProof.Rows.RegFStrParts
import PyProof.ReprRoads
import PyProof.P3Eq
import HandS.OwnEq
import HandS.FStr
import HandS.Property
import PyProof.StrLawsRepr
import PyProof.InstNe
import HandS.DictComp
import KE.KOpsOwn
import HandS.Strs
import HandS.Conv
import HandS.Steps
import PyProof.ListStr
import PyProof.Rows.SetFrom
import HandS.WordsExc
import HandS.ExcOwn
import HandS.ExcInit
import HandS.ExcField
import HandS.ExcIs
import HandS.TryOnly
import HandS.RevRange
import HandS.NoneIn
import HandS.Set
import HandS.Defaults
import HandS.MakeKwOnly
import HandS.SetTxt0
import HandS.TupMul
import HandS.HotCalls
import PyProof.EqKinds
import PyProof.StrWalks
import PyProof.SliceStr2
import HandS.TryMany
import HandS.JoinGen
import KE.KCallOwn
import KE.KExcIs
import PyProof.ListMulAny
import KE.DataCmp
import HandS.TupAny
import PySem.Challenge.RW_windowcuts_k91_pieces_and_rows_shown
set_option Elab.async false
set_option maxRecDepth 100000
set_option maxHeartbeats 4000000
set_option linter.all false
/-! My own words over the hand layer: one step of a reading, items of lists, bags of drawn numbers. -/
namespace KW
open PySem L2

local macro_rules | `(tactic| walk_at "r1") => `(tactic| first
  | refine ⟨_, rfl, ?_⟩
  | refine ⟨_, _, rfl, rfl, ?_⟩
  | refine ⟨rfl, ?_⟩
  | refine ⟨_, _, _, _, rfl, rfl, SqL.of (by assumption), rfl, ?_⟩
  | refine ⟨_, _, _, _, rfl, rfl, SqT.of (by assumption), rfl, ?_⟩)
local macro_rules | `(tactic| walk_at "rd") => `(tactic| repeat (walk_at "r1"))

theorem pget_list {X : Cx} : PGet X (rIxL X.K) := by
  intro pins s σ H x y v u Q I rx ry h
  obtain ⟨p, xs, i, z, rfl, rfl, hq, he, q⟩ := h
  cases rx
  obtain ⟨t, rfl⟩ := ry
  obtain ⟨its, r, pl, hz⟩ := I.list hq
  obtain ⟨j, h1, h2, h3, h4, h5⟩ := atI_get he
  obtain ⟨w, ew, rw'⟩ := r.get h2
  have hl := r.length
  have hn := line63
  have fin : EP X pins σ Q w s := ⟨z, H, I, rw', q⟩
  by_cases h0 : 0 ≤ i
  · have hj : i.toNat = j := by
      rw [seqIndex_of h0 h5] at h1
      exact Option.some.inj h1
    exact wpAny_mono (wpAny_getItem_list (Q := fun r s' => r = w ∧ EP X pins σ Q r s') pl.isList h0 (by omega) (by rw [hj]; simpa using ew) ⟨rfl, fin⟩) (fun _ _ h => h.2) fun _ _ h => h
  · have hj : (i + (its.toArray.size : Int)).toNat = j := by
      rw [seqIndex_neg (by omega) h4] at h1
      rw [List.size_toArray, ← hl]
      exact Option.some.inj h1
    exact wpAny_mono (wpAny_getItem_list_neg (Q := fun r s' => r = w ∧ EP X pins σ Q r s') pl.isList (by omega) (by rw [List.size_toArray] <;> omega) (by omega) (by rw [hj]; simpa using ew) ⟨rfl, fin⟩) (fun _ _ h => h.2) fun _ _ h => h

/-! ### what a def leaves: all but one list as it was -/
def KeepB (b : Addr) (H H' : Hp) : Prop := ∀ a o, a ≠ b → H a = some o → H' a = some o
theorem KeepB.refl (b : Addr) (H : Hp) : KeepB b H H := fun _ _ _ h => h
theorem KeepB.trans {b : Addr} {H H1 H2 : Hp} (x : KeepB b H H1) (y : KeepB b H1 H2) : KeepB b H H2 := fun a o n h => y a o n (x a o n h)
theorem KeepB.of_same {b : Addr} {H H' : Hp} (x : Same H H') : KeepB b H H' := fun a o _ h => x a o h
theorem KeepB.put {b : Addr} {H : Hp} {o : HO} : KeepB b H (upd H b o) := fun a o n h => by rw [upd_ne n]; exact h
theorem KeepB.new {b p : Addr} {H : Hp} {o : HO} (hp : H p = none) : KeepB b H (upd H p o) := fun a u _ h => by rw [upd_ne (ne_of_none h hp)]; exact h
theorem same_new {p : Addr} {H : Hp} {o : HO} (hp : H p = none) : Same H (upd H p o) := fun a u h => by rw [upd_ne (ne_of_none h hp)]; exact h

/-! ### the bag of drawn numbers -/
def BagAt (H : Hp) (b c : Addr) : Prop := ∃ (p q n : Int) (cs : List Int), H b = some (.lst [.int p, .int q, .int n, .ref c]) ∧ H c = some (.lst (cs.map V.int)) ∧
  0 ≤ p ∧ 0 ≤ q ∧ q < 2147483647 ∧ 0 ≤ n ∧ (∀ x ∈ cs, (0 : Int) ≤ x) ∧ cs.length ≤ 63
end KW
namespace KW
open PySem L2
theorem iteD {c A B : Prop} [Decidable c] (h1 : c → A) (h2 : ¬ c → B) : if decide c = true then A else B := by
  by_cases h : c
  · rw [if_pos (decide_eq_true h)]; exact h1 h
  · rw [if_neg (by rw [decide_eq_false h]; exact Bool.false_ne_true)]; exact h2 h
theorem iteI {i j : Int} {A B : Prop} (h1 : i = j → A) (h2 : ¬ i = j → B) : if decide (V.int i = V.int j) = true then A else B :=
  iteD (fun h => h1 (V.int.inj h)) fun h => h2 fun e => h (by rw [e])
theorem iteSt {i j : Str} {A B : Prop} (h1 : i = j → A) (h2 : ¬ i = j → B) : if decide (V.str i = V.str j) = true then A else B :=
  iteD (fun h => h1 (V.str.inj h)) fun h => h2 fun e => h (by rw [e])
theorem BagAt.mk' {H : Hp} {b c : Addr} {p q n : Int} {cs : List Int} (hb : H b = some (.lst [.int p, .int q, .int n, .ref c])) (hc : H c = some (.lst (cs.map V.int)))
    (p0 : 0 ≤ p) (q0 : 0 ≤ q) (q1 : q < 2147483647) (n0 : 0 ≤ n) (cs0 : ∀ x ∈ cs, (0 : Int) ≤ x) (cl : cs.length ≤ 63) : BagAt H b c := ⟨p, q, n, cs, hb, hc, p0, q0, q1, n0, cs0, cl⟩
theorem bag_ne {H : Hp} {b c : Addr} {p q n : Int} {d : Addr} {cs : List Int} (hb : H b = some (.lst [.int p, .int q, .int n, .ref d])) (hc : H c = some (.lst (cs.map V.int))) : c ≠ b := by
  intro e
  subst e
  rw [hb] at hc
  have h := HO.lst.inj (Option.some.inj hc)
  have h3 : (cs.map V.int)[3]? = some (V.ref d) := by rw [← h]; rfl
  rw [List.getElem?_map] at h3
  cases e : cs[3]? with
  | none => rw [e] at h3; cases h3
  | some z => rw [e] at h3; cases h3
end KW
namespace KW
open PySem L2
theorem at_ints {cs : List Int} {n : Int} (h0 : 0 ≤ n) (h1 : n < (cs.length : Int)) : ∃ z, z ∈ cs ∧ atI (cs.map V.int) n = some (V.int z) := by
  have hl : n.toNat < cs.length := by omega
  refine ⟨cs[n.toNat], List.getElem_mem hl, ?_⟩
  refine at_of (j := n.toNat) (by omega) ?_
  rw [List.getElem?_map, List.getElem?_eq_getElem hl]
  rfl
end KW
namespace KW
open PySem L2
section
variable {X : Cx}
/-! the rules that name the module's part, with that part named apart (within a comprehension) -/
theorem call_lenK {K : PySem.W.Frag} (h : X.K = K) : CallR X (.builtin "len") (fun xs H Q => ∃ x n, xs = [x] ∧ LenV K x H n ∧ Q (.int n) H) := by
  subst h; exact call_len
theorem ix_listK {K : PySem.W.Frag} (h : X.K = K) : IxR X (rIxL K) := by subst h; exact ix_list
theorem ix_tupK {K : PySem.W.Frag} (h : X.K = K) : IxR X (rIxT K) := by subst h; exact ix_tup
theorem call_isiK' {K : PySem.W.Frag} (h : X.K = K) : CallR X (.builtin "isinstance") (rIsi K) := by subst h; exact call_isi
theorem op_in_seqK {K : PySem.W.Frag} (h : X.K = K) : OpR X (compareOp .In) (rIn K false) := by subst h; exact op_in_seq
theorem op_notIn_seqK {K : PySem.W.Frag} (h : X.K = K) : OpR X (compareOp .NotIn) (rIn K true) := by subst h; exact op_notIn_seq
end
end KW

/-! zip of two texts; repr of None, an int, a bool, a text. -/
namespace KW
open PySem L2 PySem.Spec PyProof.Rows
/-- the signs of two texts, in new pairs -/
def ItzS (x y : Str) : It :=
  ⟨fun i _ => i < x.cps.size ∧ i < y.cps.size,
    fun i H v H' => ∃ (T : Addr) (c d : Nat), v = .ref T ∧ H T = none ∧ H' = upd H T (.tup [.str ⟨#[c]⟩, .str ⟨#[d]⟩]) ∧ x.cps[i]? = some c ∧ y.cps[i]? = some d,
    fun i _ => i ≤ x.cps.size ∧ i ≤ y.cps.size ∧ (i = x.cps.size ∨ i = y.cps.size)⟩
theorem turn_zipS {P : Program} {w : World} {K : PySem.W.Frag} {elts : List Expr} {kk : Nat} {tpos : Pos} {z TI TO i1 i2 : Addr} {x y : Str} {t u : Tok} (D : ZipSep2 z TI TO i1 i2 [i1] [i2]) :
    Turn P w K (.Tuple elts kk tpos) (ItzS x y) [z, TI, TO, i1, i2] z (fun i h => IsZip h z TI TO .none ∧ IsTupOf2 h TI (.ref i1) (.ref i2) ∧ (∃ a1 a2, IsTupOf2 h TO a1 a2) ∧ h.IsStrIter i1 (strIterType x) x t i ∧ h.IsStrIter i2 (strIterType y) y u i) where
  mem := by simp
  obj := fun i h st c hc => by
    obtain ⟨hz, hTI, ⟨a1, a2, hTO⟩, h1, h2⟩ := st
    have e' : c = z ∨ c = TI ∨ c = TO ∨ c = i1 ∨ c = i2 := by simpa using hc
    rcases e' with q | q | q | q | q
    · rw [q]; exact ⟨_, hz, fun v q => nomatch q⟩
    · rw [q]; exact ⟨_, hTI, fun v q => nomatch q⟩
    · rw [q]; exact ⟨_, hTO, fun v q => nomatch q⟩
    · obtain ⟨o1, e1, _, d1⟩ := h1
      rw [q]; exact ⟨o1, e1, fun v q => by rw [d1] at q; cases q⟩
    · obtain ⟨o1, e1, _, d1⟩ := h2
      rw [q]; exact ⟨o1, e1, fun v q => by rw [d1] at q; cases q⟩
  keep := fun i h h' st k => by
    obtain ⟨hz, hTI, ⟨a1, a2, hTO⟩, h1, h2⟩ := st
    exact ⟨k z (by simp) _ hz, k TI (by simp) _ hTI, ⟨a1, a2, k TO (by simp) _ hTO⟩, let ⟨o, ho, r⟩ := h1; ⟨o, k i1 (by simp) _ ho, r⟩, let ⟨o, ho, r⟩ := h2; ⟨o, k i2 (by simp) _ ho, r⟩⟩
  item := by
    intro X hP hw hK hc i pins s σ H E I hf st hg
    subst hP hw hK
    obtain ⟨hz, hTI, ⟨a1, a2, hTO⟩, h1, h2⟩ := st
    have hzl : z < s.heap.objs.size := Heap.lt_size hz
    refine wpAny_pyNext_zipD2_item D (Draws.text (by exact I.ok.hd hc) i1 x t) (Draws.text (by exact I.ok.hd hc) i2 y u) hz hTI hTO h1 h2 hg.1 hg.2 fun v1 v2 h' tk p1 p2 z' TO' h1' h2' hT hsz hk => ?_
    obtain ⟨c, t1, ec, rfl⟩ := p1
    obtain ⟨d, t2, ed, rfl⟩ := p2
    refine ⟨_, rfl, wpAny_letOwnedTupleGo_zip (s := { s with heap := h', toks := tk }) z' fun h'' z'' sb => ?_⟩
    have hT2 : h''.get? s.heap.objs.size = some { cls := .type "tuple", data := .seq #[.str ⟨#[c]⟩ t1, .str ⟨#[d]⟩ t2] } := (sb.2 _ (Nat.ne_of_gt hzl)).trans hT
    have new : ObjOk X.prog X.w (upd H s.heap.objs.size (.tup [.str ⟨#[c]⟩, .str ⟨#[d]⟩])) h'' s.heap.objs.size (.tup [.str ⟨#[c]⟩, .str ⟨#[d]⟩]) :=
      ⟨by show 2 ≤ sizeLine; decide, [.str ⟨#[c]⟩ t1, .str ⟨#[d]⟩ t2], .cons ⟨_, rfl⟩ (.cons ⟨_, rfl⟩ .nil), ⟨_, hT2, rfl, _, rfl⟩⟩
    have I1 : Inv X pins σ (upd H s.heap.objs.size (.tup [.str ⟨#[c]⟩, .str ⟨#[d]⟩])) { s with heap := h'', toks := tk } :=
      I.turnedNew (t' := tk) (ch := [z, TI, TO, i1, i2]) (fun c o hb q => (sb.2 c (fun q' => hb (by simp [q']))).trans (hk c o (fun q' => hb (by simp [q'])) (fun q' => hb (by simp [q'])) (fun q' => hb (by simp [q'])) (fun q' => hb (by simp [q'])) q)) hf (Nat.le_refl _) new
    refine ⟨.ref s.heap.objs.size, _, I1, rfl, ⟨_, c, d, rfl, I.hok.fresh (Nat.le_refl _), rfl, ec, ed⟩, ⟨z'', ?_, ⟨.str ⟨#[c]⟩ t1, .str ⟨#[d]⟩ t2, ?_⟩, ?_, ?_⟩, fun c hcm => ?_⟩
    · exact (sb.2 _ D.TIz).trans (hk _ _ D.TIz D.TITO D.TIi1 D.TIi2 hTI)
    · exact (sb.2 _ D.TOz).trans TO'
    · obtain ⟨o, ho, r⟩ := h1'
      exact ⟨o, (sb.2 _ D.zi1.symm).trans ho, r⟩
    · obtain ⟨o, ho, r⟩ := h2'
      exact ⟨o, (sb.2 _ D.zi2.symm).trans ho, r⟩
    · have hlt : c < s.heap.objs.size := by
        have e' : c = z ∨ c = TI ∨ c = TO ∨ c = i1 ∨ c = i2 := by simpa using hcm
        rcases e' with q | q | q | q | q
        · rw [q]; exact hzl
        · rw [q]; exact Heap.lt_size hTI
        · rw [q]; exact Heap.lt_size hTO
        · obtain ⟨_, ho, _⟩ := h1; rw [q]; exact Heap.lt_size ho
        · obtain ⟨_, ho, _⟩ := h2; rw [q]; exact Heap.lt_size ho
      rw [upd_ne (Nat.ne_of_lt hlt)]
      exact (hf c hcm).1
  done := by
    intro X hP hw hK hc i pins s σ H E I hf st hg
    subst hP hw hK
    obtain ⟨hz, hTI, ⟨a1, a2, hTO⟩, h1, h2⟩ := st
    exact wpAny_pyNext_zipD2_end D (Draws.text (by exact I.ok.hd hc) i1 x t) (Draws.text (by exact I.ok.hd hc) i2 y u) hz hTI hTO h1 h2 hg.1 hg.2.1 hg.2.2 fun h' tk hk => ⟨rfl, I.turnedL (t' := tk) (ch := [z, TI, TO, i1, i2]) (fun c o hb q =>
      hk c o (fun q' => hb (by simp [q'])) (fun q' => hb (by simp [q'])) (fun q' => hb (by simp [q'])) (fun q' => hb (by simp [q'])) q) hf⟩
  self := fun A i s Q E st h => wpAny_pyIter_zip st.1 h
def iZipS (ta : TA) : TI := fun σ H R => ta σ H fun vs H1 => ∃ x y : Str, vs = [.str x, .str y] ∧ R (ItzS x y) H1
theorem pi_zipS {X : Cx} {e e2 : Expr} {ta : TA} {p pos tpos : Pos} {elts : List Expr} {kk : Nat} (hg : Gl X "zip") (hm : X.mg "zip" = none) (ha : PA X [e, e2] ta)
    (hs : starEach [e, e2] X.env = (false, eval e X.env) :: starEach [e2] X.env := by rfl) (hpl : (backTo pos (starEach [e2] X.env)).any (·.1) = false := by rfl) :
    PI X (.Tuple elts kk tpos) (.Call (.Name "zip" p) [e, e2] [] pos) (iZipS ta) := by
  refine ⟨fun pins s σ H R I h => ?_⟩
  refine Call_ (ld_blt I hg hm PyProof.Rows.boot_zip (PyProof.Rows.callWith_type1 (thn (ha.run pos pins s σ H _ I h) fun us s1 ⟨vs, H1, I1, r1, q1⟩ => ?_) hs hpl))
  obtain ⟨x, y, ex, q⟩ := q1
  subst ex
  obtain ⟨u1, u2, rfl, ⟨t, rfl⟩, ⟨u, rfl⟩⟩ := vals2 r1
  refine zip_begins2 (begins_text x t) (begins_text y u) True.intro True.intro fun h' hz hTI hTO h1 h2 hsz hk => wpAny_pyIter_zip hz ?_
  have I2 : Inv X pins σ H1 { s1 with heap := h' } := I1.kept (t' := s1.toks) hk
  refine ⟨s1.heap.objs.size + 4, [s1.heap.objs.size + 4, s1.heap.objs.size + 2, s1.heap.objs.size + 3, s1.heap.objs.size, s1.heap.objs.size + 1], _, _, H1, rfl, I2, turn_zipS (zip_sep2 (N := s1.heap.objs.size) (fp1 := []) (fp2 := []) (fun _ h => nomatch h) (fun _ h => nomatch h)), ⟨hz, hTI, ⟨_, _, hTO⟩, ⟨_, h1, rfl, rfl⟩, ⟨_, h2, rfl, rfl⟩⟩, fun c hcm => ?_, q⟩
  have e' : c = s1.heap.objs.size + 4 ∨ c = s1.heap.objs.size + 2 ∨ c = s1.heap.objs.size + 3 ∨ c = s1.heap.objs.size ∨ c = s1.heap.objs.size + 1 := by simpa using hcm
  have hle : s1.heap.objs.size ≤ c := by
    rcases e' with z | z | z | z | z
    · rw [z]; exact Nat.le_add_right _ _
    · rw [z]; exact Nat.le_add_right _ _
    · rw [z]; exact Nat.le_add_right _ _
    · rw [z]; exact Nat.le_refl _
    · rw [z]; exact Nat.le_add_right _ _
  exact I1.fpOk hle (I1.hok.fresh hle)
theorem walk_zipS {x y : Str} : Walk (ItzS x y) (min x.cps.size y.cps.size) (fun _ => True) (YPair (fun i => (x.cps[i]?).map fun c => .str ⟨#[c]⟩) (fun i => (y.cps[i]?).map fun c => .str ⟨#[c]⟩)) := by
  refine ⟨fun i _ hi _ => ⟨by omega, by omega⟩, fun _ _ => ⟨by omega, by omega, by omega⟩, fun i H v H' _ _ yv => ?_⟩
  obtain ⟨T, c, d, h1, h2, h3, h4, h5⟩ := yv
  exact ⟨T, .str ⟨#[c]⟩, .str ⟨#[d]⟩, h1, h2, h3, by simp only [h4, Option.map_some], by simp only [h5, Option.map_some]⟩

/-! ### repr of flat values -/
def reprV : V → Str
  | .non => "None"
  | .int i => Str.ofString (toString i)
  | .bl b => if b then "True" else "False"
  | .str x => reprText x
  | _ => Str.empty
def ReprOk : V → Prop
  | .non => True
  | .int i => i.natAbs.log2 < 1920
  | .bl _ => True
  | .str x => (reprText x).length ≤ sizeLine
  | _ => False
theorem call_reprV {X : Cx} : CallR X (.builtin "repr") (fun xs H Q => ∃ x, xs = [x] ∧ ReprOk x ∧ Q (.str (reprV x)) H) := by
  intro pins s σ H xs us Q I r h
  obtain ⟨x, rfl, hz, q⟩ := h
  obtain ⟨u, rfl, ru⟩ := vals1 r
  cases x with
  | non => cases ru; exact PySem.P.repr_of_none ⟨.str _, H, I.tok _, ⟨_, rfl⟩, q⟩
  | int i => obtain ⟨t, rfl⟩ := ru; exact PySem.P.repr_of_int hz ⟨.str _, H, I.tok _, ⟨_, rfl⟩, q⟩
  | bl b => cases ru; exact PySem.P.repr_of_bool ⟨.str _, H, I.tok _, ⟨_, rfl⟩, by cases b <;> exact q⟩
  | str z => obtain ⟨t, rfl⟩ := ru; exact PySem.P.repr_of_str ⟨.str _, H, I.tok _, ⟨_, rfl⟩, q⟩ hz
  | _ => exact hz.elim
end KW

/-! isinstance of the seven kinds; comprehensions that gather f of each item; letters in order. -/
namespace KW
open PySem L2

/-! ### isinstance -/
def kinds7 : List String := ["NoneType", "bool", "int", "str", "list", "tuple", "dict"]
def Ty7 (K : PySem.W.Frag) (H : Hp) (x : V) (n : String) : Prop := TyX K H x (.type n) ∧ n ∈ kinds7
section
variable {K : PySem.W.Frag} {H : Hp}
theorem Ty7.non : Ty7 K H .non "NoneType" := ⟨.base .non, by decide⟩
theorem Ty7.bl {b : Bool} : Ty7 K H (.bl b) "bool" := ⟨.base (.bl b), by decide⟩
theorem Ty7.int {i : Int} : Ty7 K H (.int i) "int" := ⟨.base (.int i), by decide⟩
theorem Ty7.str {x : Str} : Ty7 K H (.str x) "str" := ⟨.base (.str x), by decide⟩
theorem Ty7.lst {a : Addr} {xs : List V} (e : H a = some (.lst xs)) : Ty7 K H (.ref a) "list" := ⟨.base (.lst e), by decide⟩
theorem Ty7.tup {a : Addr} {xs : List V} (e : H a = some (.tup xs)) : Ty7 K H (.ref a) "tuple" := ⟨.base (.tup e), by decide⟩
theorem Ty7.dK {a : Addr} {kvs : List (Key × V)} (e : H a = some (.dK kvs)) : Ty7 K H (.ref a) "dict" := ⟨.base (.dK e), by decide⟩
theorem kit7 {n c : String} (hn : n ∈ kinds7) (hc : c = "str" ∨ c = "tuple" ∨ c = "list" ∨ c = "dict" ∨ c = "bool") : PySem.W.kitOne K (.type n) (.type c) = some (n == c) := by
  simp only [kinds7, List.mem_cons, List.not_mem_nil, or_false] at hn
  rcases hc with rfl | rfl | rfl | rfl | rfl <;> rcases hn with rfl | rfl | rfl | rfl | rfl | rfl | rfl <;> exact kit_ty (by decide +kernel)
theorem kit7i {n : String} (hn : n ∈ kinds7) : PySem.W.kitOne K (.type n) (.type "int") = some (n == "int" || n == "bool") := by
  simp only [kinds7, List.mem_cons, List.not_mem_nil, or_false] at hn
  rcases hn with rfl | rfl | rfl | rfl | rfl | rfl | rfl <;> exact kit_ty (by decide +kernel)
theorem isi7 {x : V} {n c : String} {Q : VK} (h : Ty7 K H x n) (hc : c = "str" ∨ c = "tuple" ∨ c = "list" ∨ c = "dict" ∨ c = "bool") (q : Q (.bl (n == c)) H) : rIsi K [x, .ty c] H Q :=
  ⟨x, .ty c, _, _, _, rfl, .ty c, h.1, kit7 h.2 hc, q⟩
theorem isi7i {x : V} {n : String} {Q : VK} (h : Ty7 K H x n) (q : Q (.bl (n == "int" || n == "bool")) H) : rIsi K [x, .ty "int"] H Q :=
  ⟨x, .ty "int", _, _, _, rfl, .ty "int", h.1, kit7i h.2, q⟩
end

/-! ### a list gathered turn by turn -/
section
variable {α : Type} {l : List α} {f : α → V} {H1 H : Hp} {D : Addr}
/-- the first i items' values stand at D, all else as ahead -/
def Acc (l : List α) (f : α → V) (H1 : Hp) (D : Addr) (i : Nat) (H : Hp) : Prop := KeepB D H1 H ∧ H D = some (.lst ((l.take i).map f))
theorem Acc.start (l : List α) (f : α → V) (H1 : Hp) (D : Addr) : Acc l f H1 D 0 (upd H1 D (.lst [])) := ⟨KeepB.put, by rw [List.take_zero]; exact upd_same⟩
theorem take_succ_map {i : Nat} {a : α} (h : l[i]? = some a) : (l.take (i + 1)).map f = (l.take i).map f ++ [f a] := by
  rw [List.take_add_one, h, List.map_append]
  rfl
theorem Acc.step {i : Nat} {a : α} {y : V} {H' : Hp} (k : Acc l f H1 D i H) (s : KeepB D H H') (hD : H' D = H D) (h : l[i]? = some a) (hl : l.length ≤ 1000000) (hy : y = f a) :
    ∃ acc, H' D = some (.lst acc) ∧ acc.length < sizeLine ∧ Acc l f H1 D (i + 1) (upd H' D (.lst (acc ++ [y]))) := by
  refine ⟨_, hD.trans k.2, ?_, (k.1.trans s).trans KeepB.put, ?_⟩
  · rw [List.length_map, List.length_take]
    have : sizeLine = 16777216 := sizeLine_eq
    omega
  · rw [upd_same, take_succ_map h, hy]
theorem Acc.step0 {i : Nat} {a : α} {y : V} (k : Acc l f H1 D i H) (h : l[i]? = some a) (hl : l.length ≤ 1000000) (hy : y = f a) :
    ∃ acc, H D = some (.lst acc) ∧ acc.length < sizeLine ∧ Acc l f H1 D (i + 1) (upd H D (.lst (acc ++ [y]))) := k.step (KeepB.refl _ _) rfl h hl hy
theorem Acc.all (k : Acc l f H1 D l.length H) : H D = some (.lst (l.map f)) := by
  have := k.2
  rwa [List.take_length] at this
theorem same_keepB (h : H1 D = none) (k : KeepB D H1 H) : Same H1 H := fun a o e => k a o (ne_of_none e h) e
theorem Acc.same {n : Nat} (k : Acc l f H1 D n H) (h : H1 D = none) : Same H1 H := same_keepB h k.1
end

/-! ### texts as lists of codes -/
abbrev cl (z : Str) : List Nat := z.cps.toList
theorem cl_get {z : Str} {i c : Nat} (h : z.cps[i]? = some c) : (cl z)[i]? = some c := by rw [Array.getElem?_toList]; exact h
theorem cl_len (z : Str) : (cl z).length = z.length := Array.length_toList
def letB (c : Nat) : Bool := decide (97 ≤ c) && decide (c ≤ 122)
def lettersB (z : Str) : Bool := (cl z).all letB
def ascB : List Nat → Bool
  | a :: b :: r => decide (a < b) && ascB (b :: r)
  | _ => true
theorem one_lt (c d : Nat) : decide (([c] : List Nat) < [d]) = decide (c < d) := by
  by_cases h : c < d
  · rw [decide_eq_true h, decide_eq_true]
    exact List.Lex.rel h
  · rw [decide_eq_false h, decide_eq_false]
    intro q
    cases q with
    | rel q => exact h q
    | cons q => cases q
theorem asc_zip : ∀ l : List Nat, ((l.zip l.tail).map fun p => decide (p.1 < p.2)).all id = ascB l
  | [] => rfl
  | [_] => rfl
  | a :: b :: r => by
    have ih := asc_zip (b :: r)
    show (decide (a < b) && (((b :: r).zip (b :: r).tail).map fun p => decide (p.1 < p.2)).all id) = (decide (a < b) && ascB (b :: r))
    rw [ih]
end KW
namespace KW
open PySem L2
theorem iteK {k : Bool} {A B : Prop} (h1 : k = true → A) (h2 : k = false → B) : if k = true then A else B := by
  cases k
  · rw [if_neg Bool.false_ne_true]; exact h2 rfl
  · rw [if_pos rfl]; exact h1 rfl
theorem cl_a : (Str.ofString "a").cps.toList = [97] := by decide +kernel
theorem cl_z : (Str.ofString "z").cps.toList = [122] := by decide +kernel
theorem le_a (c : Nat) : (!decide ((⟨#[c]⟩ : Str).cps.toList < (Str.ofString "a").cps.toList)) = decide (97 ≤ c) := by
  rw [cl_a, show (⟨#[c]⟩ : Str).cps.toList = [c] from rfl, one_lt]
  by_cases h : c < 97
  · rw [decide_eq_true h, decide_eq_false (by omega)]; rfl
  · rw [decide_eq_false h, decide_eq_true (by omega)]; rfl
theorem le_z (c : Nat) : (!decide ((Str.ofString "z").cps.toList < (⟨#[c]⟩ : Str).cps.toList)) = decide (c ≤ 122) := by
  rw [cl_z, show (⟨#[c]⟩ : Str).cps.toList = [c] from rfl, one_lt]
  by_cases h : 122 < c
  · rw [decide_eq_true h, decide_eq_false (by omega)]; rfl
  · rw [decide_eq_false h, decide_eq_true (by omega)]; rfl
theorem cut1 (z : Str) : cl (cutS z (some 1) none) = (cl z).tail := by
  show ((z.cps.toList.drop (HT.sIx z.length 0 (some 1))).take (HT.sIx z.length z.length none - HT.sIx z.length 0 (some 1))).toArray.toList = _
  have h1 : HT.sIx z.length z.length none = z.length := rfl
  have hl : z.cps.toList.length = z.length := Array.length_toList
  by_cases h : 1 ≤ z.length
  · have h0 : HT.sIx z.length 0 (some 1) = 1 := by
      unfold HT.sIx
      simp
      omega
    rw [h0, h1]
    show ((z.cps.toList.drop 1).take (z.length - 1)) = _
    rw [List.take_of_length_le (by rw [List.length_drop]; omega), List.drop_one]
  · have h2 : z.length = 0 := by omega
    have : z.cps.toList = [] := List.eq_nil_of_length_eq_zero (by omega)
    rw [show cl z = z.cps.toList from rfl, this]
    simp
end KW
namespace KW
open PySem L2
theorem szl {n : Nat} (h : n ≤ 1000000) : n ≤ sizeLine := by
  have : sizeLine = 16777216 := sizeLine_eq
  omega
theorem szt {n : Nat} (h : n ≤ 1000000) : n < sizeLine := by
  have : sizeLine = 16777216 := sizeLine_eq
  omega
end KW
namespace KW
open PySem L2
theorem Ty7.str_inv {K : PySem.W.Frag} {H : Hp} {x : V} (h : Ty7 K H x "str") : ∃ y, x = .str y := by
  obtain ⟨h, _⟩ := h
  generalize e : Value.type "str" = t at h
  cases h with
  | base b =>
    cases b <;> first | exact ⟨_, rfl⟩ | (exact absurd e (by simp)) | (simp at e)
  | _ => simp at e
theorem Ty7.int_inv {K : PySem.W.Frag} {H : Hp} {x : V} (h : Ty7 K H x "int") : ∃ y, x = .int y := by
  obtain ⟨h, _⟩ := h
  generalize e : Value.type "int" = t at h
  cases h with
  | base b =>
    cases b <;> first | exact ⟨_, rfl⟩ | (exact absurd e (by simp)) | (simp at e)
  | _ => simp at e
end KW

/-! values by kind; tokens as lists of values. -/
namespace KW
open PySem L2
def intV : V → Bool
  | .int _ => true
  | _ => false
def strV : V → Bool
  | .str _ => true
  | _ => false
def withinV (a b : Int) : V → Bool
  | .int i => decide (a ≤ i) && decide (i ≤ b)
  | _ => false
section
variable {K : PySem.W.Frag} {H : Hp}
theorem Ty7.int_iff {x : V} {n : String} (h : Ty7 K H x n) : (n == "int") = intV x := by
  obtain ⟨h, _⟩ := h
  generalize e : Value.type n = t at h
  cases h with
  | base b => cases b <;> first | (cases e; rfl) | (simp at e)
  | _ => cases e; rfl
theorem Ty7.str_iff {x : V} {n : String} (h : Ty7 K H x n) : (n == "str") = strV x := by
  obtain ⟨h, _⟩ := h
  generalize e : Value.type n = t at h
  cases h with
  | base b => cases b <;> first | (cases e; rfl) | (simp at e)
  | _ => cases e; rfl
theorem Ty7.of_tup {a : Addr} {xs : List V} (h : SqT K H a xs) : Ty7 K H (.ref a) "tuple" := by
  rcases h with (h | ⟨o, h⟩) | ⟨o, its, n, h, hc, _⟩
  · exact .tup h
  · exact ⟨.fTuple h, by decide⟩
  · exact ⟨.kTuple h hc, by decide⟩
theorem Ty7.of_lst {a : Addr} {xs : List V} (h : SqL K H a xs) : Ty7 K H (.ref a) "list" := by
  rcases h with (h | ⟨o, h⟩) | ⟨o, its, n, h, hc, _⟩
  · exact .lst h
  · exact ⟨.base (.frz h), by decide⟩
  · exact ⟨.kList h hc, by decide⟩
end
/-- a text over signs; a choice -/
def overB (z y : Str) : Bool := (cl y).all fun c => decide (c ∈ cl z)
def choiceB (z y : Str) : Bool := decide (1 ≤ y.length) && decide (y.length ≤ z.length) && overB z y && ascB (cl y)
def signsB (z : Str) : Bool := decide (2 ≤ z.length) && decide (z.length ≤ 6) && lettersB z && ascB (cl z)
/-- a tuple's items are a token over z -/
def tokV (z : Str) : List V → Bool
  | [.str k] => decide (k = "flush")
  | [.str k, .str y] => (decide (k = "text") && overB z y && decide (1 ≤ y.length) && decide (y.length ≤ 40)) || (decide (k = "any") && choiceB z y)
  | [.str k, x, y] => (decide (k = "copy") || decide (k = "say")) && withinV 1 12 x && withinV 1 40 y
  | _ => false
def sizeV : List V → Int
  | [.str k] => 0
  | [.str k, .str y] => if k = "any" then 1 else (y.length : Int)
  | [_, _, .int n] => n
  | _ => 0
end KW
namespace KW
open PySem L2
/-- how a token's items look -/
theorem tok_inv {z : Str} {xs : List V} (h : tokV z xs = true) : ∃ (kd : Str) (rest : List V), xs = .str kd :: rest ∧
    ((kd = "flush" ∧ rest = []) ∨ (∃ y : Str, kd = "text" ∧ rest = [.str y] ∧ overB z y = true ∧ 1 ≤ y.length ∧ y.length ≤ 40) ∨ (∃ y : Str, kd = "any" ∧ rest = [.str y] ∧ choiceB z y = true) ∨
      ∃ d n : Int, (kd = "copy" ∨ kd = "say") ∧ rest = [.int d, .int n] ∧ 1 ≤ d ∧ d ≤ 12 ∧ 1 ≤ n ∧ n ≤ 40) := by
  unfold tokV at h
  split at h
  · exact ⟨_, _, rfl, .inl ⟨of_decide_eq_true h, rfl⟩⟩
  · rename_i k y
    refine ⟨_, _, rfl, ?_⟩
    rw [Bool.or_eq_true] at h
    rcases h with h | h
    · simp only [Bool.and_eq_true, decide_eq_true_eq] at h
      exact .inr (.inl ⟨y, h.1.1.1, rfl, h.1.1.2, h.1.2, h.2⟩)
    · simp only [Bool.and_eq_true, decide_eq_true_eq] at h
      exact .inr (.inr (.inl ⟨y, h.1, rfl, h.2⟩))
  · rename_i k x y
    refine ⟨_, _, rfl, ?_⟩
    simp only [Bool.and_eq_true, Bool.or_eq_true, decide_eq_true_eq] at h
    obtain ⟨⟨h1, h2⟩, h3⟩ := h
    cases x with
    | int d =>
      cases y with
      | int n =>
        simp only [withinV, Bool.and_eq_true, decide_eq_true_eq] at h2 h3
        exact .inr (.inr (.inr ⟨d, n, h1, rfl, h2.1, h2.2, h3.1, h3.2⟩))
      | _ => simp [withinV] at h3
    | _ => simp [withinV] at h2
  · simp at h
end KW
namespace KW
open PySem L2
theorem iteStY {a : Str} {A B : Prop} (h : A) : if decide (V.str a = V.str a) = true then A else B := iteD (fun _ => h) fun e => absurd rfl e
theorem iteStN {a b : Str} {A B : Prop} (n : a ≠ b) (h : B) : if decide (V.str a = V.str b) = true then A else B := iteD (fun e => absurd (V.str.inj e) n) fun _ => h
theorem iteStNS {a b : Str} {A B : Prop} (n : a ≠ b) (h : A) : if (!decide (V.str a = V.str b)) = true then A else B := iteK (fun _ => h) fun e => by
  rw [decide_eq_false (fun q => n (V.str.inj q))] at e
  cases e
end KW
namespace KW
open PySem L2
theorem sizeV_text (y : Str) : sizeV [.str "text", .str y] = (y.length : Int) := by
  show (if ("text" : Str) = "any" then (1 : Int) else (y.length : Int)) = _
  exact if_neg (by decide +kernel)
theorem sizeV_any (y : Str) : sizeV [.str "any", .str y] = 1 := by
  show (if ("any" : Str) = "any" then (1 : Int) else (y.length : Int)) = _
  exact if_pos rfl
theorem iteDY {c A B : Prop} [Decidable c] (n : c) (h : A) : if decide c = true then A else B := iteD (fun _ => h) fun e => absurd n e
theorem iteDN {c A B : Prop} [Decidable c] (n : ¬ c) (h : B) : if decide c = true then A else B := iteD (fun e => absurd e n) fun _ => h
theorem iteKY {k : Bool} {A B : Prop} (n : k = true) (h : A) : if k = true then A else B := iteK (fun _ => h) fun e => by rw [n] at e; cases e
theorem iteKN {k : Bool} {A B : Prop} (n : k = false) (h : B) : if k = true then A else B := iteK (fun e => by rw [n] at e; cases e) fun _ => h
end KW
namespace KW
open PySem L2
theorem sqT_same {K : PySem.W.Frag} {H H' : Hp} {a : Addr} {xs : List V} (e : Same H H') (h : SqT K H a xs) : SqT K H' a xs := by
  rcases h with (h | ⟨o, h⟩) | h
  · exact .inl (.inl (e _ _ h))
  · exact .inl (.inr ⟨o, e _ _ h⟩)
  · exact .inr h
end KW

/-! Lists of tokens, their sizes, places, needs. -/
namespace KW
open PySem L2

/-! ### pairs of lists -/
theorem paired_get {α β : Type} {F : α → β → Prop} : ∀ {l : List α} {m : List β} {i : Nat} {x : α}, Paired F l m → l[i]? = some x → ∃ y, m[i]? = some y ∧ F x y
  | _, _, i, _, .nil, e => by simp at e
  | _, _, 0, _, .cons r _, e => by simp at e; subst e; exact ⟨_, rfl, r⟩
  | _, _, i + 1, x, .cons _ t, e => by
    obtain ⟨u, h1, h2⟩ := paired_get (i := i) (x := x) t (by simpa using e)
    exact ⟨u, by simpa using h1, h2⟩
theorem paired_app {α β : Type} {F : α → β → Prop} : ∀ {l l' : List α} {m m' : List β}, Paired F l m → Paired F l' m' → Paired F (l ++ l') (m ++ m')
  | _, _, _, _, .nil, s => s
  | _, _, _, _, .cons r t, s => .cons r (paired_app t s)
theorem paired_one {α β : Type} {F : α → β → Prop} {x : α} {y : β} (h : F x y) : Paired F [x] [y] := .cons h .nil
theorem paired_take {α β : Type} {F : α → β → Prop} : ∀ {l : List α} {m : List β} (n : Nat), Paired F l m → Paired F (l.take n) (m.take n)
  | _, _, 0, _ => .nil
  | _, _, _ + 1, .nil => .nil
  | _, _, n + 1, .cons r t => .cons r (paired_take n t)
theorem paired_drop {α β : Type} {F : α → β → Prop} : ∀ {l : List α} {m : List β} (n : Nat), Paired F l m → Paired F (l.drop n) (m.drop n)
  | _, _, 0, r => r
  | _, _, _ + 1, .nil => .nil
  | _, _, n + 1, .cons _ t => paired_drop n t
theorem paired_len {α β : Type} {F : α → β → Prop} {l : List α} {m : List β} (h : Paired F l m) : l.length = m.length := Paired.length h
theorem paired_mono {α β : Type} {F G : α → β → Prop} : ∀ {l : List α} {m : List β}, Paired F l m → (∀ a b, F a b → G a b) → Paired G l m
  | _, _, .nil, _ => .nil
  | _, _, .cons r t, f => .cons (f _ _ r) (paired_mono t f)
theorem paired_rep {α β : Type} {F : α → β → Prop} {x : α} {y : β} (h : F x y) : ∀ n : Nat, Paired F (List.replicate n x) (List.replicate n y)
  | 0 => .nil
  | n + 1 => .cons h (paired_rep h n)
theorem paired_all {α β : Type} {F : α → β → Prop} {l : List α} {m : List β} (h : Paired F l m) : ∀ y ∈ m, ∃ x ∈ l, F x y := by
  induction h with
  | nil => intro y hy; cases hy
  | cons r t ih =>
    intro y hy
    rcases List.mem_cons.mp hy with rfl | hy
    · exact ⟨_, List.mem_cons_self, r⟩
    · obtain ⟨x, hx, hr⟩ := ih y hy
      exact ⟨x, List.mem_cons_of_mem _ hx, hr⟩

/-! ### tokens and places in the heap -/
def TupAt (K : PySem.W.Frag) (H : Hp) (v : V) (xs : List V) : Prop := ∃ a, v = .ref a ∧ SqT K H a xs
def TokAt (K : PySem.W.Frag) (H : Hp) (z : Str) (v : V) (xs : List V) : Prop := TupAt K H v xs ∧ tokV z xs = true
theorem TupAt.keep {K : PySem.W.Frag} {H H' : Hp} {b : Addr} {v : V} {xs : List V} (k : KeepB b H H') (hb : ∀ ys o, H b ≠ some (.tup ys) ∧ H b ≠ some (.frz o (.tup ys))) (h : TupAt K H v xs) : TupAt K H' v xs := by
  obtain ⟨a, rfl, h⟩ := h
  refine ⟨a, rfl, ?_⟩
  rcases h with (h | ⟨o, h⟩) | h
  · exact .inl (.inl (k _ _ (fun e => (hb xs (default : Obj)).1 (e ▸ h)) h))
  · exact .inl (.inr ⟨o, k _ _ (fun e => (hb xs o).2 (e ▸ h)) h⟩)
  · exact .inr h
theorem TupAt.same {K : PySem.W.Frag} {H H' : Hp} {v : V} {xs : List V} (k : Same H H') (h : TupAt K H v xs) : TupAt K H' v xs := by
  obtain ⟨a, rfl, h⟩ := h
  exact ⟨a, rfl, sqT_same k h⟩
/-- what stands at b is a list (or nothing) -/
def LstOrNo (H : Hp) (b : Addr) : Prop := H b = none ∨ (∃ xs, H b = some (.lst xs)) ∨ ∃ C dx fs, H b = some (.ins C dx fs)
theorem LstOrNo.no {H : Hp} {b : Addr} (h : LstOrNo H b) : ∀ ys o, H b ≠ some (.tup ys) ∧ H b ≠ some (.frz o (.tup ys)) := fun ys o => by
  rcases h with h | ⟨xs, h⟩ | ⟨C, dx, fs, h⟩ <;> (rw [h]; exact ⟨fun e => (by cases e), fun e => (by cases e)⟩)
theorem BagAt.lst {H : Hp} {b c : Addr} (h : BagAt H b c) : LstOrNo H b := by
  obtain ⟨p, q, n, cs, hb, _⟩ := h
  exact .inr (.inl ⟨_, hb⟩)
abbrev Toks (K : PySem.W.Frag) (H : Hp) (z : Str) : List V → List (List V) → Prop := Paired (TokAt K H z)
theorem Toks.keep {K : PySem.W.Frag} {H H' : Hp} {b : Addr} {z : Str} {vs : List V} {ts : List (List V)} (k : KeepB b H H') (hb : LstOrNo H b) (h : Toks K H z vs ts) : Toks K H' z vs ts :=
  paired_mono h fun _ _ t => ⟨t.1.keep k hb.no, t.2⟩
theorem Toks.same {K : PySem.W.Frag} {H H' : Hp} {z : Str} {vs : List V} {ts : List (List V)} (k : Same H H') (h : Toks K H z vs ts) : Toks K H' z vs ts :=
  paired_mono h fun _ _ t => ⟨t.1.same k, t.2⟩
def tsize (ts : List (List V)) : Int := (ts.map sizeV).sum
theorem tsize_nil : tsize [] = 0 := rfl
theorem tsize_cons (t : List V) (ts : List (List V)) : tsize (t :: ts) = sizeV t + tsize ts := by unfold tsize; rw [List.map_cons, List.sum_cons]
theorem tsize_app (ts us : List (List V)) : tsize (ts ++ us) = tsize ts + tsize us := by
  induction ts with
  | nil => rw [List.nil_append, tsize_nil]; omega
  | cons t ts ih => rw [List.cons_append, tsize_cons, tsize_cons, ih]; omega
theorem size_nn {z : Str} {t : List V} (h : tokV z t = true) : 0 ≤ sizeV t ∧ sizeV t ≤ 40 := by
  obtain ⟨kd, rest, rfl, hk⟩ := tok_inv h
  rcases hk with ⟨rfl, rfl⟩ | ⟨y, rfl, rfl, h1, h2, h3⟩ | ⟨y, rfl, rfl, h1⟩ | ⟨d, n, hkd, rfl, h1, h2, h3, h4⟩
  · exact ⟨Int.le_refl _, by decide⟩
  · rw [sizeV_text]; omega
  · rw [sizeV_any]; decide
  · show 0 ≤ n ∧ n ≤ 40; omega
theorem tsize_nn {z : Str} {ts : List (List V)} (h : ∀ t ∈ ts, tokV z t = true) : 0 ≤ tsize ts := by
  induction ts with
  | nil => exact Int.le_refl _
  | cons t ts ih =>
    rw [tsize_cons]
    have := (size_nn (h t List.mem_cons_self)).1
    have := ih fun u hu => h u (List.mem_cons_of_mem _ hu)
    omega
theorem Toks.ok {K : PySem.W.Frag} {H : Hp} {z : Str} {vs : List V} {ts : List (List V)} (h : Toks K H z vs ts) : ∀ t ∈ ts, tokV z t = true := fun t ht =>
  let ⟨_, _, r⟩ := paired_all h t ht
  r.2
def placeT : List V → List (List V)
  | [.str k, .str y] => if k = "any" then [[.str "hole", .str y]] else (cl y).map fun c => [.str "sign", .str ⟨#[c]⟩]
  | [k, .int d, .int n] => List.replicate n.toNat [k, .int d]
  | _ => []
def placesL (ts : List (List V)) : List (List V) := ts.flatMap placeT
theorem places_app (ts us : List (List V)) : placesL (ts ++ us) = placesL ts ++ placesL us := List.flatMap_append
theorem places_one (t : List V) : placesL [t] = placeT t := by
  unfold placesL
  simp
/-! ### what a piece needs -/
def stepN (t : List V) (fl : Option Int) (m w : Int) : Option (Option Int × Int × Int) :=
  match t with
  | [.str _] => some (some w, m, w)
  | [.str k, .str y] => some (fl, m, w + sizeV [.str k, .str y])
  | [.str k, .int d, .int n] =>
    if k = "copy" then
      match fl with
      | none => some (none, if d - w > m then d - w else m, w + n)
      | some f => if w - f < d then none else some (some f, m, w + n)
    else some (fl, m, w + n)
  | _ => some (fl, m, w)
def needsL : List (List V) → Option Int → Int → Int → V
  | [], _, m, _ => .int m
  | t :: r, fl, m, w => match stepN t fl m w with
    | none => .non
    | some (fl', m', w') => needsL r fl' m' w'
def optV : Option Int → V
  | none => .non
  | some f => .int f
def shiftV (k : Int) : V → V
  | .int n => .int (if n - k > 0 then n - k else 0)
  | v => v
theorem needs_shift {z : Str} {k : Int} : ∀ (ts : List (List V)), (∀ t ∈ ts, tokV z t = true) → ∀ (fl : Option Int) (m w : Int), needsL ts (fl.map (· + k)) (if m - k > 0 then m - k else 0) (w + k) = shiftV k (needsL ts fl m w) := by
  intro ts
  induction ts with
  | nil => intro _ fl m w; rfl
  | cons t r ih =>
    intro h fl m w
    have hr : ∀ t ∈ r, tokV z t = true := fun u hu => h u (List.mem_cons_of_mem _ hu)
    obtain ⟨kd, rest, rfl, hk⟩ := tok_inv (h t List.mem_cons_self)
    rcases hk with ⟨rfl, rfl⟩ | ⟨y, rfl, rfl, h1, h2, h3⟩ | ⟨y, rfl, rfl, h1⟩ | ⟨d, n, hkd, rfl, h1, h2, h3, h4⟩
    · exact ih hr (some w) m w
    · have e := ih hr fl m (w + sizeV [.str "text", .str y])
      rw [show w + sizeV [.str "text", .str y] + k = w + k + sizeV [.str "text", .str y] by omega] at e
      exact e
    · have e := ih hr fl m (w + sizeV [.str "any", .str y])
      rw [show w + sizeV [.str "any", .str y] + k = w + k + sizeV [.str "any", .str y] by omega] at e
      exact e
    · by_cases hc : kd = "copy"
      · cases fl with
        | none =>
          have e := ih hr none (if d - w > m then d - w else m) (w + n)
          show needsL _ _ _ _ = _
          unfold needsL stepN
          simp only [if_pos hc, Option.map_none]
          rw [show w + k + n = w + n + k by omega]
          rw [← show _ = shiftV k (needsL r none (if d - w > m then d - w else m) (w + n)) from e]
          congr 1
          repeat' split
          all_goals omega
        | some f =>
          unfold needsL stepN
          simp only [if_pos hc, Option.map_some]
          by_cases hd : w - f < d
          · rw [if_pos (by omega), if_pos hd]
            rfl
          · rw [if_neg (by omega), if_neg hd]
            have e := ih hr (some f) m (w + n)
            rw [show w + k + n = w + n + k by omega]
            exact e
      · unfold needsL stepN
        simp only [if_neg hc]
        have e := ih hr fl m (w + n)
        rw [show w + k + n = w + n + k by omega]
        exact e
theorem needs_le {z : Str} : ∀ (ts : List (List V)), (∀ t ∈ ts, tokV z t = true) → ∀ (fl : Option Int) (m w : Int), 0 ≤ m → m ≤ 12 → 0 ≤ w → needsL ts fl m w = .non ∨ ∃ n, needsL ts fl m w = .int n ∧ 0 ≤ n ∧ n ≤ 12 := by
  intro ts
  induction ts with
  | nil => intro _ fl m w h0 h1 _; exact .inr ⟨m, rfl, h0, h1⟩
  | cons t r ih =>
    intro h fl m w m0 m1 w0
    have hr : ∀ t ∈ r, tokV z t = true := fun u hu => h u (List.mem_cons_of_mem _ hu)
    have hz := size_nn (h t List.mem_cons_self)
    obtain ⟨kd, rest, rfl, hk⟩ := tok_inv (h t List.mem_cons_self)
    rcases hk with ⟨rfl, rfl⟩ | ⟨y, rfl, rfl, h1, h2, h3⟩ | ⟨y, rfl, rfl, h1⟩ | ⟨d, n, hkd, rfl, h1, h2, h3, h4⟩
    · exact ih hr (some w) m w m0 m1 w0
    · exact ih hr fl m (w + sizeV [.str "text", .str y]) m0 m1 (by omega)
    · exact ih hr fl m (w + sizeV [.str "any", .str y]) m0 m1 (by omega)
    · by_cases hc : kd = "copy"
      · cases fl with
        | none =>
          unfold needsL stepN
          simp only [if_pos hc]
          exact ih hr none _ (w + n) (by split <;> omega) (by split <;> omega) (by omega)
        | some f =>
          unfold needsL stepN
          simp only [if_pos hc]
          by_cases hd : w - f < d
          · rw [if_pos hd]; exact .inl rfl
          · rw [if_neg hd]; exact ih hr (some f) m (w + n) m0 m1 (by omega)
      · unfold needsL stepN
        simp only [if_neg hc]
        exact ih hr fl m (w + n) m0 m1 (by omega)
theorem reprOk_small {n : Int} (h0 : 0 ≤ n) (h1 : n ≤ 1000) : ReprOk (.int n) := by
  show n.natAbs.log2 < 1920
  have := Nat.log2_le_self n.natAbs
  omega
theorem needs_repr {z : Str} {ts : List (List V)} (h : ∀ t ∈ ts, tokV z t = true) : ReprOk (needsL ts none 0 0) ∧ scal (needsL ts none 0 0) (needsL ts none 0 0) = true := by
  rcases needs_le ts h none 0 0 (by omega) (by omega) (by omega) with e | ⟨n, e, h0, h1⟩
  · rw [e]; exact ⟨trivial, rfl⟩
  · rw [e]; exact ⟨reprOk_small h0 (by omega), rfl⟩
/-! ### a piece in the heap -/
def pf (z : Str) (l p : Addr) : List (Str × V) := putF "_places" (.ref p) (putF "_tokens" (.ref l) (putF "_signs" (.str z) []))
theorem nst : ¬ (("_signs" : Str) = "_tokens") := by decide +kernel
theorem nsp : ¬ (("_signs" : Str) = "_places") := by decide +kernel
theorem ntp : ¬ (("_tokens" : Str) = "_places") := by decide +kernel
theorem pf_signs (z : Str) (l p : Addr) : (pf z l p).lookup ("_signs" : Str) = some (.str z) := by
  unfold pf
  rw [lookup_putF, if_neg nsp, lookup_putF, if_neg nst, lookup_putF, if_pos rfl]
theorem pf_tokens (z : Str) (l p : Addr) : (pf z l p).lookup ("_tokens" : Str) = some (.ref l) := by
  unfold pf
  rw [lookup_putF, if_neg ntp, lookup_putF, if_pos rfl]
theorem pf_places (z : Str) (l p : Addr) : (pf z l p).lookup ("_places" : Str) = some (.ref p) := by
  unfold pf
  rw [lookup_putF, if_pos rfl]
theorem pf_no (z : Str) (l p : Addr) {m : Str} (h1 : ¬ m = "_signs") (h2 : ¬ m = "_tokens") (h3 : ¬ m = "_places") : (pf z l p).lookup m = none := by
  unfold pf
  rw [lookup_putF, if_neg h3, lookup_putF, if_neg h2, lookup_putF, if_neg h1]
  rfl
abbrev Plcs (K : PySem.W.Frag) (H : Hp) : List V → List (List V) → Prop := Paired (TupAt K H)
theorem Plcs.keep {K : PySem.W.Frag} {H H' : Hp} {b : Addr} {vs : List V} {ps : List (List V)} (k : KeepB b H H') (hb : LstOrNo H b) (h : Plcs K H vs ps) : Plcs K H' vs ps :=
  paired_mono h fun _ _ t => t.keep k hb.no
theorem Plcs.same {K : PySem.W.Frag} {H H' : Hp} {vs : List V} {ps : List (List V)} (k : Same H H') (h : Plcs K H vs ps) : Plcs K H' vs ps :=
  paired_mono h fun _ _ t => t.same k
def PieceAt (K : PySem.W.Frag) (C : Addr) (H : Hp) (a : Addr) (z : Str) (ts : List (List V)) : Prop :=
  ∃ (dx l p : Addr) (tvs pvs : List V), H a = some (.ins C dx (pf z l p)) ∧ H l = some (.lst tvs) ∧ Toks K H z tvs ts ∧ H p = some (.lst pvs) ∧ Plcs K H pvs (placesL ts)
end KW

/-! Drawn texts: signs, words, choices. -/
namespace KW
open PySem L2
theorem at_mem {α : Type} {xs : List α} {r : Int} (h0 : 0 ≤ r) (h1 : r < (xs.length : Int)) : ∃ v, v ∈ xs ∧ atI xs r = some v := by
  have hl : r.toNat < xs.length := by omega
  refine ⟨xs[r.toNat], List.getElem_mem hl, ?_⟩
  have e : ixN xs.length r = some r.toNat := by
    unfold ixN
    rw [if_pos h0, if_pos h1]
  unfold atI
  rw [e]
  exact List.getElem?_eq_getElem hl
/-- one sign as a text -/
abbrev sg (c : Nat) : Str := ⟨#[c]⟩
theorem join_signs (cs : List Nat) : Txt.join (Str.ofString "") (cs.map sg) = (⟨cs.toArray⟩ : Str) := by
  have e : (Str.ofString "") = SX.S [] := by decide +kernel
  have e2 : cs.map sg = (cs.map fun c => [c]).map SX.S := by
    rw [List.map_map]; rfl
  rw [e, e2, SX.join_S]
  refine congrArg SX.S ?_
  clear e e2
  induction cs with
  | nil => rfl
  | cons c cs ih =>
    cases cs with
    | nil => rfl
    | cons d ds =>
      show [c] ++ ([] ++ TL.joinL [] ((d :: ds).map fun c => [c])) = c :: d :: ds
      rw [ih]
      rfl
theorem len_of (cs : List Nat) : (⟨cs.toArray⟩ : Str).length = cs.length := by simp [Str.length]
theorem cl_of (cs : List Nat) : cl (⟨cs.toArray⟩ : Str) = cs := by simp [cl]
theorem sum_ones (cs : List Nat) : ((cs.map sg).map (·.length)).sum + (cs.map sg).length * (Str.ofString "").length = cs.length := by
  have e : (Str.ofString "").length = 0 := by decide +kernel
  rw [e, Nat.mul_zero, Nat.add_zero, List.map_map]
  induction cs with
  | nil => rfl
  | cons c cs ih =>
    rw [List.map_cons, List.sum_cons, ih]
    show 1 + cs.length = cs.length + 1
    omega
/-- ascending lists -/
theorem asc_pw : ∀ {l : List Nat}, ascB l = true → l.Pairwise (· < ·)
  | [], _ => .nil
  | [a], _ => by simp
  | a :: b :: r, h => by
    have h' : (decide (a < b) && ascB (b :: r)) = true := h
    rw [Bool.and_eq_true, decide_eq_true_eq] at h'
    have ih := asc_pw h'.2
    refine List.pairwise_cons.mpr ⟨fun x hx => ?_, ih⟩
    rcases List.mem_cons.mp hx with rfl | hx
    · exact h'.1
    · exact Nat.lt_trans h'.1 ((List.pairwise_cons.mp ih).1 x hx)
theorem pw_asc : ∀ {l : List Nat}, l.Pairwise (· < ·) → ascB l = true
  | [], _ => rfl
  | [a], _ => rfl
  | a :: b :: r, h => by
    obtain ⟨h1, h2⟩ := List.pairwise_cons.mp h
    show (decide (a < b) && ascB (b :: r)) = true
    rw [Bool.and_eq_true, decide_eq_true_eq]
    exact ⟨h1 b List.mem_cons_self, pw_asc h2⟩
/-- the signs that a law draws -/
def SignsOk (z : Str) : Prop := signsB z = true
theorem SignsOk.len {z : Str} (h : SignsOk z) : 2 ≤ z.length ∧ z.length ≤ 6 := by
  unfold SignsOk signsB at h
  simp only [Bool.and_eq_true, decide_eq_true_eq] at h
  exact ⟨h.1.1.1, h.1.1.2⟩
theorem SignsOk.asc {z : Str} (h : SignsOk z) : ascB (cl z) = true := by
  unfold SignsOk signsB at h
  simp only [Bool.and_eq_true, decide_eq_true_eq] at h
  exact h.2
theorem choice_sub {z : Str} {cs : List Nat} (h : SignsOk z) (hs : cs.Sublist (cl z)) (hn : cs ≠ []) : choiceB z (⟨cs.toArray⟩ : Str) = true := by
  unfold choiceB
  simp only [Bool.and_eq_true, decide_eq_true_eq]
  rw [len_of]
  refine ⟨⟨⟨List.length_pos_iff.mpr hn, ?_⟩, ?_⟩, ?_⟩
  · have := hs.length_le
    rwa [cl_len] at this
  · unfold overB
    rw [cl_of, List.all_eq_true]
    intro c hc
    exact decide_eq_true (hs.subset hc)
  · rw [cl_of]
    exact pw_asc ((asc_pw h.asc).sublist hs)
theorem choice_all {z : Str} (h : SignsOk z) : choiceB z z = true := by
  have e := choice_sub (cs := cl z) h (List.Sublist.refl _) (by
    intro e
    have := cl_len z
    rw [e] at this
    have := h.len
    simp at *
    omega)
  have e2 : (⟨(cl z).toArray⟩ : Str) = z := by simp [cl]
  rwa [e2] at e
theorem over_of {z : Str} {cs : List Nat} (h : ∀ c ∈ cs, c ∈ cl z) : overB z (⟨cs.toArray⟩ : Str) = true := by
  unfold overB
  rw [cl_of, List.all_eq_true]
  intro c hc
  exact decide_eq_true (h c hc)
theorem tok_text {z y : Str} (h1 : overB z y = true) (h2 : 1 ≤ y.length) (h3 : y.length ≤ 40) : tokV z [.str "text", .str y] = true := by
  show ((decide (("text" : Str) = "text") && overB z y && decide (1 ≤ y.length) && decide (y.length ≤ 40)) || _) = true
  rw [h1, decide_eq_true h2, decide_eq_true h3, decide_eq_true (rfl : ("text" : Str) = "text")]
  rfl
theorem tok_any {z y : Str} (h : choiceB z y = true) : tokV z [.str "any", .str y] = true := by
  show ((decide (("any" : Str) = "text") && overB z y && decide (1 ≤ y.length) && decide (y.length ≤ 40)) || (decide (("any" : Str) = "any") && choiceB z y)) = true
  rw [h, decide_eq_true (rfl : ("any" : Str) = "any")]
  exact Bool.or_true _
theorem tok_copy {z : Str} {d n : Int} (h1 : 1 ≤ d) (h2 : d ≤ 12) (h3 : 1 ≤ n) (h4 : n ≤ 40) : tokV z [.str "copy", .int d, .int n] = true := by
  show ((decide (("copy" : Str) = "copy") || decide (("copy" : Str) = "say")) && (decide (1 ≤ d) && decide (d ≤ 12)) && (decide (1 ≤ n) && decide (n ≤ 40))) = true
  rw [decide_eq_true h1, decide_eq_true h2, decide_eq_true h3, decide_eq_true h4, decide_eq_true (rfl : ("copy" : Str) = "copy")]
  rfl
theorem tok_say {z : Str} {d n : Int} (h1 : 1 ≤ d) (h2 : d ≤ 12) (h3 : 1 ≤ n) (h4 : n ≤ 40) : tokV z [.str "say", .int d, .int n] = true := by
  show ((decide (("say" : Str) = "copy") || decide (("say" : Str) = "say")) && (decide (1 ≤ d) && decide (d ≤ 12)) && (decide (1 ≤ n) && decide (n ≤ 40))) = true
  rw [decide_eq_true h1, decide_eq_true h2, decide_eq_true h3, decide_eq_true h4, decide_eq_true (rfl : ("say" : Str) = "say"), Bool.or_true]
  rfl
theorem tok_flush {z : Str} : tokV z [.str "flush"] = true := by
  show decide (("flush" : Str) = "flush") = true
  exact decide_eq_true rfl
/-- all kept but two -/
def Keep2 (b D : Addr) (H H' : Hp) : Prop := ∀ a o, a ≠ b → a ≠ D → H a = some o → H' a = some o
theorem Keep2.trans {b D : Addr} {H H1 H2 : Hp} (x : Keep2 b D H H1) (y : Keep2 b D H1 H2) : Keep2 b D H H2 := fun a o n m h => y a o n m (x a o n m h)
theorem Keep2.of {b D : Addr} {H H1 : Hp} (x : KeepB b H H1) : Keep2 b D H H1 := fun a o n _ h => x a o n h
theorem Keep2.of2 {b D : Addr} {H H1 : Hp} (x : KeepB D H H1) : Keep2 b D H H1 := fun a o _ n h => x a o n h
theorem Keep2.free {b D : Addr} {H H1 : Hp} (x : Keep2 b D H H1) (h : H D = none) : KeepB b H H1 := fun a o n e => x a o n (ne_of_none e h) e
theorem BagAt.isB {H : Hp} {b c : Addr} (h : BagAt H b c) : ∃ o, H b = some o := let ⟨_, _, _, _, hb, _⟩ := h; ⟨_, hb⟩
theorem BagAt.isC {H : Hp} {b c : Addr} (h : BagAt H b c) : ∃ o, H c = some o := let ⟨_, _, _, _, _, hc, _⟩ := h; ⟨_, hc⟩
theorem BagAt.neb {H : Hp} {b c D : Addr} (h : BagAt H b c) (hD : H D = none) : D ≠ b := by
  obtain ⟨o, e⟩ := h.isB
  exact (ne_of_none e hD).symm
theorem BagAt.nec {H : Hp} {b c D : Addr} (h : BagAt H b c) (hD : H D = none) : D ≠ c := by
  obtain ⟨o, e⟩ := h.isC
  exact (ne_of_none e hD).symm
theorem bag_keep {H H' : Hp} {b c D : Addr} (h : BagAt H b c) (k : KeepB D H H') (h1 : D ≠ b) (h2 : D ≠ c) : BagAt H' b c := by
  obtain ⟨p, q, n, cs, hb, hc, r⟩ := h
  exact ⟨p, q, n, cs, k _ _ (Ne.symm h1) hb, k _ _ (Ne.symm h2) hc, r⟩
theorem bag_upd {H : Hp} {b c D : Addr} {o : HO} (h : BagAt H b c) (hD : H D = none) : BagAt (upd H D o) b c := bag_keep h KeepB.put (h.neb hD) (h.nec hD)
theorem bag_same {H H' : Hp} {b c : Addr} (h : BagAt H b c) (k : Same H H') : BagAt H' b c := by
  obtain ⟨p, q, n, cs, hb, hc, r⟩ := h
  exact ⟨p, q, n, cs, k _ _ hb, k _ _ hc, r⟩
end KW

/-! A text times an int; takes of lists; new instances. -/
namespace KW
open PySem L2
section
variable {X : Cx}
theorem op_mul_str : OpR X (binaryOp .Mult) (fun x y H Q => ∃ a n, x = .str a ∧ y = .int n ∧ MulOk a n ∧ Q (.str (Txt.mul a n)) H) := by
  intro pins s σ H x y v u Q I rx ry h
  obtain ⟨a, n, rfl, rfl, hm, q⟩ := h
  obtain ⟨t, rfl⟩ := rx
  obtain ⟨t', rfl⟩ := ry
  exact SB.mul hm fun t' k => ⟨.str (Txt.mul a n), H, I.tok _, ⟨_, rfl⟩, q⟩
end
theorem mulOk_sg {c : Nat} {n : Int} (h0 : 1 ≤ n) (h1 : n ≤ 1000) : MulOk (sg c) n := by
  have hl : (sg c).length = 1 := rfl
  refine ⟨?_, ?_, ?_⟩
  · rw [decide_eq_false (by omega), decide_eq_false (by omega)]; rfl
  · intro _ _
    rw [hl]
    have : (1 : Int) ≤ (2 ^ 63 - 1) / n := by
      rw [Int.le_ediv_iff_mul_le (by omega)]
      omega
    omega
  · intro _ _
    rw [hl]
    unfold Builtin.Str.tooLong
    simp only [decide_eq_false_iff_not]
    have := sizeLine_eq
    omega
end KW
namespace KW
open PySem L2
theorem foldl_one (c : Nat) : ∀ (n : Nat) (l : List Nat), (List.replicate n (#[c] : Array Nat)).foldl (· ++ ·) l.toArray = (l ++ List.replicate n c).toArray
  | 0, l => by simp
  | n + 1, l => by
    rw [List.replicate_succ, List.foldl_cons]
    have e : l.toArray ++ #[c] = (l ++ [c]).toArray := by simp
    rw [e, foldl_one c n (l ++ [c]), List.replicate_succ, List.append_assoc]
    rfl
theorem mul_sg {c : Nat} {n : Int} (h0 : 1 ≤ n) : Txt.mul (sg c) n = ⟨(List.replicate n.toNat c).toArray⟩ := by
  unfold Txt.mul
  rw [if_neg (by omega)]
  by_cases h : n = 1
  · subst h; rfl
  · have hl : (sg c).length = 1 := rfl
    rw [if_neg (by rw [hl]; simp [h])]
    have e := foldl_one c n.toNat []
    rw [List.nil_append] at e
    exact congrArg Str.mk e
/-- the keeping of a list of tokens through a list that stands apart -/
theorem Toks.keepN {K : PySem.W.Frag} {H H' : Hp} {b : Addr} {z : Str} {vs : List V} {ts : List (List V)} (k : KeepB b H H') (hb : H b = none) (h : Toks K H z vs ts) : Toks K H' z vs ts := h.keep k (.inl hb)
theorem tsize_take {z : Str} {ts : List (List V)} {i j : Nat} (h : ∀ t ∈ ts, tokV z t = true) (hij : i ≤ j) : tsize (ts.take i) ≤ tsize (ts.take j) := by
  have e : ts.take j = ts.take i ++ (ts.take j).drop i := by
    have := List.take_append_drop i (ts.take j)
    rw [List.take_take, Nat.min_eq_left hij] at this
    exact this.symm
  rw [e, tsize_app]
  have := tsize_nn (ts := (ts.take j).drop i) (z := z) fun t ht => h t (List.mem_of_mem_take (List.mem_of_mem_drop ht))
  omega
theorem tsize_take_le {z : Str} {ts : List (List V)} {i : Nat} (h : ∀ t ∈ ts, tokV z t = true) : tsize (ts.take i) ≤ tsize ts := by
  have e : ts = ts.take i ++ ts.drop i := (List.take_append_drop i ts).symm
  have := tsize_nn (ts := ts.drop i) (z := z) fun t ht => h t (List.mem_of_mem_drop ht)
  have e2 := congrArg tsize e
  rw [tsize_app] at e2
  omega
theorem take_succ' {α : Type} {l : List α} {i : Nat} {a : α} (h : l[i]? = some a) : l.take (i + 1) = l.take i ++ [a] := by
  rw [List.take_add_one, h]; rfl
theorem tsize_step {ts : List (List V)} {i : Nat} {t : List V} (h : ts[i]? = some t) : tsize (ts.take (i + 1)) = tsize (ts.take i) + sizeV t := by
  rw [take_succ' h, tsize_app, tsize_cons, tsize_nil, Int.add_zero]
end KW
namespace KW
open PySem L2
theorem iteNeF {A B : Prop} {x : V} (h : B) : if (!decide (x = x)) = true then A else B := by
  rw [decide_eq_true rfl]
  exact h
theorem iteNeT {A B : Prop} {x y : Str} (e : ¬ x = y) (h : A) : if (!decide (V.str x = V.str y)) = true then A else B := by
  rw [decide_eq_false fun q => e (V.str.inj q)]
  exact h
end KW
namespace KW
open PySem L2
theorem ins_lst {H : Hp} {b : Addr} {C dx : Addr} {fs : List (Str × V)} (h : H b = some (.ins C dx fs)) : LstOrNo H b := .inr (.inr ⟨C, dx, fs, h⟩)
theorem sqL_keep {K : PySem.W.Frag} {H H' : Hp} {b a C dx : Addr} {fs : List (Str × V)} {xs : List V} (k : KeepB b H H') (hb : H b = some (.ins C dx fs)) (h : SqL K H a xs) : SqL K H' a xs := by
  rcases h with (h | ⟨o, h⟩) | h
  · exact .inl (.inl (k _ _ (fun e => by rw [e, hb] at h; cases h) h))
  · exact .inl (.inr ⟨o, k _ _ (fun e => by rw [e, hb] at h; cases h) h⟩)
  · exact .inr h
end KW
namespace KW
open PySem L2
theorem KeepB.back {b p : Addr} {H H' : Hp} (k : KeepB b H H') (h : H' p = none) (n : p ≠ b) : H p = none := by
  cases e : H p with
  | none => rfl
  | some o => rw [k p o n e] at h; cases h
theorem Keep2.back {b D p : Addr} {H H' : Hp} (k : Keep2 b D H H') (h : H' p = none) (n : p ≠ b) (m : p ≠ D) : H p = none := by
  cases e : H p with
  | none => rfl
  | some o => rw [k p o n m e] at h; cases h
theorem lst_lst {H : Hp} {b : Addr} {xs : List V} (h : H b = some (.lst xs)) : LstOrNo H b := .inr (.inl ⟨xs, h⟩)
theorem at3 {x y z : V} {r : Int} (h0 : 0 ≤ r) (h1 : r < 3) : ∃ v, atI [x, y, z] r = some v ∧ (v = x ∨ v = y ∨ v = z) := by
  have h : r = 0 ∨ r = 1 ∨ r = 2 := by omega
  rcases h with rfl | rfl | rfl
  · exact ⟨x, rfl, .inl rfl⟩
  · exact ⟨y, rfl, .inr (.inl rfl)⟩
  · exact ⟨z, rfl, .inr (.inr rfl)⟩
theorem at4 {x y z w : V} {r : Int} (h0 : 0 ≤ r) (h1 : r < 4) : ∃ v, atI [x, y, z, w] r = some v ∧ (v = x ∨ v = y ∨ v = z ∨ v = w) := by
  have h : r = 0 ∨ r = 1 ∨ r = 2 ∨ r = 3 := by omega
  rcases h with rfl | rfl | rfl | rfl
  · exact ⟨x, rfl, .inl rfl⟩
  · exact ⟨y, rfl, .inr (.inl rfl)⟩
  · exact ⟨z, rfl, .inr (.inr (.inl rfl))⟩
  · exact ⟨w, rfl, .inr (.inr (.inr rfl))⟩
/-- a sign of z as a word -/
theorem tok_sign {z : Str} {c : Nat} (h : c ∈ cl z) : tokV z [.str "text", .str (sg c)] = true :=
  tok_text (over_of (z := z) (cs := [c]) fun x hx => by rw [List.mem_singleton.mp hx]; exact h) (Nat.le_refl 1) (show 1 ≤ 40 by decide)
theorem size_sign {c : Nat} : sizeV [.str "text", .str (sg c)] = 1 := by rw [sizeV_text]; rfl
theorem tsize_one (t : List V) : tsize [t] = sizeV t := by rw [tsize_cons, tsize_nil, Int.add_zero]
theorem cut60 (xs : List V) : cutV xs none (some 60) = xs.take 60 := by
  unfold cutV
  have e0 : HT.sIx xs.length 0 none = 0 := rfl
  rw [e0, List.drop_zero]
  by_cases h : 60 ≤ xs.length
  · have e1 : HT.sIx xs.length xs.length (some 60) = 60 := by
      unfold HT.sIx
      simp
      omega
    rw [e1]
  · have e1 : HT.sIx xs.length xs.length (some 60) = xs.length := by
      unfold HT.sIx
      simp
      omega
    rw [e1, Nat.sub_zero, List.take_length, List.take_of_length_le (by omega)]
theorem TupAt.new {K : PySem.W.Frag} {H : Hp} {p : Addr} {xs : List V} : TupAt K (upd H p (.tup xs)) (.ref p) xs := ⟨p, rfl, SqT.of upd_same⟩
theorem TokAt.keep {K : PySem.W.Frag} {H H' : Hp} {b : Addr} {z : Str} {v : V} {xs : List V} (k : KeepB b H H') (hb : LstOrNo H b) (h : TokAt K H z v xs) : TokAt K H' z v xs := ⟨h.1.keep k hb.no, h.2⟩
theorem TokAt.same {K : PySem.W.Frag} {H H' : Hp} {z : Str} {v : V} {xs : List V} (k : Same H H') (h : TokAt K H z v xs) : TokAt K H' z v xs := ⟨h.1.same k, h.2⟩
end KW
namespace KW
open PySem L2
/-- a chunk: a list of one or two tokens of size 1 together -/
def Ch (K : PySem.W.Frag) (H : Hp) (z : Str) (b : Addr) (v : V) : Prop := ∃ (a : Addr) (cvs : List V) (cts : List (List V)), v = .ref a ∧ a ≠ b ∧ H a = some (.lst cvs) ∧ Toks K H z cvs cts ∧ 1 ≤ cts.length ∧ cts.length ≤ 2 ∧ tsize cts = 1
theorem Ch.keep {K : PySem.W.Frag} {H H' : Hp} {z : Str} {b : Addr} {v : V} (k : KeepB b H H') (hb : LstOrNo H b) (h : Ch K H z b v) : Ch K H' z b v := by
  obtain ⟨a, cvs, cts, rfl, n, ha, ht, r⟩ := h
  exact ⟨a, cvs, cts, rfl, n, k _ _ n ha, ht.keep k hb, r⟩
theorem Ch.same {K : PySem.W.Frag} {H H' : Hp} {z : Str} {b : Addr} {v : V} (k : Same H H') (h : Ch K H z b v) : Ch K H' z b v := by
  obtain ⟨a, cvs, cts, rfl, n, ha, ht, r⟩ := h
  exact ⟨a, cvs, cts, rfl, n, k _ _ ha, ht.same k, r⟩
theorem take60_pos {z : Str} {ts cts : List (List V)} (h : ∀ t ∈ ts ++ cts, tokV z t = true) (c1 : tsize cts = 1) (cl : cts.length ≤ 2) (hi : ts = [] ∨ 1 ≤ tsize (ts.take 60)) : 1 ≤ tsize ((ts ++ cts).take 60) := by
  rcases hi with rfl | hi
  · rw [List.nil_append, List.take_of_length_le (by omega), c1]
    decide
  · rw [List.take_append, tsize_app]
    have := tsize_nn (ts := cts.take (60 - ts.length)) (z := z) fun t ht => h t (List.mem_append_right _ (List.mem_of_mem_take ht))
    omega
end KW
namespace KW
open PySem L2
theorem new_at {H : Hp} {p : Addr} {o : HO} (_ : H p = none) : (upd H p o) p = some o := upd_same
end KW
namespace KW
open PySem L2
theorem same_make {H : Hp} {a dx C : Addr} (ha : H a = none) (hd : H dx = none) (hne : dx ≠ a) : Same H (upd (upd H dx (.own a)) a (.ins C dx [])) :=
  (same_new hd).trans (same_new (by rw [upd_ne hne.symm]; exact ha))
end KW
namespace KW
open PySem L2
theorem PieceAt.same {K : PySem.W.Frag} {C : Addr} {H H' : Hp} {a : Addr} {z : Str} {ts : List (List V)} (s : Same H H') (h : PieceAt K C H a z ts) : PieceAt K C H' a z ts := by
  obtain ⟨dx, l, p, tvs, pvs, h1, h2, h3, h4, h5⟩ := h
  exact ⟨dx, l, p, tvs, pvs, s _ _ h1, s _ _ h2, h3.same s, s _ _ h4, h5.same s⟩
theorem PieceAt.ins {K : PySem.W.Frag} {C : Addr} {H : Hp} {a : Addr} {z : Str} {ts : List (List V)} (h : PieceAt K C H a z ts) : ∃ dx l p, H a = some (.ins C dx (pf z l p)) :=
  let ⟨dx, l, p, _, _, h1, _⟩ := h
  ⟨dx, l, p, h1⟩
end KW
namespace KW
open PySem L2
theorem flat_rep (x : V) : ∀ n : Nat, (List.replicate n [x]).flatten = List.replicate n x
  | 0 => rfl
  | n + 1 => by
    rw [List.replicate_succ, List.flatten_cons, flat_rep x n]
    rfl
theorem places_step {ts : List (List V)} {i : Nat} {t : List V} (h : ts[i]? = some t) : placesL (ts.take (i + 1)) = placesL (ts.take i) ++ placeT t := by
  rw [take_succ' h, places_app, places_one]
theorem place_text {y : Str} : placeT [.str "text", .str y] = (cl y).map fun c => [.str "sign", .str (sg c)] := by
  have h : ¬ (("text" : Str) = "any") := by decide +kernel
  simp only [placeT, if_neg h]
theorem place_any {y : Str} : placeT [.str "any", .str y] = [[.str "hole", .str y]] := by
  simp only [placeT, if_true]
theorem place_len {z : Str} {t : List V} (h : tokV z t = true) : ((placeT t).length : Int) = sizeV t := by
  obtain ⟨kd, rest, rfl, hk⟩ := tok_inv h
  rcases hk with ⟨rfl, rfl⟩ | ⟨y, rfl, rfl, h1, h2, h3⟩ | ⟨y, rfl, rfl, h1⟩ | ⟨d, n, hkd, rfl, h1, h2, h3, h4⟩
  · rfl
  · rw [place_text, List.length_map, cl_len, sizeV_text]
  · rw [place_any, sizeV_any]; rfl
  · show ((List.replicate n.toNat [V.str kd, V.int d]).length : Int) = n
    rw [List.length_replicate]; omega
theorem places_len {z : Str} : ∀ {ts : List (List V)}, (∀ t ∈ ts, tokV z t = true) → ((placesL ts).length : Int) = tsize ts
  | [], _ => rfl
  | t :: ts, h => by
    have ih := places_len (ts := ts) fun u hu => h u (List.mem_cons_of_mem _ hu)
    have h1 := place_len (h t List.mem_cons_self)
    have e : placesL (t :: ts) = placeT t ++ placesL ts := rfl
    rw [e, List.length_append, tsize_cons]
    omega
end KW

/-! Promises of defs at arounds in which no repr is under way: what such a def may use besides is known of the guards. -/
namespace KW
open PySem PySem.Spec PyProof.Rows L2
/-- room, and no guard stands -/
structure RoomG (k : Nat) (A : Around) : Prop where
  room : Room k A
  free : A.guards = some []
theorem RoomG.mono {j k : Nat} {A : Around} (r : RoomG k A) (h : j ≤ k) : RoomG j A := ⟨r.room.mono h, r.free⟩
theorem RoomG.deeper {k : Nat} {A : Around} (r : RoomG (k + 1) A) (env : Env) : RoomG k (A.deeper env) := ⟨r.room.deeper env, r.free⟩
/-- the promise of a def, kept wherever no guard stands -/
structure FnG (P : Program) (w : World) (K : PySem.W.Frag) (mg : Str → Option Value) (base : Heap) (k : Nat) (f : Addr) (fd : FuncData) (ps : List Str) (sp : Sp) : Prop where
  many : ∀ vs H Q E, sp vs H Q E → vs.length = ps.length
  keeps : ∀ (A : Around) (outer : List Env) (s : Shared) (H : Hp) (args : Args) (us : List Value) (vs : List V) (Q : VK) (E : XK), RoomG k A → Env0 P w K mg base A outer s H →
    BindsTo s fd args (ps.zip us) → Vals vs us → sp vs H Q E → codeAny (model P w) A (.call (.ref f) args) (CR CX0 outer P w H s Q E) s
section
variable {P : Program} {w : World} {K : PySem.W.Frag} {mg : Str → Option Value} {base : Heap} {k : Nat} {f : Addr} {fd : FuncData} {ps : List Str} {sp : Sp}
theorem FnG.of (F : FnOk P w K mg base CX0 k f fd ps sp) : FnG P w K mg base k f fd ps sp :=
  ⟨F.len, fun A outer s H args us vs Q E hr => F.run A outer s H args us vs Q E hr.room⟩
/-- by the def's body -/
theorem FnG.by_body {x qual : Str} {st : Stmt} {N : List Str} (F : Fun K x qual st f fd) (S : FnScope N ps (defScope st)) (many : ∀ vs H Q E, sp vs H Q E → vs.length = ps.length)
    (body : ∀ (cdv : Value) (A : Around) (outer : List Env) (s : Shared) (H : Hp) (vs : List V) (Q : VK) (E : XK), RoomG k (A.deeper (envOfC qual (defScope st) s.heap.objs.size f cdv)) → sp vs H Q E →
      ∃ t, PSs (cxOf CX0 P w K mg base N qual (defScope st) f cdv A outer s H E).nox (defBody st) t ∧ t { nx := fun _ H' => Q .non H', rt := Q } (start N vs) H) :
    FnG P w K mg base (k + 1) f fd ps sp := by
  obtain ⟨oc, od, kV, doc, pm, an, cdv, ct, osl, rfl, at_f, code⟩ := F.ex
  constructor
  · exact many
  intro A outer s H args us vs Q E hr e0 hb hv h
  have now : ∀ b o, base.get? b = some o → s.heap.get? b = some o := fun b o e => (e0.bs b o e).1
  have inK := e0.mod.kin.keeps now
  have cells : ∀ y ∈ ps.zip us, (defScope st).names.lookup y.1 = some .local ∨
      ((defScope st).names.lookup y.1 = some .cell ∧ ((cellsFrom (s.heap.objs.size + 1) (defScope st).names []).lookup y.1).isSome = true) := by
    intro y hy
    have hm : y.1 ∈ ps := (List.of_mem_zip (show (y.1, y.2) ∈ ps.zip us from hy)).1
    exact (S.par y.1 hm).imp id fun q => ⟨q, PySem.W.cellsFrom_some _ _ _ (.inl q)⟩
  refine codeAny_call_function hr.room.depth (inK _ _ at_f) rfl S.co S.gen rfl (PySem.W.codeRec_of inK code) (hb _ _ _ _ (wpAny_newFunctionEnv_cells S.kind cells ?_))
  rintro env rfl s1 made
  refine ⟨(e0.mod.nolimit.keeps now).keeps made.toInCall.keep, codeAny_func ?_⟩
  obtain ⟨t, walked, wished⟩ := body cdv A outer s H vs Q E (hr.deeper _) h
  have I0 : Inv (cxOf CX0 P w K mg base N qual (defScope st) f cdv A outer s H E) [] (start N vs) H s1 :=
    inv_start S hr.room.hd e0 (many _ _ _ _ h) hv made
  have ran := walked.nox.run [] s1 (start N vs) H _ I0 wished
  have shut : ∀ {σ' H' v u s'}, Inv (cxOf CX0 P w K mg base N qual (defScope st) f cdv A outer s H E) [] σ' H' s' → RelV v u → Q v H' → CR CX0 outer P w H s Q E (.ok (.ret u)) s' :=
    fun J rv q => ⟨_, _, J.os, J.bare, J.base, J.hok, rv, q⟩
  refine wpAny_mono ran (fun fl s' z => ?_) fun e s' z => z
  match fl, z with
  | .ret u, ⟨v, σ', H', J, rv, q⟩ => exact shut J rv q
  | .next, ⟨σ', H', J, q⟩ => exact shut (v := V.non) J rfl q
  | .brk, ⟨_, _, _, q⟩ => exact q.elim
  | .cont, ⟨_, _, _, q⟩ => exact q.elim
end
section
variable {X : Cx} {k : Nat} {f : Addr} {fd : FuncData} {ps : List Str} {sp : Sp} {E : XK} {x : Str} {e : Expr} {es : List Expr} {t : TA} {p pos : Pos}
/-- such a def, called -/
theorem cr_fnG (F : FnG X.prog X.w X.K X.mg X.base k f fd ps sp) (hr : RoomG k X.A) (hb : Binds X.K fd ps []) (hx : Passes CX0 X E) : CallR X (.ref f) (fun vs H Q => sp vs H Q E) := by
  intro pins s σ H xs us Q I r h
  have eq0 : us ++ [] = us := List.append_nil us
  have bound := hb s us I.kIn (by rw [eq0, ← r.length]; exact F.many _ _ _ _ h)
  rw [eq0] at bound
  refine wpAny_call (codeAny_mono (F.keeps X.A X.stack s H ⟨us, []⟩ us xs Q E hr I.env0 bound r h) fun z s' q => ?_)
  match z, q with
  | .error e, q => exact hx pins σ H s e s' I q
  | .ok (.ret u), q => exact I.after q
theorem pe_callG (hc : CallR X (.ref f) (fun vs H Q => sp vs H Q E)) (hg : Gl X x) (hm : X.mg x = some (.ref f)) (kp : PySem.W.keepIn X.K (.ref f) = true) (ha : PA X (e :: es) t) (hdb : (x == ("__debug__" : Str)) = false := by decide)
    (h1 : starEach (e :: es) X.env = (false, eval e X.env) :: starEach es X.env := by rfl) (h2 : (backTo pos (starEach es X.env)).any (·.1) = false := by rfl) :
    PE X (.Call (.Name x p) (e :: es) [] pos) (tCB (fun vs H Q => sp vs H Q E) t) := by
  constructor
  intro pins s σ H Q I h
  have args := thn (ha.run pos pins s σ H _ I h) (fun us s1 ⟨vs, H1, I1, r, q⟩ => (⟨I1.kIn, hc pins s1 σ H1 vs us Q I1 r q⟩ : X.K.In s1.heap ∧ _))
  exact wpAny_Call_Name_kw (ld_glob I hg hm (PySem.W.callWith_K (h₀ := X.base) I.ok.mod.kin kp args h1 h2) hdb)
end
end KW

/-! The head of a law whose def is promised where no guard stands. -/
namespace KW
open PySem PySem.Spec PyProof.Rows L2
/-- what a script is to the walk: a frozen list, or one of the module's own -/
theorem script_seen {P : Program} {w : World} {K : PySem.W.Frag} {h : Heap} {a : Addr} {vs : List Value} {ns : List Int} (inK : K.In h)
    (ha : h.get? a = some { cls := .type "list", data := .seq vs.toArray }) (are : IntsAre vs ns) (few : ns.length ≤ sizeLine) :
    ∃ H : Hp, Only H ∧ SqL K H a (ns.map V.int) ∧ HOk P w H h ∧ (∀ b, H b ≠ none → b = a) ∧ (H a ≠ none → K.lookup a = none) := by
  have rel := vals_ints are
  cases own : K.lookup a with
  | some o =>
    have same := (inK a o own).symm.trans ha
    cases same
    have size : vs.toArray.size ≤ sizeLine := by rw [List.size_toArray, are.length]; exact few
    refine ⟨fun _ => none, fun _ => .inl rfl, .inr ⟨_, vs.toArray, _, own, rfl, rfl, rfl, size, by simpa using rel⟩, ?_, ?_, ?_⟩
    · intro b u z
      exact nomatch (show (none : Option HO) = some u from z)
    · intro b z
      exact (z rfl).elim
    · intro z
      exact (z rfl).elim
  | none =>
    let ice : HO := .frz { cls := .type "list", data := .seq vs.toArray } (.lst (ns.map V.int))
    have hit : ∀ b, (if b = a then some ice else none) ≠ none → b = a := fun b z => Classical.byContradiction fun n => z (if_neg n)
    refine ⟨fun b => if b = a then some ice else none, fun b => ?_, .inl (.inr ⟨_, if_pos rfl⟩), fun b u z => ?_, hit, fun _ => rfl⟩
    · by_cases n : b = a
      · exact .inr ⟨_, _, if_pos n⟩
      · exact .inl (if_neg n)
    · have e : b = a := hit b (by rw [show (if b = a then some ice else none) = some u from z]; exact Option.some_ne_none u)
      subst e
      obtain rfl : ice = u := Option.some.inj ((if_pos rfl).symm.trans z)
      exact ⟨ha, by rw [List.length_map]; exact few, vs, _, rel, ha⟩
theorem lawG {P : Program} {w : World} {K : PySem.W.Frag} {mg mb : Str → Option Value} {k : Nat} {fa a : Addr} {fd : FuncData} {x : Str} {sp : Sp} {s₁ : Shared} {vs : List Value} {ns : List Int}
    (inK : K.In s₁.heap) (glob : s₁.heap.Ns mainGlobals mg) (blt : s₁.heap.Ns builtinsNs mb) (boot : ∀ x : Str, x ≠ "__name__" → mb x = bootBuiltins x) (lim : s₁.heap.NoLimit) (gens : s₁.gens = #[])
    (ha : s₁.heap.get? a = some { cls := .type "list", data := .seq vs.toArray }) (are : IntsAre vs ns) (few : ns.length ≤ sizeLine) (room : Room k callerA)
    (F : ∀ base : Heap, K.In base → base.Ns mainGlobals mg → FnG P w K mg base k fa fd [x] sp) (binds : ∀ (s : Shared) (u : Value), BindsTo s fd ⟨[u], []⟩ [(x, u)])
    (wish : ∀ H : Hp, Only H → SqL K H a (ns.map V.int) → sp [.ref a] H (fun v _ => v = .bl true) fun _ _ _ => False) :
    codeAny (model P w) callerA (.call (.ref fa) ⟨[.ref a], []⟩) (fun r s' => r = .ok (.ret (.bool true)) ∧ OldK s₁.heap s'.heap ∧ s'.os = s₁.os ∧ AllBare s'.gens) s₁ := by
  obtain ⟨H, only, seq, ok, tracked, apart⟩ := script_seen (P := P) (w := w) inK ha are few
  let base := hidT s₁.heap H
  have kept : ∀ {b : Addr} {o : Obj}, s₁.heap.get? b = some o → H b = none → base.get? b = some o := fun e n => hidT_get e n
  have free : ∀ b : Addr, (b = a → False) → H b = none := fun b n => Classical.byContradiction fun z => n (tracked b z)
  have dictAt : ∀ {b : Addr} {m : Str → Option Value}, s₁.heap.Ns b m → base.Ns b m := by
    rintro b m ⟨o, es, ep, e, d, r⟩
    refine ⟨o, es, ep, kept e (free b fun eq => ?_), d, r⟩
    rw [eq, ha] at e
    cases Option.some.inj e
    cases (show Data.seq vs.toArray _ = Data.dict es ep from d)
  have inBase : K.In base := fun b o e => kept (inK b o e) (Classical.byContradiction fun z => by
    obtain rfl := tracked b z
    rw [apart z] at e
    cases e)
  obtain ⟨mc, l1, l2⟩ := lim
  have there : Mod K mg base := { kin := inBase, glob := dictAt glob, blt := ⟨mb, dictAt blt, boot⟩, nolimit := ⟨mc, dictAt l1, l2⟩ }
  have none' : ∀ b : Addr, b ∈ frs ([] : List Env) → False := fun b z => by
    have z' : b ∈ ([] : List Addr) := z
    cases z'
  have env : Env0 P w K mg base callerA [] s₁ H :=
    { frames := rfl, mod := there, bs := fun b o e => of_hidT e, bsz := Nat.le_of_eq (hidT_size _ _), funs := trivial, frf := fun b z => (none' b z).elim, hok := ok, bare := .of_eq gens }
  have run := (F base inBase (dictAt glob)).keeps callerA [] s₁ H ⟨[.ref a], []⟩ [.ref a] [.ref a] _ _ ⟨room, rfl⟩ env (binds s₁ _) (.cons rfl .nil) (wish H only seq)
  refine codeAny_mono run fun r s' z => ?_
  match r, z with
  | .ok (.ret u), ⟨v, H', os, bare, un, ok', rv, q⟩ =>
    obtain rfl : v = .bl true := q
    obtain rfl : u = Value.bool true := rv
    refine ⟨rfl, OldK.of_keep fun b o e => ?_, os, bare⟩
    rcases only b with n | ⟨ob, xs, z⟩
    · exact un.keep b o e n (fun m => (none' b m).elim) (fun m => nomatch m)
    · have e1 := (ok b _ z).1
      have e2 := (ok' b _ (un.frzs b ob _ z)).1
      exact Option.some.inj (e1.symm.trans e) ▸ e2
  | .error e, z => exact z.elim
theorem walkG {l : PySem.W.OpenLaw} {n k : Nat} {q : Program} {loose : List Str} {XP : (Str → Option Value) → Heap → Prop} {YP : World → Heap → Prop} {d : DefRec} {K : Params → PySem.W.Frag} {sp : PySem.W.Frag → Sp} {x : Str}
    (most : l.most = some n) (few : n ≤ sizeLine) (nodef : d.params.defaults = []) (room : Room k callerA) (inK : ∀ (w : World) (h : Heap), YP w h → (K w.params).In h)
    (F : ∀ (w : World) (mg : Str → Option Value) (fa : Addr) (h : Heap), (K w.params).In h → h.Ns mainGlobals mg → mg d.name = some (.ref fa) →
      ∃ fd : FuncData, (∀ (s : Shared) (u : Value), BindsTo s fd ⟨[u], []⟩ [(x, u)]) ∧ ∀ base : Heap, (K w.params).In base → base.Ns mainGlobals mg → FnG l.prog w (K w.params) mg base k fa fd [x] (sp (K w.params)))
    (wish : ∀ (K : PySem.W.Frag) (H : Hp) (a : Addr) (ns : List Int), ns.length ≤ n → Only H → SqL K H a (ns.map V.int) → sp K [.ref a] H (fun v _ => v = .bl true) fun _ _ _ => False) :
    PySem.W.WalkO q loose XP YP l.row.toRowW d [] (fun f vs => PySem.call f vs) := by
  refine Att.attach_call most nodef fun w s₀ s₁ mg mb fa o pm cd doc a vs ns G Y _ _ _ named script are len gens => ?_
  obtain ⟨fd, binds, promise⟩ := F w mg fa _ (inK w _ Y) G.T.g named
  exact lawG (inK w _ Y) G.T.g G.T.b G.T.builtins G.T.nolimit gens script are (Nat.le_trans len few) room promise binds fun H o s => wish _ H a ns len o s
end KW

/-! Data that is plain, small and flat enough: its repr, its ==. -/
namespace KW
open PySem PySem.Spec PyProof.Rows L2
structure Pl (n w : Nat) (d : PyData) : Prop where
  lay : d.canLay0 = true
  deep : d.depth ≤ n
  wt : d.weight ≤ w
  told : d.showable = true
  small : d.intsShort 13 = true
structure PlAll (n w : Nat) (ds : List PyData) : Prop where
  lay : PyData.canLayAll0 ds = true
  deep : PyData.depthAll ds ≤ n
  wt : PyData.weightAll ds ≤ ds.length * (w + 1)
  told : PyData.showableAll ds = true
  small : PyData.intsShortAll 13 ds = true
theorem PlAll.nil {n w : Nat} : PlAll n w [] := ⟨by simp [PyData.canLayAll0], by simp [PyData.depthAll], by simp [PyData.weightAll], by simp [PyData.showableAll], by simp [PyData.intsShortAll]⟩
theorem PlAll.cons {n w : Nat} {d : PyData} {ds : List PyData} (h : Pl n w d) (t : PlAll n w ds) : PlAll n w (d :: ds) := by
  constructor
  · simp [PyData.canLayAll0, h.lay, t.lay]
  · simp only [PyData.depthAll]; exact Nat.max_le.mpr ⟨h.deep, t.deep⟩
  · simp only [PyData.weightAll, List.length_cons]
    have h1 := h.wt
    have h2 := t.wt
    have e : (ds.length + 1) * (w + 1) = ds.length * (w + 1) + (w + 1) := by rw [Nat.add_mul, Nat.one_mul]
    omega
  · simp [PyData.showableAll, h.told, t.told]
  · simp [PyData.intsShortAll, h.small, t.small]
theorem PlAll.of {n w : Nat} : ∀ {ds : List PyData}, (∀ d ∈ ds, Pl n w d) → PlAll n w ds
  | [], _ => .nil
  | d :: ds, h => .cons (h d List.mem_cons_self) (.of fun e he => h e (List.mem_cons_of_mem _ he))
theorem PlAll.tuple {n w : Nat} {ds : List PyData} (h : PlAll n w ds) : Pl (n + 1) (ds.length * (w + 1)) (.tuple ds) :=
  ⟨by simpa [PyData.canLay0] using h.lay, by simp only [PyData.depth]; exact Nat.succ_le_succ h.deep, by simp only [PyData.weight]; exact h.wt, by simpa [PyData.showable] using h.told, by simpa [PyData.intsShort] using h.small⟩
theorem PlAll.list {n w : Nat} {ds : List PyData} (h : PlAll n w ds) : Pl (n + 1) (ds.length * (w + 1)) (.list ds) :=
  ⟨by simpa [PyData.canLay0] using h.lay, by simp only [PyData.depth]; exact Nat.succ_le_succ h.deep, by simp only [PyData.weight]; exact h.wt, by simpa [PyData.showable] using h.told, by simpa [PyData.intsShort] using h.small⟩
theorem Pl.mono {n m w v : Nat} {d : PyData} (h : Pl n w d) (h1 : n ≤ m) (h2 : w ≤ v) : Pl m v d := ⟨h.lay, Nat.le_trans h.deep h1, Nat.le_trans h.wt h2, h.told, h.small⟩
theorem Pl.non : Pl 0 0 .none := ⟨rfl, Nat.le_refl _, Nat.le_refl _, rfl, rfl⟩
theorem Pl.bl (b : Bool) : Pl 0 0 (.bool b) := ⟨rfl, Nat.le_refl _, Nat.le_refl _, rfl, rfl⟩
theorem Pl.str {y : Str} {w : Nat} (h : PyData.strOk y = true) (hw : y.length ≤ w) : Pl 0 w (.str y) :=
  ⟨by simpa [PyData.canLay0] using h, by simp [PyData.depth], by simp only [PyData.weight]; exact hw, by simp [PyData.showable], by simp [PyData.intsShort]⟩
theorem short_ints : ∀ n : Fin 1001, (decide ((PyData.shown (.int n.val)).length ≤ 13) && decide (PyData.weight (.int n.val) ≤ 16)) = true := by decide +kernel
theorem Pl.int {i : Int} (h0 : 0 ≤ i) (h1 : i ≤ 1000) : Pl 0 16 (.int i) := by
  obtain ⟨n, rfl⟩ := Int.eq_ofNat_of_zero_le h0
  have h := short_ints ⟨n, by omega⟩
  rw [Bool.and_eq_true, decide_eq_true_eq, decide_eq_true_eq] at h
  refine ⟨by simp [PyData.canLay0], by simp [PyData.depth], h.2, ?_, ?_⟩
  · simp only [PyData.showable, decide_eq_true_eq]
    exact reprOk_small h0 h1
  · simp only [PyData.intsShort, decide_eq_true_eq]
    exact h.1
theorem Pl.fit {d : PyData} (h : Pl 64 1000000 d) : d.shown.length ≤ sizeLine := by
  have l0 : d.layable0 = true := by
    unfold PyData.layable0
    rw [h.lay, decide_eq_true h.deep, decide_eq_true (Nat.le_trans h.wt (by decide))]
    rfl
  exact Nat.le_trans (shown_le13 l0 h.small) (by decide)
theorem Pl.shaped {d : PyData} {w : Nat} (h : Pl 64 w d) : SeqAt.shaped d = true := by
  unfold SeqAt.shaped
  rw [h.lay, decide_eq_true h.deep]
  rfl
theorem Pl.noDict {n w : Nat} {d : PyData} (h : Pl n w d) : d.hasDict = false := PyData.hasDict_of_canLay d h.lay
section
variable {X : Cx}
theorem call_reprD (free : X.A.guards = some []) (room : X.A.units + 100 < cLine) : CallR X (.builtin "repr") (fun xs H Q => ∃ x d, xs = [x] ∧ Dp X.K H x d ∧ Pl 64 1000000 d ∧ Q (.str d.shown) H) := by
  intro pins s σ H xs us Q I r h
  obtain ⟨x, d, rfl, dp, pl, q⟩ := h
  obtain ⟨u, rfl, ru⟩ := vals1 r
  obtain ⟨as, rd⟩ := Dp.reads I d x u dp ru
  have fin : ∀ h' t tk, (∀ b o, s.heap.get? b = some o → h'.get? b = some o) → EP X pins σ Q (.str d.shown t) { s with heap := h', toks := tk } := fun h' t tk k => ⟨.str d.shown, H, I.kept k, ⟨_, rfl⟩, q⟩
  have fit := pl.fit
  cases rd with
  | none => exact PySem.P.repr_of_none (fin _ _ _ fun _ _ e => e)
  | bool b => exact PySem.P.repr_of_bool (fin _ _ _ fun _ _ e => e)
  | int i t => exact PySem.P.repr_of_int (by simpa [PyData.showable] using pl.told) (fin _ _ _ fun _ _ e => e)
  | str y t => exact PySem.P.repr_of_str (fin _ _ _ fun _ _ e => e) fit
  | list h1 h2 h3 h4 => exact repr_of_reads' (.list h1 h2 h3 h4) pl.told (fun e => by rw [pl.noDict] at e; cases e) free (by have := pl.deep; omega) (fun _ _ e => e) (fun h' u tk k => fin h' u tk k) fit
  | tuple h1 h2 h3 h4 => exact repr_of_reads' (.tuple h1 h2 h3 h4) pl.told (fun e => by rw [pl.noDict] at e; cases e) free (by have := pl.deep; omega) (fun _ _ e => e) (fun h' u tk k => fin h' u tk k) fit
  | dict h1 h2 h3 h4 h5 => have := pl.noDict; cases this
end
theorem uD {A : Around} {k : Nat} (hr : RoomG k A) : A.units + 64 < cLine := by have := hr.room.un; omega
theorem uR {A : Around} {k : Nat} (hr : RoomG k A) : A.units + 100 < cLine := by have := hr.room.un; omega
/-! ### tokens as data -/
def datV : V → PyData
  | .bl b => .bool b
  | .int i => .int i
  | .str y => .str y
  | _ => .none
def flatV : V → Bool
  | .non => true
  | .bl _ => true
  | .int _ => true
  | .str _ => true
  | _ => false
theorem dp_flat {K : PySem.W.Frag} {H : Hp} : ∀ {v : V}, flatV v = true → Dp K H v (datV v)
  | .non, _ => .non
  | .bl b, _ => .bl b
  | .int i, _ => .int i
  | .str y, _ => .str y
theorem dp_flats {K : PySem.W.Frag} {H : Hp} : ∀ {vs : List V}, vs.all flatV = true → DpAll K H vs (vs.map datV)
  | [], _ => .nil
  | v :: vs, h => by
    rw [List.all_cons, Bool.and_eq_true] at h
    exact .cons (dp_flat h.1) (dp_flats h.2)
abbrev tokD (t : List V) : PyData := .tuple (t.map datV)
theorem tok_flat {z : Str} {t : List V} (h : tokV z t = true) : t.all flatV = true := by
  obtain ⟨kd, rest, rfl, hk⟩ := tok_inv h
  rcases hk with ⟨rfl, rfl⟩ | ⟨y, rfl, rfl, h1, h2, h3⟩ | ⟨y, rfl, rfl, h1⟩ | ⟨d, n, hkd, rfl, h1, h2, h3, h4⟩ <;> rfl
theorem TokAt.dp {K : PySem.W.Frag} {H : Hp} {z : Str} {v : V} {t : List V} (h : TokAt K H z v t) : Dp K H v (tokD t) := by
  obtain ⟨⟨a, rfl, ha⟩, ok⟩ := h
  exact .tup ha (dp_flats (tok_flat ok))
theorem Toks.dps {K : PySem.W.Frag} {H : Hp} {z : Str} : ∀ {vs : List V} {ts : List (List V)}, Toks K H z vs ts → DpAll K H vs (ts.map tokD)
  | _, _, .nil => .nil
  | _, _, .cons r t => .cons r.dp (Toks.dps t)
theorem clean_over {z y : Str} (hz : PyData.strOk z = true) (h : overB z y = true) : PyData.strOk y = true := by
  unfold PyData.strOk at *
  unfold overB at h
  rw [← Array.all_toList, List.all_eq_true] at *
  intro c hc
  have := h c hc
  exact hz c (of_decide_eq_true this)
theorem clean_signs {z : Str} (h : SignsOk z) : PyData.strOk z = true := by
  unfold SignsOk signsB lettersB at h
  simp only [Bool.and_eq_true] at h
  unfold PyData.strOk
  rw [← Array.all_toList, List.all_eq_true]
  intro c hc
  have := (List.all_eq_true.mp h.1.2) c hc
  unfold letB at this
  rw [Bool.and_eq_true, decide_eq_true_eq, decide_eq_true_eq] at this
  exact decide_eq_true (by omega)
theorem tok_pl {z : Str} {t : List V} (hz : SignsOk z) (h : tokV z t = true) : Pl 1 (3 * 41) (tokD t) := by
  have cz := clean_signs hz
  have lz := hz.len
  obtain ⟨kd, rest, rfl, hk⟩ := tok_inv h
  have ks : ∀ k : Str, k.length ≤ 40 → PyData.strOk k = true → Pl 0 40 (.str k) := fun k h1 h2 => .str h2 h1
  rcases hk with ⟨rfl, rfl⟩ | ⟨y, rfl, rfl, h1, h2, h3⟩ | ⟨y, rfl, rfl, h1⟩ | ⟨d, n, hkd, rfl, h1, h2, h3, h4⟩
  · exact ((PlAll.cons (ks _ (by decide +kernel) (by decide +kernel)) .nil).tuple).mono (Nat.le_refl _) (by decide)
  · exact ((PlAll.cons (ks _ (by decide +kernel) (by decide +kernel)) (.cons (ks y h3 (clean_over cz h1)) .nil)).tuple).mono (Nat.le_refl _) (Nat.le_of_ble_eq_true rfl)
  · have hy : y.length ≤ 40 ∧ overB z y = true := by
      unfold choiceB at h1
      simp only [Bool.and_eq_true, decide_eq_true_eq] at h1
      exact ⟨by omega, h1.1.2⟩
    exact ((PlAll.cons (ks _ (by decide +kernel) (by decide +kernel)) (.cons (ks y hy.1 (clean_over cz hy.2)) .nil)).tuple).mono (Nat.le_refl _) (Nat.le_of_ble_eq_true rfl)
  · have hi : ∀ i : Int, 0 ≤ i → i ≤ 1000 → Pl 0 40 (.int i) := fun i a b => (Pl.int a b).mono (Nat.le_refl _) (by decide)
    rcases hkd with rfl | rfl
    · exact ((PlAll.cons (ks _ (by decide +kernel) (by decide +kernel)) (.cons (hi d (by omega) (by omega)) (.cons (hi n (by omega) (by omega)) .nil))).tuple).mono (Nat.le_refl _) (Nat.le_of_ble_eq_true rfl)
    · exact ((PlAll.cons (ks _ (by decide +kernel) (by decide +kernel)) (.cons (hi d (by omega) (by omega)) (.cons (hi n (by omega) (by omega)) .nil))).tuple).mono (Nat.le_refl _) (Nat.le_of_ble_eq_true rfl)
theorem toks_pl {z : Str} {ts : List (List V)} (hz : SignsOk z) (h : ∀ t ∈ ts, tokV z t = true) (hn : ts.length ≤ 1000) : Pl 2 124000 (.list (ts.map tokD)) := by
  have a : PlAll 1 (3 * 41) (ts.map tokD) := .of fun d hd => by
    obtain ⟨t, ht, rfl⟩ := List.mem_map.mp hd
    exact tok_pl hz (h t ht)
  refine a.list.mono (Nat.le_refl _) ?_
  rw [List.length_map]
  omega
end KW

/-! len, repr and == of instances by the class' own defs; {x!r} of plain data. -/
namespace KW
open PySem PySem.Spec PyProof.Rows L2
section
variable {X : Cx} {k : Nat} {f C : Addr} {fd : FuncData} {ps : List Str} {sp : Sp} {E : XK}
/-- a def that runs below the walked body, at an around of its own -/
theorem run_below (F : FnG X.prog X.w X.K X.mg X.base k f fd ps sp) {A' : Around} (same : A'.frames = X.A.frames) (hr : RoomG k A') (hb : Binds X.K fd ps []) (hx : Passes CX0 X E)
    {pins : List (Addr × Obj)} {s : Shared} {σ : L2.St} {H : Hp} {xs : List V} {us : List Value} {Q : VK} (I : Inv X pins σ H s) (r : Vals xs us) (h : sp xs H Q E) :
    wpAny (model X.prog X.w) A' (call (.ref f) us) (EP X pins σ Q) X.xe s := by
  have eq0 : us ++ [] = us := List.append_nil us
  have bound := hb s us I.kIn (by rw [eq0, ← r.length]; exact F.many _ _ _ _ h)
  rw [eq0] at bound
  have e := I.env0
  have env : Env0 X.prog X.w X.K X.mg X.base A' X.stack s H :=
    { frames := same.trans e.frames, mod := e.mod, bs := e.bs, bsz := e.bsz, funs := e.funs, frf := e.frf, hok := e.hok, bare := e.bare }
  refine wpAny_call (codeAny_mono (F.keeps A' X.stack s H ⟨us, []⟩ us xs Q E hr env bound r h) fun z s' q => ?_)
  match z, q with
  | .error e, q => exact hx pins σ H s e s' I q
  | .ok (.ret u), q => exact I.after q
theorem RoomG.in1 {A : Around} (r : RoomG (k + 1) A) : RoomG k A.in1 := ⟨r.room.in1, r.free⟩
theorem call_lenOwn (F : FnG X.prog X.w X.K X.mg X.base k f fd ps sp) (hr : RoomG (k + 1) X.A) (at_ : PySem.W.findIn X.K (.ref C) "__len__" = some (some (.ref f))) (fn : PySem.W.isFn X.K (.ref f) = true) (hb : Binds X.K fd ps []) (hx : Passes CX0 X E) :
    CallR X (.builtin "len") (fun xs H Q => ∃ a dx fs, xs = [.ref a] ∧ H a = some (.ins C dx fs) ∧ sp [.ref a] H (fun v H' => ∃ n : Nat, v = .int n ∧ n < 2 ^ 62 ∧ Q (.int n) H') E) := by
  intro pins s σ H xs us Q I r h
  obtain ⟨a, dx, fs, rfl, ha, h⟩ := h
  obtain ⟨u, rfl, ru⟩ := vals1 r
  obtain rfl : u = Value.ref a := ru
  obtain ⟨mA, J, _⟩ := ins_get I.hok ha
  obtain ⟨od, J, _⟩ := J.look
  obtain ⟨m, hF⟩ := I.fr
  refine PySem.W.len_K hF I.ok.mod.kin J at_ fn (wpAny_mono (run_below F (A' := X.A.in1) rfl hr.in1 hb hx I (xs := [.ref a]) (.cons rfl .nil) h) (fun v s' q => ?_) fun _ _ z => z)
  obtain ⟨y, H', I', ry, n, rfl, hn, q⟩ := q
  obtain ⟨t, rfl⟩ := ry
  exact ⟨⟨by omega, by omega⟩, .int n, H', I'.tok _, ⟨_, rfl⟩, q⟩
theorem call_reprOwn (F : FnG X.prog X.w X.K X.mg X.base k f fd ps sp) (hr : RoomG (k + 1) X.A) (at_ : PySem.W.findIn X.K (.ref C) "__repr__" = some (some (.ref f))) (fn : PySem.W.isFn X.K (.ref f) = true) (hb : Binds X.K fd ps []) (hx : Passes CX0 X E) :
    CallR X (.builtin "repr") (fun xs H Q => ∃ a dx fs, xs = [.ref a] ∧ H a = some (.ins C dx fs) ∧ sp [.ref a] H (fun v H' => ∃ y : Str, v = .str y ∧ Q (.str y) H') E) := by
  intro pins s σ H xs us Q I r h
  obtain ⟨a, dx, fs, rfl, ha, h⟩ := h
  obtain ⟨u, rfl, ru⟩ := vals1 r
  obtain rfl : u = Value.ref a := ru
  obtain ⟨mA, J, _⟩ := ins_get I.hok ha
  obtain ⟨od, J, _⟩ := J.look
  obtain ⟨m, hF⟩ := I.fr
  have small : X.A.in1.units < cLine := by have := hr.room.un; show X.A.units + 1 < _; omega
  refine PySem.W.repr_K small hF I.ok.mod.kin J at_ fn (wpAny_mono (run_below F (A' := X.A.in1) rfl hr.in1 hb hx I (xs := [.ref a]) (.cons rfl .nil) h) (fun v s' q => ?_) fun _ _ z => z)
  obtain ⟨y, H', I', ry, n, rfl, q⟩ := q
  obtain ⟨t, rfl⟩ := ry
  exact ⟨.str n, H', I', ⟨_, rfl⟩, q⟩
/-- x == y by x's own def, y of the same class -/
theorem op_eqOwn (F : FnG X.prog X.w X.K X.mg X.base k f fd ps sp) (hr : RoomG (k + 1) X.A) (at_ : PySem.W.findIn X.K (.ref C) "__eq__" = some (some (.ref f))) (fn : PySem.W.isFn X.K (.ref f) = true) (hb : Binds X.K fd ps []) (hx : Passes CX0 X E) :
    OpR X (compareOp .Eq) (fun x y H Q => ∃ a b dx dy fs gs, x = .ref a ∧ y = .ref b ∧ H a = some (.ins C dx fs) ∧ H b = some (.ins C dy gs) ∧ sp [.ref a, .ref b] H (fun v H' => ∃ r : Bool, v = .bl r ∧ Q (.bl r) H') E) := by
  intro pins s σ H x y v u Q I rx ry h
  obtain ⟨a, b, dx, dy, fs, gs, rfl, rfl, ha, hb', h⟩ := h
  obtain rfl : v = Value.ref a := rx
  obtain rfl : u = Value.ref b := ry
  obtain ⟨mA, J, _⟩ := ins_get I.hok ha
  obtain ⟨od, J, _⟩ := J.look
  obtain ⟨mB, J', _⟩ := ins_get I.hok hb'
  obtain ⟨od', J', _⟩ := J'.look
  obtain ⟨m, hF⟩ := I.fr
  have small : X.A.units < cLine := by have := hr.room.un; omega
  show wpAny (model X.prog X.w) X.A (richCompare .Eq (.ref a) (.ref b)) (EP X pins σ Q) X.xe s
  refine PySem.W.cmp_K (op := .Eq) (tb := .ref C) small hF I.ok.mod.kin J J'.type (by simp [PySem.W.notFirst]) at_ fn ?_
  refine wpAny_mono (run_below F (A' := X.A) rfl (hr.mono (Nat.le_succ _)) hb hx I (xs := [.ref a, .ref b]) (.cons rfl (.cons rfl .nil)) h) (fun v s' q => ?_) fun _ _ z => z
  obtain ⟨y, H', I', ry, r, rfl, q⟩ := q
  obtain rfl := ry
  exact ⟨.bl r, H', I', rfl, q⟩
/-- {x!r} of plain data -/
def tFmtD (K : PySem.W.Frag) (te : TE) : TE := fun σ H Q => te σ H fun x H1 => ∃ d, Dp K H1 x d ∧ Pl 64 1000000 d ∧ Q (.str d.shown) H1
theorem pe_fmtD {e : Expr} {te : TE} {pos : Pos} (free : X.A.guards = some []) (room : X.A.units + 100 < cLine) (he : PE X e te) : PE X (.FormattedValue e 114 none pos) (tFmtD X.K te) := by
  constructor
  intro pins s σ H Q I h
  refine wpAny_FormattedValue_repr (thn (he.run pins s σ H _ I h) fun v s1 hv => ?_)
  obtain ⟨x, H1, I1, r1, d, dp, pl, q⟩ := hv
  obtain ⟨as, rd⟩ := Dp.reads I1 d x v dp r1
  have fit := pl.fit
  have fin : ∀ h' t tk, (∀ b o, s1.heap.get? b = some o → h'.get? b = some o) → wpAny (model X.prog X.w) X.A (formatField (.str d.shown t) Str.empty) (EP X pins σ Q) X.xe { s1 with heap := h', toks := tk } := fun h' t tk k =>
    wpAny_formatField_str ⟨.str d.shown, H1, I1.kept k, ⟨_, rfl⟩, q⟩ ⟨.str d.shown, H1, (I1.kept k).tok _, ⟨_, rfl⟩, q⟩ fit
  have keep : ∀ b o, s1.heap.get? b = some o → s1.heap.get? b = some o := fun _ _ e => e
  have noD : d.hasDict = true → sysModules ∉ as := fun e => by rw [pl.noDict] at e; cases e
  have du : X.A.units + d.depth < cLine := by have := pl.deep; omega
  cases x with
  | ref a =>
    obtain rfl : v = Value.ref a := r1
    exact pyReprObj_of_reads rd pl.told noD free du keep (fun h' u tk k => fin h' u tk k) fit
  | non => cases r1; cases dp; exact pyReprObj_none (fin _ _ _ keep)
  | bl b => cases r1; cases dp; exact pyReprObj_bool (fin _ _ _ keep)
  | int i => obtain ⟨t, rfl⟩ := r1; cases dp; exact pyReprObj_int (by simpa [PyData.showable] using pl.told) (fin _ _ _ keep)
  | str y => obtain ⟨t, rfl⟩ := r1; cases dp; exact pyReprObj_str (fin _ _ _ keep) fit
  | _ => cases dp
end
end KW
namespace KW
open PySem PySem.Spec PyProof.Rows L2
theorem Pl.fit15 {d : PyData} (h : Pl 64 1000000 d) : d.shown.length ≤ 15728653 := by
  have l0 : d.layable0 = true := by
    unfold PyData.layable0
    rw [h.lay, decide_eq_true h.deep, decide_eq_true (Nat.le_trans h.wt (by decide))]
    rfl
  exact shown_le13 l0 h.small
theorem app_len (x y : Str) : (x ++ y).length = x.length + y.length := Array.size_append
theorem repr_len {z : Str} (h : SignsOk z) : (reprText z).length ≤ 62 := by
  have hz := h.len
  have h1 := PySem.StrLaws.reprText_len z fun c hc => by
    have := (List.all_eq_true.mp (by have := clean_signs h; unfold PyData.strOk at this; rwa [← Array.all_toList] at this)) c hc
    have := of_decide_eq_true this
    omega
  omega
end KW
namespace KW
open PySem PySem.Spec PyProof.Rows L2
/-- what the holes of places are told -/
def holesL (ps : List (List V)) : List V := ps.filterMap fun p => match p with
  | [.str k, v] => if k = "hole" then some v else none
  | _ => none
theorem place_two {z : Str} {ts : List (List V)} (h : ∀ t ∈ ts, tokV z t = true) {p : List V} (hp : p ∈ placesL ts) : ∃ (k : Str) (v : V), p = [.str k, v] := by
  unfold placesL at hp
  obtain ⟨t, ht, hp⟩ := List.mem_flatMap.mp hp
  obtain ⟨kd, rest, rfl, hk⟩ := tok_inv (h t ht)
  rcases hk with ⟨rfl, rfl⟩ | ⟨y, rfl, rfl, h1, h2, h3⟩ | ⟨y, rfl, rfl, h1⟩ | ⟨d, n, hkd, rfl, h1, h2, h3, h4⟩
  · exact nomatch (show p ∈ ([] : List (List V)) from hp)
  · rw [place_text] at hp
    obtain ⟨c, _, rfl⟩ := List.mem_map.mp hp
    exact ⟨_, _, rfl⟩
  · rw [place_any] at hp
    rw [List.mem_singleton.mp hp]
    exact ⟨_, _, rfl⟩
  · have hp : p ∈ List.replicate n.toNat [V.str kd, V.int d] := hp
    rw [List.eq_of_mem_replicate hp]
    exact ⟨_, _, rfl⟩
theorem holes_step {ps : List (List V)} {i : Nat} {k : Str} {v : V} (h : ps[i]? = some [.str k, v]) : holesL (ps.take (i + 1)) = holesL (ps.take i) ++ (if k = "hole" then [v] else []) := by
  rw [take_succ' h]
  unfold holesL
  rw [List.filterMap_append]
  congr 1
  by_cases e : k = "hole"
  · simp [e]
  · simp [e]
theorem holes_le (ps : List (List V)) : (holesL ps).length ≤ ps.length := List.length_filterMap_le _ _
end KW
namespace KW
open PySem PySem.Spec PyProof.Rows L2
/-- the numbers of signs ahead of each flush, each once, ascending (n written ahead) -/
def flushL : List (List V) → Int → List Int
  | [], _ => []
  | t :: ts, n => match t with
    | [.str _] => n :: (flushL ts n).filter (fun m => decide (m ≠ n))
    | _ => flushL ts (n + sizeV t)
end KW

/-! Numbers of flushes. -/
namespace KW
open PySem L2
def flushA : List (List V) → Int → List Int → List Int
  | [], _, acc => acc
  | t :: ts, n, acc => match t with
    | [.str _] => flushA ts n (if n ∈ acc then acc else acc ++ [n])
    | _ => flushA ts (n + sizeV t) acc
theorem flushA_flush {k : Str} {ts : List (List V)} {n : Int} {acc : List Int} : flushA ([.str k] :: ts) n acc = flushA ts n (if n ∈ acc then acc else acc ++ [n]) := rfl
theorem flushA_two {k : V} {v : V} {ts : List (List V)} {n : Int} {acc : List Int} : flushA ([k, v] :: ts) n acc = flushA ts (n + sizeV [k, v]) acc := by cases k <;> rfl
theorem flushA_three {k : V} {v u : V} {ts : List (List V)} {n : Int} {acc : List Int} : flushA ([k, v, u] :: ts) n acc = flushA ts (n + sizeV [k, v, u]) acc := by cases k <;> rfl
/-- ascending, all at most n -/
def Asc (acc : List Int) (n : Int) : Prop := acc.Pairwise (· < ·) ∧ ∀ m ∈ acc, m ≤ n
theorem Asc.nil {n : Int} : Asc [] n := ⟨.nil, fun _ h => nomatch h⟩
theorem Asc.mono {acc : List Int} {n m : Int} (h : Asc acc n) (l : n ≤ m) : Asc acc m := ⟨h.1, fun x hx => Int.le_trans (h.2 x hx) l⟩
theorem Asc.put {acc : List Int} {n : Int} (h : Asc acc n) : Asc (if n ∈ acc then acc else acc ++ [n]) n := by
  by_cases e : n ∈ acc
  · rw [if_pos e]; exact h
  · rw [if_neg e]
    refine ⟨List.pairwise_append.mpr ⟨h.1, by simp, fun a ha b hb => ?_⟩, fun m hm => ?_⟩
    · rw [List.mem_singleton.mp hb]
      have := h.2 a ha
      have : a ≠ n := fun q => e (q ▸ ha)
      omega
    · rcases List.mem_append.mp hm with hm | hm
      · exact h.2 m hm
      · rw [List.mem_singleton.mp hm]; exact Int.le_refl _
theorem put_len {acc : List Int} {n : Int} : (if n ∈ acc then acc else acc ++ [n]).length ≤ acc.length + 1 := by
  by_cases e : n ∈ acc
  · rw [if_pos e]; omega
  · rw [if_neg e, List.length_append]; exact Nat.le_refl _
theorem sorted_same {ys acc : List Int} (hp : ys.Perm acc) (hs : ys.Pairwise (· ≤ ·)) (ha : acc.Pairwise (· < ·)) : ys = acc :=
  List.Perm.eq_of_pairwise (le := (· ≤ ·)) (fun a b _ _ h1 h2 => Int.le_antisymm h1 h2) hs (ha.imp fun h => Int.le_of_lt h) hp
theorem inV_ints (n : Int) (acc : List Int) : inV (.int n) (acc.map V.int) = decide (n ∈ acc) := by
  unfold inV
  rw [List.any_map]
  induction acc with
  | nil => rfl
  | cons a acc ih =>
    rw [List.any_cons, ih]
    show ((a == n) || decide (n ∈ acc)) = decide (n ∈ a :: acc)
    by_cases e : a = n
    · subst e; simp
    · have e' : ¬ n = a := fun q => e q.symm
      simp [e, e']
theorem flat_ints (acc : List Int) : (acc.map V.int).all L2.flatV = true := by
  rw [List.all_map, List.all_eq_true]
  intro x _
  rfl
abbrev keysV (acc : List Int) : List (Key × V) := acc.map fun m => (Sum.inl m, V.bl true)
theorem put_keys (acc : List Int) (n : Int) : putK (keysV acc) (Sum.inl n) (.bl true) = keysV (if n ∈ acc then acc else acc ++ [n]) := by
  unfold putK
  have h : ((keysV acc).any fun kv => decide (kv.1 = (Sum.inl n : Key))) = decide (n ∈ acc) := by
    unfold keysV
    rw [List.any_map]
    induction acc with
    | nil => rfl
    | cons a acc ih =>
      rw [List.any_cons, ih]
      show (decide ((Sum.inl a : Key) = Sum.inl n) || decide (n ∈ acc)) = decide (n ∈ a :: acc)
      by_cases e : a = n
      · subst e; simp
      · have e' : ¬ n = a := fun q => e q.symm
        simp [e, e']
  rw [h]
  by_cases e : n ∈ acc
  · rw [if_pos (decide_eq_true e), if_pos e]
    unfold keysV
    rw [List.map_map]
    refine List.map_congr_left fun m _ => ?_
    show (if (Sum.inl m : Key) = Sum.inl n then ((Sum.inl m : Key), V.bl true) else ((Sum.inl m : Key), V.bl true)) = _
    split <;> rfl
  · rw [if_neg (by rw [decide_eq_false e]; exact Bool.false_ne_true), if_neg e]
    unfold keysV
    rw [List.map_append]
    rfl
theorem keys_fst (acc : List Int) : (keysV acc).map (·.1) = acc.map Sum.inl := by
  unfold keysV
  rw [List.map_map]
  rfl
end KW

/-! What is shown of plain data is a clean text. -/
namespace KW
open PySem PySem.Builtin.Str L2
def Cln (y : Str) : Prop := ∀ c ∈ cl y, c < 0x110000
theorem cln_iff {y : Str} : PyData.strOk y = true ↔ Cln y := by
  unfold PyData.strOk Cln
  rw [← Array.all_toList, List.all_eq_true]
  exact ⟨fun h c hc => of_decide_eq_true (h c hc), fun h c hc => decide_eq_true (h c hc)⟩
theorem Cln.app {x y : Str} (hx : Cln x) (hy : Cln y) : Cln (x ++ y) := by
  intro c hc
  have e : cl (x ++ y) = cl x ++ cl y := by
    show (x.cps ++ y.cps).toList = _
    rw [Array.toList_append]
  rw [e] at hc
  rcases List.mem_append.mp hc with h | h
  · exact hx c h
  · exact hy c h
theorem char_lt (c : Char) : c.toNat < 0x110000 := by
  rcases c.valid with h | h
  · have : c.val.toNat < 55296 := h
    show c.val.toNat < _
    omega
  · exact h.2
theorem Cln.of (s : String) : Cln (Str.ofString s) := by
  intro c hc
  rw [Str.ofString_eq_toList] at hc
  obtain ⟨d, _, rfl⟩ := List.mem_map.mp (show c ∈ (s.toList.map Char.toNat).toArray.toList from hc)
  exact char_lt d
theorem repr_char {q c : Nat} (hc : c < 0x110000) : ∀ d ∈ reprChar q c, d < 0x110000 := by
  intro d hd
  have hx : ∀ n, d ∈ (List.replicate n 48 ++ (Nat.toDigits 16 c).map Char.toNat) → d < 0x110000 := fun n h => by
    rcases List.mem_append.mp h with h | h
    · rw [List.eq_of_mem_replicate h]; decide
    · obtain ⟨e, _, rfl⟩ := List.mem_map.mp h
      exact char_lt e
  have two : ∀ a b : Nat, a < 0x110000 → b < 0x110000 → d ∈ [a, b] → d < 0x110000 := fun a b ha hb h => by
    rcases List.mem_cons.mp h with rfl | h
    · exact ha
    · rw [List.mem_singleton.mp h]; exact hb
  have more : ∀ (a b n : Nat), a < 0x110000 → b < 0x110000 → d ∈ [a, b] ++ (List.replicate n 48 ++ (Nat.toDigits 16 c).map Char.toNat) → d < 0x110000 := fun a b n ha hb h => by
    rcases List.mem_append.mp h with h | h
    · exact two a b ha hb h
    · exact hx n h
  unfold reprChar at hd
  dsimp only at hd
  split at hd
  · exact two _ _ (by decide) hc hd
  split at hd
  · exact two _ _ (by decide) (by decide) hd
  split at hd
  · exact two _ _ (by decide) (by decide) hd
  split at hd
  · exact two _ _ (by decide) (by decide) hd
  split at hd
  · rw [List.mem_singleton.mp hd]; exact hc
  split at hd
  · exact more _ _ _ (by decide) (by decide) hd
  split at hd
  · exact more _ _ _ (by decide) (by decide) hd
  · exact more _ _ _ (by decide) (by decide) hd
theorem repr_fold {q : Nat} : ∀ (l : List Nat) (acc : Array Nat), (∀ c ∈ l, c < 0x110000) → (∀ c ∈ acc.toList, c < 0x110000) → ∀ c ∈ (l.foldl (fun out c => out ++ (reprChar q c).toArray) acc).toList, c < 0x110000
  | [], acc, _, ha => ha
  | x :: l, acc, hl, ha => by
    rw [List.foldl_cons]
    refine repr_fold l _ (fun c hc => hl c (List.mem_cons_of_mem _ hc)) fun c hc => ?_
    rw [Array.toList_append] at hc
    rcases List.mem_append.mp hc with h | h
    · exact ha c h
    · exact repr_char (hl x List.mem_cons_self) c (by simpa using h)
theorem Cln.repr {x : Str} (h : Cln x) : Cln (reprText x) := by
  have hq : reprQuote x < 0x110000 := by unfold reprQuote; split <;> decide
  intro c hc
  unfold reprText at hc
  have hc : c ∈ ((x.cps.foldl (fun out c => out ++ (reprChar (reprQuote x) c).toArray) #[reprQuote x]).push (reprQuote x)).toList := hc
  rw [Array.toList_push] at hc
  rcases List.mem_append.mp hc with h2 | h2
  · rw [← Array.foldl_toList] at h2
    exact repr_fold (cl x) _ h (fun d hd => by rw [List.mem_singleton.mp (show d ∈ [reprQuote x] from hd)]; exact hq) c h2
  · rw [List.mem_singleton.mp h2]; exact hq
theorem Cln.join {sep : Str} (hs : Cln sep) : ∀ {ts : List Str}, (∀ t ∈ ts, Cln t) → Cln (Str.join sep ts)
  | [], _ => fun c hc => nomatch (show c ∈ ([] : List Nat) from hc)
  | [x], h => h x List.mem_cons_self
  | x :: y :: r, h => ((h x List.mem_cons_self).app hs).app (Cln.join hs fun t ht => h t (List.mem_cons_of_mem _ ht))
theorem Cln.from : ∀ (ts : List Str) (k : Nat) (acc : Str), Cln acc → (∀ t ∈ ts, Cln t) → Cln (textFrom k acc ts)
  | [], _, _, ha, _ => ha
  | t :: ts, k, acc, ha, h => by
    refine Cln.from ts (k + 1) _ ((ha.app ?_).app (h t List.mem_cons_self)) fun u hu => h u (List.mem_cons_of_mem _ hu)
    split <;> exact Cln.of _
mutual
theorem cln_shown : ∀ d : PyData, d.canLay0 = true → Cln d.shown
  | .none, _ => Cln.of _
  | .bool b, _ => by
    cases b <;> exact Cln.of _
  | .int i, _ => Cln.of _
  | .str x, h => by
    have h' : PyData.strOk x = true := by simpa [PyData.canLay0] using h
    simp only [PyData.shown]
    exact (cln_iff.mp h').repr
  | .list xs, h => by
    have h' : PyData.canLayAll0 xs = true := by simpa [PyData.canLay0] using h
    simp only [PyData.shown]
    exact (Cln.from _ _ _ (Cln.of _) (cln_shownAll xs h')).app (Cln.of _)
  | .tuple xs, h => by
    have h' : PyData.canLayAll0 xs = true := by simpa [PyData.canLay0] using h
    simp only [PyData.shown]
    unfold tupleText
    exact ((Cln.of _).app (Cln.join (Cln.of _) (cln_shownAll xs h'))).app (by split <;> exact Cln.of _)
  | .dict _, h => by simp [PyData.canLay0] at h
theorem cln_shownAll : ∀ ds : List PyData, PyData.canLayAll0 ds = true → ∀ t ∈ PyData.shownAll ds, Cln t
  | [], _ => fun t ht => by simp [PyData.shownAll] at ht
  | d :: ds, h => fun t ht => by
    have h' : d.canLay0 = true ∧ PyData.canLayAll0 ds = true := by simpa [PyData.canLayAll0] using h
    simp only [PyData.shownAll] at ht
    rcases List.mem_cons.mp ht with rfl | ht
    · exact cln_shown d h'.1
    · exact cln_shownAll ds h'.2 t ht
end
end KW

/-! What a piece tells, as data. -/
namespace KW
open PySem PySem.Builtin.Str L2
def shownP (z : Str) (ts : List (List V)) : Str := Str.empty ++ "Piece(" ++ reprText z ++ ", " ++ (PyData.list (ts.map tokD)).shown ++ ")"
def toldD (z : Str) (ts : List (List V)) : PyData := .list [.str z, .list (ts.map tokD), .list ((placesL ts).map tokD), .list ((flushA ts 0 []).map .int), .list ((holesL (placesL ts)).map datV), .int (placesL ts).length, .str (shownP z ts)]
theorem toks_pl60 {z : Str} {ts : List (List V)} (hz : SignsOk z) (h : ∀ t ∈ ts, tokV z t = true) (hn : ts.length ≤ 60) : Pl 2 7440 (.list (ts.map tokD)) := by
  have a : PlAll 1 (3 * 41) (ts.map tokD) := .of fun d hd => by
    obtain ⟨t, ht, rfl⟩ := List.mem_map.mp hd
    exact tok_pl hz (h t ht)
  refine a.list.mono (Nat.le_refl _) ?_
  rw [List.length_map]
  omega
theorem Pl.len {n w : Nat} {d : PyData} (h : Pl n w d) : d.shown.length ≤ 15 * w + 13 := by
  have h2 := PyData.shown_le 13 (by decide) d (PyData.leavesShort_of_canLay0 13 d h.lay h.small)
  have := h.wt
  have : 15 * d.weight ≤ 15 * w := Nat.mul_le_mul_left _ this
  omega
/-- what one place is -/
theorem place_of {z : Str} {ts : List (List V)} (hz : SignsOk z) (h : ∀ t ∈ ts, tokV z t = true) {p : List V} (hp : p ∈ placesL ts) :
    ∃ (k : Str) (v : V), p = [.str k, v] ∧ p.all flatV = true ∧ Pl 1 82 (tokD p) ∧ Pl 0 40 (datV v) := by
  have cz := clean_signs hz
  have lz := hz.len
  have ks : ∀ k : Str, k.length ≤ 40 → PyData.strOk k = true → Pl 0 40 (.str k) := fun k h1 h2 => .str h2 h1
  have mk : ∀ (k : Str) (v : V), flatV v = true → Pl 0 40 (.str k) → Pl 0 40 (datV v) → ∃ (k' : Str) (v' : V), [V.str k, v] = [.str k', v'] ∧ [V.str k, v].all flatV = true ∧ Pl 1 82 (tokD [V.str k, v]) ∧ Pl 0 40 (datV v') := fun k v f h1 h2 =>
    ⟨k, v, rfl, by show (true && (flatV v && true)) = true; rw [f]; rfl, ((PlAll.cons h1 (.cons h2 .nil)).tuple).mono (Nat.le_refl _) (Nat.le_of_ble_eq_true rfl), h2⟩
  unfold placesL at hp
  obtain ⟨t, ht, hp⟩ := List.mem_flatMap.mp hp
  obtain ⟨kd, rest, rfl, hk⟩ := tok_inv (h t ht)
  rcases hk with ⟨rfl, rfl⟩ | ⟨y, rfl, rfl, h1, h2, h3⟩ | ⟨y, rfl, rfl, h1⟩ | ⟨d, n, hkd, rfl, h1, h2, h3, h4⟩
  · exact nomatch (show p ∈ ([] : List (List V)) from hp)
  · rw [place_text] at hp
    obtain ⟨c, hc, rfl⟩ := List.mem_map.mp hp
    have cy := cln_iff.mp (clean_over cz h1)
    exact mk _ _ rfl (ks _ (by decide +kernel) (by decide +kernel)) (ks (sg c) (show 1 ≤ 40 by decide) (cln_iff.mpr fun d hd => by rw [List.mem_singleton.mp (show d ∈ [c] from hd)]; exact cy c hc))
  · rw [place_any] at hp
    rw [List.mem_singleton.mp hp]
    have hy : y.length ≤ 40 ∧ overB z y = true := by
      unfold choiceB at h1
      simp only [Bool.and_eq_true, decide_eq_true_eq] at h1
      exact ⟨by omega, h1.1.2⟩
    exact mk _ _ rfl (ks _ (by decide +kernel) (by decide +kernel)) (ks y hy.1 (clean_over cz hy.2))
  · have hp : p ∈ List.replicate n.toNat [V.str kd, V.int d] := hp
    rw [List.eq_of_mem_replicate hp]
    have hi : Pl 0 40 (.int d) := (Pl.int (by omega) (by omega)).mono (Nat.le_refl _) (by decide)
    rcases hkd with rfl | rfl
    · exact mk _ _ rfl (ks _ (by decide +kernel) (by decide +kernel)) hi
    · exact mk _ _ rfl (ks _ (by decide +kernel) (by decide +kernel)) hi
theorem flushA_in : ∀ (ts : List (List V)) (z : Str) (n : Int) (acc : List Int), (∀ t ∈ ts, tokV z t = true) → 0 ≤ n → (∀ m ∈ acc, 0 ≤ m ∧ m ≤ n) → ∀ m ∈ flushA ts n acc, 0 ≤ m ∧ m ≤ n + tsize ts
  | [], z, n, acc, _, h0, ha => fun m hm => by
    have := ha m hm
    rw [tsize_nil]
    omega
  | t :: ts, z, n, acc, h, h0, ha => fun m hm => by
    have hr : ∀ u ∈ ts, tokV z u = true := fun u hu => h u (List.mem_cons_of_mem _ hu)
    have hs := (size_nn (h t List.mem_cons_self)).1
    rw [tsize_cons]
    obtain ⟨kd, rest, rfl, hk⟩ := tok_inv (h t List.mem_cons_self)
    rcases hk with ⟨rfl, rfl⟩ | ⟨y, rfl, rfl, h1, h2, h3⟩ | ⟨y, rfl, rfl, h1⟩ | ⟨d, k, hkd, rfl, h1, h2, h3, h4⟩
    · rw [flushA_flush] at hm
      have := flushA_in ts z n _ hr h0 (fun m hm => by
        by_cases e : n ∈ acc
        · rw [if_pos e] at hm; exact ha m hm
        · rw [if_neg e] at hm
          rcases List.mem_append.mp hm with hm | hm
          · exact ha m hm
          · rw [List.mem_singleton.mp hm]; omega) m hm
      omega
    · rw [flushA_two] at hm
      have := flushA_in ts z _ _ hr (by omega) (fun m hm => by have := ha m hm; omega) m hm
      omega
    · rw [flushA_two] at hm
      have := flushA_in ts z _ _ hr (by omega) (fun m hm => by have := ha m hm; omega) m hm
      omega
    · rw [flushA_three] at hm
      have := flushA_in ts z _ _ hr (by omega) (fun m hm => by have := ha m hm; omega) m hm
      omega
theorem flushA_len : ∀ (ts : List (List V)) (n : Int) (acc : List Int), (flushA ts n acc).length ≤ acc.length + ts.length
  | [], _, _ => Nat.le_refl _
  | t :: ts, n, acc => by
    unfold flushA
    split
    · have := flushA_len ts n (if n ∈ acc then acc else acc ++ [n])
      have := put_len (acc := acc) (n := n)
      simp only [List.length_cons]; omega
    · have := flushA_len ts (n + sizeV t) acc
      simp only [List.length_cons]; omega
theorem shownP_pl {z : Str} {ts : List (List V)} (hz : SignsOk z) (h : ∀ t ∈ ts, tokV z t = true) (hn : ts.length ≤ 60) : Pl 0 111700 (.str (shownP z ts)) := by
  have pt := toks_pl60 hz h hn
  have l2 := pt.len
  have l1 := repr_len hz
  have l3 : (Str.empty : Str).length = 0 := rfl
  have l4 : (Str.ofString "Piece(").length = 6 := by decide +kernel
  have l5 : (Str.ofString ", ").length = 2 := by decide +kernel
  have l6 : (Str.ofString ")").length = 1 := by decide +kernel
  refine .str (cln_iff.mpr ?_) ?_
  · unfold shownP
    have c0 : Cln Str.empty := fun c hc => nomatch (show c ∈ ([] : List Nat) from hc)
    exact ((((c0.app (.of _)).app (Cln.repr (cln_iff.mp (clean_signs hz)))).app (.of _)).app (cln_shown _ pt.lay)).app (.of _)
  · unfold shownP
    rw [app_len, app_len, app_len, app_len, app_len]
    omega
theorem told_pl {z : Str} {ts : List (List V)} (hz : SignsOk z) (h : ∀ t ∈ ts, tokV z t = true) (hn : ts.length ≤ 60) (hs : tsize ts ≤ 40) : Pl 64 1000000 (toldD z ts) := by
  have hll := places_len h
  have hl := hz.len
  have p1 : Pl 2 111700 (.str z) := (Pl.str (w := 6) (clean_signs hz) hl.2).mono (by decide) (by decide)
  have p2 : Pl 2 111700 (.list (ts.map tokD)) := (toks_pl60 hz h hn).mono (Nat.le_refl _) (by decide)
  have a3 : PlAll 1 82 ((placesL ts).map tokD) := .of fun d hd => by
    obtain ⟨p, hp, rfl⟩ := List.mem_map.mp hd
    obtain ⟨_, _, _, _, q, _⟩ := place_of hz h hp
    exact q
  have p3 : Pl 2 111700 (.list ((placesL ts).map tokD)) := a3.list.mono (Nat.le_refl _) (by rw [List.length_map]; omega)
  have hfl := flushA_len ts 0 []
  have a4 : PlAll 0 16 ((flushA ts 0 []).map PyData.int) := .of fun d hd => by
    obtain ⟨m, hm, rfl⟩ := List.mem_map.mp hd
    have := flushA_in ts z 0 [] h (by decide) (fun _ h => nomatch h) m hm
    exact .int this.1 (by omega)
  have p4 : Pl 2 111700 (.list ((flushA ts 0 []).map PyData.int)) := a4.list.mono (by decide) (by rw [List.length_map]; simp only [List.length_nil] at hfl; omega)
  have a5 : PlAll 0 40 ((holesL (placesL ts)).map datV) := .of fun d hd => by
    obtain ⟨v, hv, rfl⟩ := List.mem_map.mp hd
    obtain ⟨p, hp, e⟩ := List.mem_filterMap.mp hv
    obtain ⟨k, v', rfl, _, _, q⟩ := place_of hz h hp
    by_cases hk : k = "hole"
    · simp [hk] at e; rw [← e]; exact q
    · simp [hk] at e
  have hh := holes_le (placesL ts)
  have p5 : Pl 2 111700 (.list ((holesL (placesL ts)).map datV)) := a5.list.mono (by decide) (by rw [List.length_map]; omega)
  have p6 : Pl 2 111700 (.int (placesL ts).length) := (Pl.int (by omega) (by omega)).mono (by decide) (by decide)
  have p7 : Pl 2 111700 (.str (shownP z ts)) := (shownP_pl hz h hn).mono (by decide) (Nat.le_refl _)
  exact ((PlAll.cons p1 (.cons p2 (.cons p3 (.cons p4 (.cons p5 (.cons p6 (.cons p7 .nil))))))).list).mono (by decide) (by simp only [List.length_cons, List.length_nil]; omega)
theorem Plcs.dps {K : PySem.W.Frag} {H : Hp} {vs : List V} {ps : List (List V)} (h : Plcs K H vs ps) (fl : ∀ p ∈ ps, p.all flatV = true) : DpAll K H vs (ps.map tokD) := by
  induction h with
  | nil => exact .nil
  | cons r t ih =>
    obtain ⟨a, rfl, ha⟩ := r
    exact .cons (.tup ha (dp_flats (fl _ List.mem_cons_self))) (ih fun p hp => fl p (List.mem_cons_of_mem _ hp))
theorem dp_ints {K : PySem.W.Frag} {H : Hp} : ∀ acc : List Int, DpAll K H (acc.map V.int) (acc.map PyData.int)
  | [] => .nil
  | a :: acc => .cons (.int a) (dp_ints acc)
/-- four lists that a piece tells -/
def TellAt (K : PySem.W.Frag) (H : Hp) (z : Str) (ts : List (List V)) (a1 a2 a3 a4 : Addr) : Prop :=
  ∃ tvs pvs, H a1 = some (.lst tvs) ∧ Toks K H z tvs ts ∧ H a2 = some (.lst pvs) ∧ Plcs K H pvs (placesL ts) ∧ H a3 = some (.lst ((flushA ts 0 []).map V.int)) ∧ H a4 = some (.lst (holesL (placesL ts)))
theorem TellAt.same {K : PySem.W.Frag} {H H' : Hp} {z : Str} {ts : List (List V)} {a1 a2 a3 a4 : Addr} (s : Same H H') (h : TellAt K H z ts a1 a2 a3 a4) : TellAt K H' z ts a1 a2 a3 a4 := by
  obtain ⟨tvs, pvs, h1, h2, h3, h4, h5, h6⟩ := h
  exact ⟨tvs, pvs, s _ _ h1, h2.same s, s _ _ h3, h4.same s, s _ _ h5, s _ _ h6⟩
theorem TellAt.dp {K : PySem.W.Frag} {H : Hp} {z : Str} {ts : List (List V)} {a1 a2 a3 a4 l : Addr} {n : Int} (h : TellAt K H z ts a1 a2 a3 a4) (hz : SignsOk z)
    (hl : H l = some (.lst [.str z, .ref a1, .ref a2, .ref a3, .ref a4, .int n, .str (shownP z ts)])) (hn : n = (placesL ts).length) : Dp K H (.ref l) (toldD z ts) := by
  obtain ⟨tvs, pvs, h1, h2, h3, h4, h5, h6⟩ := h
  subst hn
  have ok := h2.ok
  have fl : ∀ p ∈ placesL ts, p.all flatV = true := fun p hp => by
    obtain ⟨_, _, _, q, _⟩ := place_of hz ok hp
    exact q
  have fh : (holesL (placesL ts)).all flatV = true := by
    rw [List.all_eq_true]
    intro v hv
    obtain ⟨p, hp, e⟩ := List.mem_filterMap.mp hv
    obtain ⟨k, v', rfl, q, _⟩ := place_of hz ok hp
    by_cases hk : k = "hole"
    · simp [hk] at e
      rw [← e]
      simp only [List.all_cons, Bool.and_eq_true] at q
      exact q.2.1
    · simp [hk] at e
  exact .lst (SqL.of hl) (.cons (.str z) (.cons (.lst (SqL.of h1) h2.dps) (.cons (.lst (SqL.of h3) (h4.dps fl)) (.cons (.lst (SqL.of h5) (dp_ints _)) (.cons (.lst (SqL.of h6) (dp_flats fh)) (.cons (.int _) (.cons (.str _) .nil)))))))
end KW

/-! Slices. -/
namespace KW
open PySem L2
theorem cut_take {xs : List V} {i : Int} (h0 : 0 ≤ i) (h1 : i ≤ xs.length) : cutV xs none (some i) = xs.take i.toNat := by
  unfold cutV
  have e : HT.sIx xs.length xs.length (some i) = i.toNat := by
    unfold HT.sIx
    simp only
    rw [if_neg (by omega)]
    omega
  rw [HT.sIx_none, e]
  rfl
theorem cut_drop {xs : List V} {i : Int} (h0 : 0 ≤ i) (h1 : i ≤ xs.length) : cutV xs (some i) none = xs.drop i.toNat := by
  unfold cutV
  have e : HT.sIx xs.length 0 (some i) = i.toNat := by
    unfold HT.sIx
    simp only
    rw [if_neg (by omega)]
    omega
  rw [HT.sIx_none, e]
  exact List.take_of_length_le (by rw [List.length_drop]; omega)
theorem at_nat {xs : List V} {i : Int} (h0 : 0 ≤ i) (h1 : i < (xs.length : Int)) : ∃ v, xs[i.toNat]? = some v ∧ atI xs i = some v := by
  have hj : i.toNat < xs.length := by omega
  exact ⟨xs[i.toNat], List.getElem?_eq_getElem hj, at_of (j := i.toNat) (by omega) (List.getElem?_eq_getElem hj)⟩
end KW
namespace KW
open PySem L2
theorem paired_rev {α β : Type} {F : α → β → Prop} {l : List α} {m : List β} (h : Paired F l m) : Paired F l.reverse m.reverse := by
  induction h with
  | nil => exact .nil
  | cons r t ih =>
    rw [List.reverse_cons, List.reverse_cons]
    exact paired_app ih (paired_one r)
end KW
namespace KW
open PySem L2
theorem cutS_one (z : Str) (h : 1 ≤ z.length) : cl (cutS z none (some 1)) = (cl z).take 1 := by
  show ((z.cps.toList.drop (HT.sIx z.length 0 none)).take (HT.sIx z.length z.length (some 1) - HT.sIx z.length 0 none)).toArray.toList = _
  have h0 : HT.sIx z.length 0 none = 0 := rfl
  have h1 : HT.sIx z.length z.length (some 1) = 1 := by
    unfold HT.sIx
    simp
    omega
  rw [h0, h1]
  rfl
/-- a word of two signs or more, cut behind the first -/
theorem cut_words {z y : Str} (ho : overB z y = true) (h2 : 2 ≤ y.length) (h3 : y.length ≤ 40) :
    tokV z [.str "text", .str (cutS y none (some 1))] = true ∧ tokV z [.str "text", .str (cutS y (some 1) none)] = true := by
  have ho' : ∀ c ∈ cl y, c ∈ cl z := fun c hc => by
    unfold overB at ho
    exact of_decide_eq_true (List.all_eq_true.mp ho c hc)
  have hl := cl_len y
  have e1 := cutS_one y (by omega)
  have e2 := cut1 y
  have l1 : (cutS y none (some 1)).length = 1 := by
    rw [← cl_len, e1, List.length_take]; omega
  have l2 : (cutS y (some 1) none).length = y.length - 1 := by
    rw [← cl_len, e2, List.length_tail]; omega
  refine ⟨tok_text ?_ (by omega) (by omega), tok_text ?_ (by omega) (by omega)⟩
  · unfold overB
    rw [e1, List.all_eq_true]
    exact fun c hc => decide_eq_true (ho' c (List.mem_of_mem_take hc))
  · unfold overB
    rw [e2, List.all_eq_true]
    exact fun c hc => decide_eq_true (ho' c (List.mem_of_mem_tail hc))
end KW

/-! x != y where x's class has an own == and no own !=. -/
namespace KW
open PySem PySem.Spec PyProof.Rows PySem.SeqAt L2
section
variable {prog : Program} {w : World} {A : Around} {E : Value → Shared → Prop} {s : Shared} {K : PySem.W.Frag} {x C f : Addr} {y : Value} {ox : Obj} {od : Option Obj}
theorem bound_ne {args : List Value} {Q : Option Value → Shared → Prop} (X : K.In s.heap) (I : PySem.W.InstAt s.heap x ox C od) (at_ : PySem.W.findIn K (.ref C) "__ne__" = some (some (.builtin "object.__ne__")))
    (h : wpAny (model prog w) A (call (.builtin "object.__ne__") (.ref x :: args)) (fun v => Q (some v)) E s) : wpAny (model prog w) A (callSpecialIfBound? (.ref x) "__ne__" args) Q E s := by
  have told : wpAny (model prog w) A (call (.builtin "object.__ne__") ([.ref x] ++ args) >>= fun v => pure (some v)) Q E s :=
    wpAny_bind (wpAny_mono h (fun _ _ z => wpAny_pure z) fun _ _ z => z)
  have bind := F.cmp_object.ne.bind (.ref x)
  simp only [callSpecialIfBound?, bindSpecialIfBound?]
  refine wpAny_holding (wpAny_bind (wpAny_bind (wpAny_bind (I.type.here ((PySem.W.looks_findIn X at_).here ?_)))))
  refine wpAny_bind (wpAny_askSetting (wpAny_ite ?_))
  split
  · exact wpAny_bind (wpAny_of_eq bind (wpAny_pure (by exact told)))
  · exact wpAny_tryCatch (wpAny_bind (wpAny_of_eq bind (wpAny_pure (by exact told))))
theorem entry_ne {Q : Fin → Shared → Prop} (hu : A.units < cLine) (X : K.In s.heap) (I : PySem.W.InstAt s.heap x ox C od) (at_ : PySem.W.findIn K (.ref C) "__eq__" = some (some (.ref f))) (fn : PySem.W.isFn K (.ref f) = true)
    (called : wpAny (model prog w) A (call (.ref f) [.ref x, y]) (fun v s' => ∃ b, v = .bool b ∧ Q (.done (.ret (.bool (!b)))) s') E s) : wpAny (model prog w) A (Builtin.«object.__ne__» ⟨[.ref x, y], []⟩) Q E s := by
  unfold Builtin.«object.__ne__»
  repeat (first
    | with_reducible refine wpAny_cRoomFor hu ?_
    | (refine wpAny_bind (m := callSpecialIfBound? (.ref x) (Str.ofString "__eq__") [y])
        (PySem.W.ifBound_K X I at_ fn (wpAny_mono called (fun r s' z => by
          obtain ⟨b, rfl, q⟩ := z
          repeat (first | exact q | exact wpAny_pure q | exact wpAny_truthy_bool q | (refine wpAny_bind (m := truthy (.bool _)) (wpAny_truthy_bool ?_)) | wp_step)) fun _ _ z => z)))
    | wp_step)
theorem try_ne {Q : Option Value → Shared → Prop} (hu : A.units + 1 < cLine) (X : K.In s.heap) (I : PySem.W.InstAt s.heap x ox C od) (mro : PySem.W.mroIn K C (.type "object") = some true)
    (ne_ : PySem.W.findIn K (.ref C) "__ne__" = some (some (.builtin "object.__ne__"))) (at_ : PySem.W.findIn K (.ref C) "__eq__" = some (some (.ref f))) (fn : PySem.W.isFn K (.ref f) = true)
    (called : wpAny (model prog w) A.in1 (call (.ref f) [.ref x, y]) (fun v s' => ∃ b, v = .bool b ∧ Q (some (.bool (!b))) s') E s) : wpAny (model prog w) A (tryCompare (.ref x) "__ne__" y) Q E s := by
  unfold tryCompare
  refine wpAny_bind (bound_ne X I ne_ ?_)
  refine wpAny_call (codeAny_call_builtin F.cmp_object.ne.plain F.cmpEntry_ne (PySem.W.check_slot F.cmpKind_ne F.cmpSplit_ne (I.type.andThen (PySem.W.looks_mroIn X mro)) (F.cmpArgs_ne _ _)
    (entry_ne (A := A.in1) hu X I at_ fn (wpAny_mono called (fun v s' z => ?_) fun _ _ z => z))))
  obtain ⟨b, rfl, q⟩ := z
  exact ⟨b, rfl, wpAny_pure q⟩
theorem rich_ne {T : String} {Q : Value → Shared → Prop} (hu : A.units + 1 < cLine) (X : K.In s.heap) (I : PySem.W.InstAt s.heap x ox C od) (mro : PySem.W.mroIn K C (.type "object") = some true)
    (ne_ : PySem.W.findIn K (.ref C) "__ne__" = some (some (.builtin "object.__ne__"))) (at_ : PySem.W.findIn K (.ref C) "__eq__" = some (some (.ref f))) (fn : PySem.W.isFn K (.ref f) = true)
    (hT : s.TypeIs y T) (sub : PySem.W.subIn K (.type T) (.ref C) = some false)
    (called : wpAny (model prog w) A.in1 (call (.ref f) [.ref x, y]) (fun v s' => ∃ b, v = .bool b ∧ Q (.bool (!b)) s') E s) : wpAny (model prog w) A (richCompare .NotEq (.ref x) y) Q E s := by
  have one : wpAny (model prog w) A (tryCompare (.ref x) "__ne__" y) (fun r s' => ∃ v, r = some v ∧ Q v s') E s :=
    try_ne hu X I mro ne_ at_ fn (wpAny_mono called (fun v s' z => by
      obtain ⟨b, rfl, q⟩ := z
      exact ⟨b, rfl, _, rfl, q⟩) fun _ _ z => z)
  simp only [richCompare, cmpInfo_NotEq, oneThing_ref]
  refine wpAny_holding (wpAny_bind (wpAny_cRoomFor (Nat.lt_of_succ_lt hu) ?_))
  refine wpAny_bind (I.type.here ?_)
  refine wpAny_bind (wpAny_typeOf hT ?_)
  split
  · refine wpAny_bind ((PySem.W.looks_subIn X sub).here ?_)
    simp only [Bool.false_eq_true, if_false]
    refine wpAny_bind (m := tryCompare (.ref x) _ y) (wpAny_mono one (fun r s1 z => ?_) fun _ _ z => z)
    obtain ⟨v, rfl, q⟩ := z
    exact wpAny_pure q
  · rename_i q
    exact absurd (by simp) q
end
/-- lists and texts are of no class of the program -/
theorem sub_list {K : PySem.W.Frag} {C : Addr} : PySem.W.subIn K (.type "list") (.ref C) = some false := by
  have e : fastBuiltinMro "list" = some [.type "list", .type "object"] := by decide +kernel
  show (fastBuiltinMro "list").map (·.contains (.ref C)) = some false
  rw [e]
  simp
theorem sub_str {K : PySem.W.Frag} {C : Addr} : PySem.W.subIn K (.type "str") (.ref C) = some false := by
  have e : fastBuiltinMro "str" = some [.type "str", .type "object"] := by decide +kernel
  show (fastBuiltinMro "str").map (·.contains (.ref C)) = some false
  rw [e]
  simp
section
variable {X : Cx} {k : Nat} {f C : Addr} {fd : FuncData} {ps : List Str} {sp : Sp} {E : XK}
/-- x != y by x's own ==, y a list or a text -/
theorem op_neOwn (F : FnG X.prog X.w X.K X.mg X.base k f fd ps sp) (hr : RoomG (k + 1) X.A) (at_ : PySem.W.findIn X.K (.ref C) "__eq__" = some (some (.ref f))) (fn : PySem.W.isFn X.K (.ref f) = true) (hb : Binds X.K fd ps []) (hx : Passes CX0 X E)
    (ne_ : PySem.W.findIn X.K (.ref C) "__ne__" = some (some (.builtin "object.__ne__"))) (mro : PySem.W.mroIn X.K C (.type "object") = some true) :
    OpR X (compareOp .NotEq) (fun x y H Q => ∃ a dx fs, x = .ref a ∧ H a = some (.ins C dx fs) ∧ ((∃ z, y = .str z) ∨ ∃ l xs, y = .ref l ∧ H l = some (.lst xs)) ∧ sp [.ref a, y] H (fun v H' => ∃ r : Bool, v = .bl r ∧ Q (.bl (!r)) H') E) := by
  intro pins s σ H x y v u Q I rx ry h
  obtain ⟨a, dx, fs, rfl, ha, hy, h⟩ := h
  obtain rfl : v = Value.ref a := rx
  obtain ⟨mA, J, _⟩ := ins_get I.hok ha
  obtain ⟨od, J, _⟩ := J.look
  have small : X.A.units + 1 < cLine := by have := hr.room.un; omega
  have typed : ∃ T, s.TypeIs u T ∧ PySem.W.subIn X.K (.type T) (.ref C) = some false := by
    rcases hy with ⟨z, rfl⟩ | ⟨l, xs, rfl, hl⟩
    · obtain ⟨t, rfl⟩ := ry
      exact ⟨"str", rfl, sub_str⟩
    · obtain rfl : u = Value.ref l := ry
      obtain ⟨_, its, n, _, _, e⟩ := I.lstM hl
      exact ⟨"list", ⟨_, e, rfl⟩, sub_list⟩
  obtain ⟨T, hT, sub⟩ := typed
  show wpAny (model X.prog X.w) X.A (richCompare .NotEq (.ref a) u) (EP X pins σ Q) X.xe s
  refine rich_ne small I.kIn J mro ne_ at_ fn hT sub (wpAny_mono (run_below F (A' := X.A.in1) rfl hr.in1 hb hx I (xs := [.ref a, y]) (.cons rfl (.cons ry .nil)) h) (fun v s' q => ?_) fun _ _ z => z)
  obtain ⟨y, H', I', ry, r, rfl, q⟩ := q
  obtain rfl := ry
  exact ⟨r, rfl, .bl (!r), H', I', rfl, q⟩
end
end KW
namespace KW
open PySem L2
theorem kit_self {K : PySem.W.Frag} {C : Addr} : PySem.W.kitOne K (.ref C) (.ref C) = some true := if_pos (by simp)
theorem kit_not {K : PySem.W.Frag} {C : Addr} {T : String} (ic : PySem.W.isClsIn K C = true) (it : PySem.W.typeIn K (.ref C) = some (.type "type")) (sub : PySem.W.subIn K (.type T) (.ref C) = some false) : PySem.W.kitOne K (.type T) (.ref C) = some false := by
  unfold PySem.W.kitOne
  rw [if_neg (by simp)]
  show (if ((PySem.W.clsIn K C).isSome && PySem.W.typeIn K (.ref C) == some (.type "type")) = true then PySem.W.subIn K (.type T) (.ref C) else none) = some false
  have h : (PySem.W.clsIn K C).isSome = true := ic
  rw [h, it, if_pos (by decide), sub]
end KW
namespace KW
open PySem L2
theorem uE {A : Around} {k : Nat} (hr : Room k A) : A.units + 64 < cLine := by have := hr.un; omega
/-- a list that is not the bag's is not where the bag is -/
theorem ne_bag {H : Hp} {b c a : Addr} {xs : List V} (hb : BagAt H b c) (h : H a = some (.lst xs)) (no : ∀ p q n : Int, xs ≠ [.int p, .int q, .int n, .ref c]) : a ≠ b := by
  obtain ⟨p, q, n, cs, e, _⟩ := hb
  intro eq
  rw [eq, e] at h
  exact no p q n (HO.lst.inj (Option.some.inj h)).symm
theorem toks_no {K : PySem.W.Frag} {H : Hp} {z : Str} {vs : List V} {ts : List (List V)} {c : Addr} (h : Toks K H z vs ts) : ∀ p q n : Int, vs ≠ [.int p, .int q, .int n, .ref c] := by
  rintro p q n rfl
  cases h with
  | cons r _ =>
    obtain ⟨⟨a, e, _⟩, _⟩ := r
    cases e
theorem plcs_no {K : PySem.W.Frag} {H : Hp} {vs : List V} {ps : List (List V)} {c : Addr} (h : Plcs K H vs ps) : ∀ p q n : Int, vs ≠ [.int p, .int q, .int n, .ref c] := by
  rintro p q n rfl
  cases h with
  | cons r _ =>
    obtain ⟨a, e, _⟩ := r
    cases e
theorem PieceAt.keepBag {K : PySem.W.Frag} {C : Addr} {H H' : Hp} {a b c : Addr} {z : Str} {ts : List (List V)} (k : KeepB b H H') (hb : BagAt H b c) (h : PieceAt K C H a z ts) : PieceAt K C H' a z ts := by
  obtain ⟨dx, l, p, tvs, pvs, h1, h2, h3, h4, h5⟩ := h
  have na : a ≠ b := by
    obtain ⟨_, _, _, _, e, _⟩ := hb
    intro eq
    rw [eq, e] at h1
    cases h1
  exact ⟨dx, l, p, tvs, pvs, k _ _ na h1, k _ _ (ne_bag hb h2 (toks_no h3)) h2, h3.keep k hb.lst, k _ _ (ne_bag hb h4 (plcs_no h5)) h4, h5.keep k hb.lst⟩
theorem ints_no {acc : List Int} {c : Addr} : ∀ p q n : Int, acc.map V.int ≠ [.int p, .int q, .int n, .ref c] := by
  intro p q n e
  have h := congrArg (fun l => l[3]?) e
  simp at h
theorem holes_no {ps : List (List V)} {z : Str} {ts : List (List V)} {c : Addr} (hz : SignsOk z) (ok : ∀ t ∈ ts, tokV z t = true) : ∀ p q n : Int, holesL (placesL ts) ≠ [.int p, .int q, .int n, .ref c] := by
  intro p q n e
  have hm : (V.ref c) ∈ holesL (placesL ts) := by rw [e]; simp
  obtain ⟨pl, hp, e2⟩ := List.mem_filterMap.mp hm
  obtain ⟨k, v, rfl, fl, _⟩ := place_of hz ok hp
  by_cases hk : k = "hole"
  · simp [hk] at e2
    subst e2
    simp [flatV] at fl
  · simp [hk] at e2
theorem TellAt.keepBag {K : PySem.W.Frag} {H H' : Hp} {z : Str} {ts : List (List V)} {b c a1 a2 a3 a4 : Addr} (hz : SignsOk z) (k : KeepB b H H') (hb : BagAt H b c) (h : TellAt K H z ts a1 a2 a3 a4) : TellAt K H' z ts a1 a2 a3 a4 := by
  obtain ⟨tvs, pvs, h1, h2, h3, h4, h5, h6⟩ := h
  exact ⟨tvs, pvs, k _ _ (ne_bag hb h1 (toks_no h2)) h1, h2.keep k hb.lst, k _ _ (ne_bag hb h3 (plcs_no h4)) h3, h4.keep k hb.lst, k _ _ (ne_bag hb h5 ints_no) h5, k _ _ (ne_bag hb h6 (holes_no (ps := []) hz h2.ok)) h6⟩
end KW
namespace KW
open PySem L2
theorem PlAll.item {n w : Nat} : ∀ {ds : List PyData} {v : Nat}, PyData.canLayAll0 ds = true → PyData.depthAll ds ≤ n → PyData.weightAll ds ≤ v → PyData.showableAll ds = true → PyData.intsShortAll 13 ds = true → ∀ d ∈ ds, Pl n v d
  | [], _, _, _, _, _, _ => fun d hd => nomatch hd
  | e :: ds, v, h1, h2, h3, h4, h5 => fun d hd => by
    simp only [PyData.canLayAll0, Bool.and_eq_true] at h1
    simp only [PyData.depthAll] at h2
    simp only [PyData.weightAll] at h3
    simp only [PyData.showableAll, Bool.and_eq_true] at h4
    simp only [PyData.intsShortAll, Bool.and_eq_true] at h5
    rcases List.mem_cons.mp hd with rfl | hd
    · exact ⟨h1.1, Nat.le_trans (Nat.le_max_left _ _) h2, by omega, h4.1, h5.1⟩
    · exact PlAll.item (n := n) (w := w) (v := v) h1.2 (Nat.le_trans (Nat.le_max_right _ _) h2) (by omega) h4.2 h5.2 d hd
theorem Pl.item {n w : Nat} {ds : List PyData} (h : Pl n w (.list ds)) {d : PyData} (hd : d ∈ ds) : Pl n w d := by
  have h1 := h.lay
  have h2 := h.deep
  have h3 := h.wt
  have h4 := h.told
  have h5 := h.small
  simp only [PyData.canLay0] at h1
  simp only [PyData.depth] at h2
  simp only [PyData.weight] at h3
  simp only [PyData.showable] at h4
  simp only [PyData.intsShort] at h5
  exact PlAll.item (n := n) (w := w) h1 (by omega) h3 h4 h5 d hd
theorem holes_flat {z : Str} {ts : List (List V)} (hz : SignsOk z) (ok : ∀ t ∈ ts, tokV z t = true) : (holesL (placesL ts)).all flatV = true := by
  rw [List.all_eq_true]
  intro v hv
  obtain ⟨p, hp, e⟩ := List.mem_filterMap.mp hv
  obtain ⟨k, v', rfl, q, _⟩ := place_of hz ok hp
  by_cases hk : k = "hole"
  · simp [hk] at e
    rw [← e]
    simp only [List.all_cons, Bool.and_eq_true] at q
    exact q.2.1
  · simp [hk] at e
theorem TellAt.dps {K : PySem.W.Frag} {H : Hp} {z : Str} {ts : List (List V)} {a1 a2 a3 a4 : Addr} (h : TellAt K H z ts a1 a2 a3 a4) (hz : SignsOk z) :
    Dp K H (.ref a1) (.list (ts.map tokD)) ∧ Dp K H (.ref a2) (.list ((placesL ts).map tokD)) ∧ Dp K H (.ref a3) (.list ((flushA ts 0 []).map PyData.int)) ∧ Dp K H (.ref a4) (.list ((holesL (placesL ts)).map datV)) := by
  obtain ⟨tvs, pvs, h1, h2, h3, h4, h5, h6⟩ := h
  have ok := h2.ok
  have fl : ∀ p ∈ placesL ts, p.all flatV = true := fun p hp => by
    obtain ⟨_, _, _, q, _⟩ := place_of hz ok hp
    exact q
  have fh : (holesL (placesL ts)).all flatV = true := by
    rw [List.all_eq_true]
    intro v hv
    obtain ⟨p, hp, e⟩ := List.mem_filterMap.mp hv
    obtain ⟨k, v', rfl, q, _⟩ := place_of hz ok hp
    by_cases hk : k = "hole"
    · simp [hk] at e
      rw [← e]
      simp only [List.all_cons, Bool.and_eq_true] at q
      exact q.2.1
    · simp [hk] at e
  exact ⟨.lst (SqL.of h1) h2.dps, .lst (SqL.of h3) (h4.dps fl), .lst (SqL.of h5) (dp_ints _), .lst (SqL.of h6) (dp_flats fh)⟩
end KW
namespace KW
open PySem L2
/-- the signs that some laws draw -/
def signs7 : List Str := ["ab", "abc", "xz", "bdfhjl", "mnoz", "ay", "cegkw"]
/-- signs with one more: z behind them, or a ahead of them -/
theorem wide_of {z : Str} (h : z ∈ signs7) : SignsOk z ∧ ∃ (c : Nat) (wz : Str), atI z.cps.toList (-1) = some c ∧
    ((decide ((⟨#[c]⟩ : Str).cps.toList < (Str.ofString "z").cps.toList) = true ∧ wz = z ++ Str.ofString "z") ∨ (decide ((⟨#[c]⟩ : Str).cps.toList < (Str.ofString "z").cps.toList) = false ∧ wz = Str.ofString "a" ++ z)) ∧
    (wz.length < 7 → SignsOk wz ∧ ¬ z = wz) ∧ wz.length ≤ 7 := by
  simp only [signs7, List.mem_cons, List.not_mem_nil, or_false] at h
  rcases h with rfl | rfl | rfl | rfl | rfl | rfl | rfl
  · exact ⟨by unfold SignsOk; decide +kernel, 98, _, by decide +kernel, .inl ⟨by decide +kernel, rfl⟩, fun _ => ⟨by unfold SignsOk; decide +kernel, by decide +kernel⟩, by decide +kernel⟩
  · exact ⟨by unfold SignsOk; decide +kernel, 99, _, by decide +kernel, .inl ⟨by decide +kernel, rfl⟩, fun _ => ⟨by unfold SignsOk; decide +kernel, by decide +kernel⟩, by decide +kernel⟩
  · exact ⟨by unfold SignsOk; decide +kernel, 122, _, by decide +kernel, .inr ⟨by decide +kernel, rfl⟩, fun _ => ⟨by unfold SignsOk; decide +kernel, by decide +kernel⟩, by decide +kernel⟩
  · exact ⟨by unfold SignsOk; decide +kernel, 108, _, by decide +kernel, .inl ⟨by decide +kernel, rfl⟩, fun h => absurd h (by decide +kernel), by decide +kernel⟩
  · exact ⟨by unfold SignsOk; decide +kernel, 122, _, by decide +kernel, .inr ⟨by decide +kernel, rfl⟩, fun _ => ⟨by unfold SignsOk; decide +kernel, by decide +kernel⟩, by decide +kernel⟩
  · exact ⟨by unfold SignsOk; decide +kernel, 121, _, by decide +kernel, .inl ⟨by decide +kernel, rfl⟩, fun _ => ⟨by unfold SignsOk; decide +kernel, by decide +kernel⟩, by decide +kernel⟩
  · exact ⟨by unfold SignsOk; decide +kernel, 119, _, by decide +kernel, .inl ⟨by decide +kernel, rfl⟩, fun _ => ⟨by unfold SignsOk; decide +kernel, by decide +kernel⟩, by decide +kernel⟩
end KW
namespace KW
open PySem L2
/-- what is a token over some signs is one over more -/
theorem tok_mono {z w : Str} (hs : ∀ c ∈ cl z, c ∈ cl w) (hl : z.length ≤ w.length) {t : List V} (h : tokV z t = true) : tokV w t = true := by
  have ov : ∀ {y : Str}, overB z y = true → overB w y = true := fun {y} ho => by
    unfold overB at *
    rw [List.all_eq_true] at *
    exact fun c hc => decide_eq_true (hs c (of_decide_eq_true (ho c hc)))
  obtain ⟨kd, rest, rfl, hk⟩ := tok_inv h
  rcases hk with ⟨rfl, rfl⟩ | ⟨y, rfl, rfl, h1, h2, h3⟩ | ⟨y, rfl, rfl, h1⟩ | ⟨d, n, hkd, rfl, h1, h2, h3, h4⟩
  · exact tok_flush
  · exact tok_text (ov h1) h2 h3
  · refine tok_any ?_
    unfold choiceB at *
    simp only [Bool.and_eq_true, decide_eq_true_eq] at *
    exact ⟨⟨⟨h1.1.1.1, by omega⟩, ov h1.1.2⟩, h1.2⟩
  · rcases hkd with rfl | rfl
    · exact tok_copy h1 h2 h3 h4
    · exact tok_say h1 h2 h3 h4
theorem Toks.mono {K : PySem.W.Frag} {H : Hp} {z w : Str} (hs : ∀ c ∈ cl z, c ∈ cl w) (hl : z.length ≤ w.length) {vs : List V} {ts : List (List V)} (h : Toks K H z vs ts) : Toks K H w vs ts :=
  paired_mono h fun _ _ t => ⟨t.1, tok_mono hs hl t.2⟩
theorem cl_app (x y : Str) : cl (x ++ y) = cl x ++ cl y := by
  show (x.cps ++ y.cps).toList = _
  rw [Array.toList_append]
end KW
namespace KW
open PySem L2
theorem pf_inj {z w : Str} {l p l' p' : Addr} (h : pf z l p = pf w l' p') : l = l' ∧ p = p' := by
  have h1 := congrArg (fun f => f.lookup ("_tokens" : Str)) h
  have h2 := congrArg (fun f => f.lookup ("_places" : Str)) h
  simp only [pf_tokens, pf_places] at h1 h2
  exact ⟨V.ref.inj (Option.some.inj h1), V.ref.inj (Option.some.inj h2)⟩
/-- the piece's own lists were not there ahead -/
def NewIn (C : Addr) (H H' : Hp) (a : Addr) : Prop := ∀ (dx l p : Addr) (z : Str), H' a = some (.ins C dx (pf z l p)) → H l = none ∧ H p = none
end KW

/-! What stood, stands: lemmas by which a search goes back through the heaps. -/
namespace KW
open PySem L2
theorem same_get {H H' : Hp} {a : Addr} {o : HO} (s : Same H H') (h : H a = some o) : H' a = some o := s _ _ h
theorem keep_get {b : Addr} {H H' : Hp} {a : Addr} {o : HO} (k : KeepB b H H') (n : a ≠ b) (h : H a = some o) : H' a = some o := k _ _ n h
theorem upd_get {H : Hp} {p a : Addr} {o x : HO} (n : a ≠ p) (h : H a = some x) : upd H p o a = some x := by rw [upd_ne n]; exact h
theorem upd_new {H : Hp} {p a : Addr} {o x : HO} (hp : H p = none) (h : H a = some x) : upd H p o a = some x := upd_get (ne_of_none h hp) h
theorem none_ne {H : Hp} {a b : Addr} {o : HO} (h' : H b = none) (h : H a = some o) : a ≠ b := ne_of_none h h'
theorem none_ne' {H : Hp} {a b : Addr} {o : HO} (h' : H b = none) (h : H a = some o) : b ≠ a := (ne_of_none h h').symm
theorem free_same {H H' : Hp} {p : Addr} (h : H' p = none) (s : Same H H') : H p = none := s.free h
theorem free_upd {H : Hp} {p q : Addr} {o : HO} (h : upd H q o p = none) : H p = none := by
  by_cases e : p = q
  · subst e; rw [upd_same] at h; cases h
  · rwa [upd_ne e] at h
theorem ne_upd {H : Hp} {p q : Addr} {o : HO} (h : upd H q o p = none) : p ≠ q := by
  intro e
  subst e; rw [upd_same] at h; cases h
/-- not of a bag's form -/
def NotBag : HO → Prop
  | .lst [.int _, .int _, .int _, .ref _] => False
  | _ => True
theorem ne_bagO {H : Hp} {b c a : Addr} {o : HO} (hb : BagAt H b c) (h : H a = some o) (no : NotBag o) : a ≠ b := by
  obtain ⟨p, q, n, cs, e, _⟩ := hb
  intro eq
  rw [eq, e] at h
  cases h
  exact no
theorem notBag_ints (xs : List Int) : NotBag (.lst (xs.map V.int)) := by
  match xs with
  | [] => trivial
  | [_] => trivial
  | [_, _] => trivial
  | [_, _, _] => trivial
  | [_, _, _, _] => trivial
  | _ :: _ :: _ :: _ :: _ :: _ => trivial
theorem notBag_toks {K : PySem.W.Frag} {H : Hp} {z : Str} {vs : List V} {ts : List (List V)} (h : Toks K H z vs ts) : NotBag (.lst vs) := by
  cases h with
  | nil => trivial
  | cons r _ => obtain ⟨⟨a, rfl, _⟩, _⟩ := r; trivial
theorem notBag_plcs {K : PySem.W.Frag} {H : Hp} {vs : List V} {ps : List (List V)} (h : Plcs K H vs ps) : NotBag (.lst vs) := by
  cases h with
  | nil => trivial
  | cons r _ => obtain ⟨a, rfl, _⟩ := r; trivial
theorem bag_get {H H' : Hp} {b c a : Addr} {o : HO} (k : KeepB b H H') (hb : BagAt H b c) (no : NotBag o) (h : H a = some o) : H' a = some o := k _ _ (ne_bagO hb h no) h
theorem TupAt.bag {K : PySem.W.Frag} {H H' : Hp} {b c : Addr} {v : V} {xs : List V} (k : KeepB b H H') (hb : BagAt H b c) (h : TupAt K H v xs) : TupAt K H' v xs := h.keep k hb.lst.no
theorem TokAt.bag {K : PySem.W.Frag} {H H' : Hp} {b c : Addr} {z : Str} {v : V} {xs : List V} (k : KeepB b H H') (hb : BagAt H b c) (h : TokAt K H z v xs) : TokAt K H' z v xs := TokAt.keep k hb.lst h
theorem Toks.bag {K : PySem.W.Frag} {H H' : Hp} {b c : Addr} {z : Str} {vs : List V} {ts : List (List V)} (k : KeepB b H H') (hb : BagAt H b c) (h : Toks K H z vs ts) : Toks K H' z vs ts := h.keep k hb.lst
theorem Plcs.bag {K : PySem.W.Frag} {H H' : Hp} {b c : Addr} {vs : List V} {ps : List (List V)} (k : KeepB b H H') (hb : BagAt H b c) (h : Plcs K H vs ps) : Plcs K H' vs ps := h.keep k hb.lst
theorem Toks.put {K : PySem.W.Frag} {H : Hp} {D : Addr} {xs ys : List V} {z : Str} {vs : List V} {ts : List (List V)} (hD : H D = some (.lst xs)) (h : Toks K H z vs ts) : Toks K (upd H D (.lst ys)) z vs ts := h.keep KeepB.put (lst_lst hD)
theorem Plcs.put {K : PySem.W.Frag} {H : Hp} {D : Addr} {xs ys : List V} {vs : List V} {ts : List (List V)} (hD : H D = some (.lst xs)) (h : Plcs K H vs ts) : Plcs K (upd H D (.lst ys)) vs ts := h.keep KeepB.put (lst_lst hD)
theorem TupAt.put {K : PySem.W.Frag} {H : Hp} {D : Addr} {xs ys : List V} {v : V} {ts : List V} (hD : H D = some (.lst xs)) (h : TupAt K H v ts) : TupAt K (upd H D (.lst ys)) v ts := h.keep KeepB.put (lst_lst hD).no
theorem TokAt.put {K : PySem.W.Frag} {H : Hp} {D : Addr} {xs ys : List V} {z : Str} {v : V} {ts : List V} (hD : H D = some (.lst xs)) (h : TokAt K H z v ts) : TokAt K (upd H D (.lst ys)) z v ts := TokAt.keep KeepB.put (lst_lst hD) h
theorem SqL.same' {K : PySem.W.Frag} {H H' : Hp} {a : Addr} {xs : List V} (e : Same H H') (h : SqL K H a xs) : SqL K H' a xs := by
  rcases h with (h | ⟨o, h⟩) | h
  · exact .inl (.inl (e _ _ h))
  · exact .inl (.inr ⟨o, e _ _ h⟩)
  · exact .inr h
theorem Paired.tup_keep {K : PySem.W.Frag} {H H' : Hp} (s : Same H H') {vs : List V} {ps : List (List V)} (h : Plcs K H vs ps) : Plcs K H' vs ps := h.same s
theorem bag_put {H : Hp} {b c D : Addr} {xs ys : List V} (h : BagAt H b c) (h1 : D ≠ b) (h2 : D ≠ c) : BagAt (upd H D (.lst ys)) b c := bag_keep h KeepB.put h1 h2
end KW

/-! Places put together to the fewest tokens. -/
namespace KW
open PySem L2
/-- how a place looks -/
inductive PlOk (z : Str) : List V → Prop where
  | sign {c : Nat} : c ∈ cl z → PlOk z [.str "sign", .str (sg c)]
  | hole {y : Str} : choiceB z y = true → PlOk z [.str "hole", .str y]
  | copy {d : Int} : 1 ≤ d → d ≤ 12 → PlOk z [.str "copy", .int d]
  | say {d : Int} : 1 ≤ d → d ≤ 12 → PlOk z [.str "say", .int d]
theorem plOk_of {z : Str} {ts : List (List V)} (h : ∀ t ∈ ts, tokV z t = true) : ∀ p ∈ placesL ts, PlOk z p := by
  intro p hp
  unfold placesL at hp
  obtain ⟨t, ht, hp⟩ := List.mem_flatMap.mp hp
  obtain ⟨kd, rest, rfl, hk⟩ := tok_inv (h t ht)
  rcases hk with ⟨rfl, rfl⟩ | ⟨y, rfl, rfl, h1, h2, h3⟩ | ⟨y, rfl, rfl, h1⟩ | ⟨d, n, hkd, rfl, h1, h2, h3, h4⟩
  · exact nomatch (show p ∈ ([] : List (List V)) from hp)
  · rw [place_text] at hp
    obtain ⟨c, hc, rfl⟩ := List.mem_map.mp hp
    unfold overB at h1
    exact .sign (of_decide_eq_true ((List.all_eq_true.mp h1) c hc))
  · rw [place_any] at hp
    rw [List.mem_singleton.mp hp]
    exact .hole h1
  · have hp : p ∈ List.replicate n.toNat [V.str kd, V.int d] := hp
    rw [List.eq_of_mem_replicate hp]
    rcases hkd with rfl | rfl
    · exact .copy h1 h2
    · exact .say h1 h2
/-- the token of one place -/
def tokOf : List V → List V
  | [.str k, v] => if k = "sign" then [.str "text", v] else if k = "hole" then [.str "any", v] else [.str k, v, .int 1]
  | t => t
theorem tokOf_sign {v : V} : tokOf [.str "sign", v] = [.str "text", v] := by
  simp only [tokOf, if_true]
theorem tokOf_hole {v : V} : tokOf [.str "hole", v] = [.str "any", v] := by
  have h : ¬ (("hole" : Str) = "sign") := by decide +kernel
  simp only [tokOf, if_neg h, if_true]
theorem tokOf_copy {v : V} : tokOf [.str "copy", v] = [.str "copy", v, .int 1] := by
  have h : ¬ (("copy" : Str) = "sign") := by decide +kernel
  have h' : ¬ (("copy" : Str) = "hole") := by decide +kernel
  simp only [tokOf, if_neg h, if_neg h']
theorem tokOf_say {v : V} : tokOf [.str "say", v] = [.str "say", v, .int 1] := by
  have h : ¬ (("say" : Str) = "sign") := by decide +kernel
  have h' : ¬ (("say" : Str) = "hole") := by decide +kernel
  simp only [tokOf, if_neg h, if_neg h']
/-- whether two tokens side by side are one -/
def goTog : List V → List V → Bool
  | [.str a, _], [.str b, _] => decide (a = "text") && decide (b = "text")
  | [.str a, x, _], [.str b, y, _] => decide (a = b) && decide (x = y)
  | _, _ => false
def joinT : List V → List V → List V
  | [.str a, .str x], [_, .str y] => [.str a, .str (x ++ y)]
  | [.str a, x, .int m], [_, _, .int n] => [.str a, x, .int (m + n)]
  | t, _ => t
def addTok (acc : List (List V)) (t : List V) : List (List V) :=
  match acc.getLast? with
  | some l => if goTog l t = true then acc.dropLast ++ [joinT l t] else acc ++ [t]
  | none => acc ++ [t]
abbrev flT : List V := [.str "flush"]
def mergeA (f : Int → Bool) : List (List V) → Int → List (List V) → List (List V)
  | [], n, acc => if f n = true then acc ++ [flT] else acc
  | p :: ps, n, acc => mergeA f ps (n + 1) (addTok (if f n = true then acc ++ [flT] else acc) (tokOf p))
def mergeL (f : Int → Bool) (ps : List (List V)) : List (List V) := mergeA f ps 0 []

/-! ### what one place more does -/
theorem app_drop {l : List V} {acc : List (List V)} (h : acc.getLast? = some l) : acc = acc.dropLast ++ [l] := by
  obtain ⟨ys, rfl⟩ := List.getLast?_eq_some_iff.mp h
  simp
theorem tok_one {z : Str} {p : List V} (h : PlOk z p) : tokV z (tokOf p) = true ∧ sizeV (tokOf p) = 1 ∧ placeT (tokOf p) = [p] := by
  cases h with
  | sign hc => rw [tokOf_sign]; exact ⟨tok_sign hc, size_sign, by rw [place_text]; rfl⟩
  | hole hy => rw [tokOf_hole]; exact ⟨tok_any hy, sizeV_any _, place_any⟩
  | copy h1 h2 => rw [tokOf_copy]; exact ⟨tok_copy h1 h2 (by decide) (by decide), rfl, rfl⟩
  | say h1 h2 => rw [tokOf_say]; exact ⟨tok_say h1 h2 (by decide) (by decide), rfl, rfl⟩
theorem over_app {z x y : Str} (hx : overB z x = true) (hy : overB z y = true) : overB z (x ++ y) = true := by
  unfold overB at *
  rw [cl_app, List.all_append, hx, hy]
  rfl
theorem nat_ : ¬ (("any" : Str) = "text") := by decide +kernel
/-- a join: what it writes -/
theorem join_ok {z : Str} {l p : List V} (hl : tokV z l = true) (hp : PlOk z p) (g : goTog l (tokOf p) = true) (hs : sizeV l + 1 ≤ 40) :
    tokV z (joinT l (tokOf p)) = true ∧ sizeV (joinT l (tokOf p)) = sizeV l + 1 ∧ placeT (joinT l (tokOf p)) = placeT l ++ [p] ∧ (∃ a b r, joinT l (tokOf p) = a :: b :: r) ∧ (∃ a b r, l = a :: b :: r) := by
  obtain ⟨kd, rest, rfl, hk⟩ := tok_inv hl
  cases hp with
  | sign hc =>
    rw [tokOf_sign] at g ⊢
    rcases hk with ⟨rfl, rfl⟩ | ⟨y, rfl, rfl, h1, h2, h3⟩ | ⟨y, rfl, rfl, h1⟩ | ⟨d, n, hkd, rfl, h1, h2, h3, h4⟩
    · exact absurd g (by simp [goTog])
    · rw [sizeV_text] at hs
      rename_i c
      have hl2 : (y ++ sg c).length = y.length + 1 := app_len _ _
      refine ⟨tok_text (over_app h1 (over_of (z := z) (cs := [c]) fun x hx => by rw [List.mem_singleton.mp hx]; exact hc)) (by omega) (by omega), ?_, ?_, ⟨_, _, _, rfl⟩, ⟨_, _, _, rfl⟩⟩
      · show sizeV [.str "text", .str (y ++ sg c)] = _
        rw [sizeV_text, sizeV_text, hl2]; omega
      · show placeT [.str "text", .str (y ++ sg c)] = _
        rw [place_text, place_text, cl_app, List.map_append]
        rfl
    · exact absurd g (by simp only [goTog, decide_eq_false nat_]; simp)
    · exact absurd g (by simp [goTog])
  | hole hy =>
    rw [tokOf_hole] at g
    rcases hk with ⟨rfl, rfl⟩ | ⟨y, rfl, rfl, h1, h2, h3⟩ | ⟨y, rfl, rfl, h1⟩ | ⟨d, n, hkd, rfl, h1, h2, h3, h4⟩
    · exact absurd g (by simp [goTog])
    · exact absurd g (by simp only [goTog, decide_eq_false nat_]; simp)
    · exact absurd g (by simp only [goTog, decide_eq_false nat_]; simp)
    · exact absurd g (by simp [goTog])
  | copy e1 e2 =>
    rw [tokOf_copy] at g ⊢
    rcases hk with ⟨rfl, rfl⟩ | ⟨y, rfl, rfl, h1, h2, h3⟩ | ⟨y, rfl, rfl, h1⟩ | ⟨d, n, hkd, rfl, h1, h2, h3, h4⟩
    · exact absurd g (by simp [goTog])
    · exact absurd g (by simp [goTog])
    · exact absurd g (by simp [goTog])
    · simp only [goTog, Bool.and_eq_true, decide_eq_true_eq] at g
      obtain ⟨rfl, g2⟩ := g
      cases g2
      have hs : n + 1 ≤ 40 := hs
      refine ⟨tok_copy h1 h2 (by omega) hs, rfl, ?_, ⟨_, _, _, rfl⟩, ⟨_, _, _, rfl⟩⟩
      show List.replicate (n + 1).toNat _ = List.replicate n.toNat _ ++ [_]
      rw [show (n + 1).toNat = n.toNat + 1 by omega, List.replicate_succ']
  | say e1 e2 =>
    rw [tokOf_say] at g ⊢
    rcases hk with ⟨rfl, rfl⟩ | ⟨y, rfl, rfl, h1, h2, h3⟩ | ⟨y, rfl, rfl, h1⟩ | ⟨d, n, hkd, rfl, h1, h2, h3, h4⟩
    · exact absurd g (by simp [goTog])
    · exact absurd g (by simp [goTog])
    · exact absurd g (by simp [goTog])
    · simp only [goTog, Bool.and_eq_true, decide_eq_true_eq] at g
      obtain ⟨rfl, g2⟩ := g
      cases g2
      have hs : n + 1 ≤ 40 := hs
      refine ⟨tok_say h1 h2 (by omega) hs, rfl, ?_, ⟨_, _, _, rfl⟩, ⟨_, _, _, rfl⟩⟩
      show List.replicate (n + 1).toNat _ = List.replicate n.toNat _ ++ [_]
      rw [show (n + 1).toNat = n.toNat + 1 by omega, List.replicate_succ']
/-! ### flushes of joined lists -/
theorem flushA_app : ∀ (ts us : List (List V)) (n : Int) (acc : List Int), (∀ t ∈ ts, ∃ k, (t = [.str k] ∧ sizeV t = 0) ∨ ∃ a b r, t = a :: b :: r) → flushA (ts ++ us) n acc = flushA us (n + tsize ts) (flushA ts n acc)
  | [], us, n, acc, _ => by rw [tsize_nil, Int.add_zero]; rfl
  | t :: ts, us, n, acc, h => by
    have ih := fun n acc => flushA_app ts us n acc fun u hu => h u (List.mem_cons_of_mem _ hu)
    rw [List.cons_append, tsize_cons]
    obtain ⟨k, ⟨rfl, h0⟩ | ⟨a, b, r, rfl⟩⟩ := h t List.mem_cons_self
    · rw [flushA_flush, ih, h0, Int.zero_add]
      rfl
    · have e : ∀ us, flushA ((a :: b :: r) :: us) n acc = flushA us (n + sizeV (a :: b :: r)) acc := fun us => by cases a <;> rfl
      rw [e, e, ih, Int.add_assoc]
theorem shapes {z : Str} {ts : List (List V)} (h : ∀ t ∈ ts, tokV z t = true) : ∀ t ∈ ts, ∃ k, (t = [.str k] ∧ sizeV t = 0) ∨ ∃ a b r, t = a :: b :: r := fun t ht => by
  obtain ⟨kd, rest, rfl, hk⟩ := tok_inv (h t ht)
  rcases hk with ⟨rfl, rfl⟩ | ⟨y, rfl, rfl, h1, h2, h3⟩ | ⟨y, rfl, rfl, h1⟩ | ⟨d, n, hkd, rfl, h1, h2, h3, h4⟩
  · exact ⟨_, .inl ⟨rfl, rfl⟩⟩
  · exact ⟨"x", .inr ⟨_, _, _, rfl⟩⟩
  · exact ⟨"x", .inr ⟨_, _, _, rfl⟩⟩
  · exact ⟨"x", .inr ⟨_, _, _, rfl⟩⟩
theorem flushA_big {a b : V} {r : List V} {us : List (List V)} {n : Int} {acc : List Int} : flushA ((a :: b :: r) :: us) n acc = flushA us (n + sizeV (a :: b :: r)) acc := by cases a <;> rfl
/-- one place more -/
structure Grown (z : Str) (ps : List (List V)) (fl : List Int) (acc : List (List V)) : Prop where
  ok : ∀ t ∈ acc, tokV z t = true
  places : placesL acc = ps
  flushes : flushA acc 0 [] = fl
theorem Grown.size {z : Str} {ps : List (List V)} {fl : List Int} {acc : List (List V)} (g : Grown z ps fl acc) : tsize acc = ps.length := by
  rw [← places_len g.ok, g.places]
theorem Grown.flush {z : Str} {ps : List (List V)} {fl : List Int} {acc : List (List V)} (g : Grown z ps fl acc) : Grown z ps (if (ps.length : Int) ∈ fl then fl else fl ++ [(ps.length : Int)]) (acc ++ [flT]) := by
  refine ⟨fun t ht => ?_, ?_, ?_⟩
  · rcases List.mem_append.mp ht with h | h
    · exact g.ok t h
    · rw [List.mem_singleton.mp h]; exact tok_flush
  · rw [places_app, g.places, places_one]
    exact List.append_nil _
  · rw [flushA_app _ _ _ _ (shapes g.ok), g.flushes, g.size, Int.zero_add]
    rfl
theorem Grown.add {z : Str} {ps : List (List V)} {fl : List Int} {acc : List (List V)} (g : Grown z ps fl acc) {p : List V} (hp : PlOk z p) (hs : ps.length + 1 ≤ 40) : Grown z (ps ++ [p]) fl (addTok acc (tokOf p)) := by
  obtain ⟨o1, o2, o3⟩ := tok_one hp
  have plain : Grown z (ps ++ [p]) fl (acc ++ [tokOf p]) := by
    refine ⟨fun t ht => ?_, ?_, ?_⟩
    · rcases List.mem_append.mp ht with h | h
      · exact g.ok t h
      · rw [List.mem_singleton.mp h]; exact o1
    · rw [places_app, g.places, places_one, o3]
    · rw [flushA_app _ _ _ _ (shapes g.ok), g.flushes]
      obtain ⟨a, b, r, e⟩ : ∃ a b r, tokOf p = a :: b :: r := by
        cases hp with
        | sign h => rw [tokOf_sign]; exact ⟨_, _, _, rfl⟩
        | hole h => rw [tokOf_hole]; exact ⟨_, _, _, rfl⟩
        | copy h h' => rw [tokOf_copy]; exact ⟨_, _, _, rfl⟩
        | say h h' => rw [tokOf_say]; exact ⟨_, _, _, rfl⟩
      rw [e, flushA_big]
      rfl
  unfold addTok
  split
  · rename_i l hl
    by_cases hg : goTog l (tokOf p) = true
    · rw [if_pos hg]
      have e := app_drop hl
      have okl := g.ok l (by rw [e]; simp)
      have okd : ∀ t ∈ acc.dropLast, tokV z t = true := fun t ht => g.ok t (List.dropLast_subset _ ht)
      have sz := g.size
      have ts : tsize acc = tsize acc.dropLast + sizeV l := by
        conv => lhs; rw [e]
        rw [tsize_app, tsize_one]
      have td := tsize_nn okd
      obtain ⟨j1, j2, j3, ⟨a, b, r, j4⟩, ⟨a', b', r', j5⟩⟩ := join_ok okl hp hg (by omega)
      refine ⟨fun t ht => ?_, ?_, ?_⟩
      · rcases List.mem_append.mp ht with h | h
        · exact okd t h
        · rw [List.mem_singleton.mp h]; exact j1
      · rw [places_app, places_one, j3, ← List.append_assoc, ← g.places]
        conv => rhs; rw [e]
        rw [places_app, places_one]
      · rw [flushA_app _ _ _ _ (shapes okd), j4, flushA_big]
        have f := g.flushes
        rw [e, flushA_app _ _ _ _ (shapes okd), j5, flushA_big] at f
        exact f
    · rw [if_neg hg]; exact plain
  · exact plain
/-- the flushes that a merge tells: those of the numbers from n to n + k -/
def flsFrom (f : Int → Bool) : Nat → Int → List Int
  | 0, n => if f n = true then [n] else []
  | k + 1, n => (if f n = true then [n] else []) ++ flsFrom f k (n + 1)
theorem merge_grown {z : Str} {f : Int → Bool} : ∀ (ps qs : List (List V)) (fl : List Int) (acc : List (List V)), Grown z qs fl acc → (∀ p ∈ ps, PlOk z p) → qs.length + ps.length ≤ 40 → (∀ m ∈ fl, m < (qs.length : Int)) →
    Grown z (qs ++ ps) (fl ++ flsFrom f ps.length qs.length) (mergeA f ps qs.length acc)
  | [], qs, fl, acc, g, _, _, hf => by
    unfold mergeA
    rw [List.append_nil]
    show Grown z qs (fl ++ (if f qs.length = true then [(qs.length : Int)] else [])) _
    by_cases h : f qs.length = true
    · rw [if_pos h, if_pos h]
      have := g.flush
      rwa [if_neg (fun e => by have := hf _ e; omega)] at this
    · rw [if_neg h, if_neg h, List.append_nil]; exact g
  | p :: ps, qs, fl, acc, g, hp, hs, hf => by
    unfold mergeA
    rw [List.length_cons] at hs
    have hp1 := hp p List.mem_cons_self
    have hpr : ∀ q ∈ ps, PlOk z q := fun q hq => hp q (List.mem_cons_of_mem _ hq)
    have e1 : ((qs ++ [p]).length : Int) = (qs.length : Int) + 1 := by rw [List.length_append, List.length_singleton]; omega
    have e2 : qs ++ p :: ps = (qs ++ [p]) ++ ps := by simp
    by_cases h : f qs.length = true
    · have g1 := g.flush
      rw [if_neg (fun e => by have := hf _ e; omega)] at g1
      have g2 := g1.add hp1 (by omega)
      have ih := merge_grown (f := f) ps (qs ++ [p]) (fl ++ [(qs.length : Int)]) _ g2 hpr (by rw [List.length_append, List.length_singleton]; omega) (fun m hm => by
        rcases List.mem_append.mp hm with q | q
        · have := hf m q; omega
        · rw [List.mem_singleton.mp q]; omega)
      rw [if_pos h, e2]
      rw [e1] at ih
      have e3 : fl ++ flsFrom f (p :: ps).length qs.length = fl ++ [(qs.length : Int)] ++ flsFrom f ps.length (qs.length + 1) := by
        rw [List.length_cons]
        show fl ++ ((if f qs.length = true then [(qs.length : Int)] else []) ++ _) = _
        rw [if_pos h, List.append_assoc]
      rw [e3]
      exact ih
    · have g2 := g.add hp1 (by omega)
      have ih := merge_grown (f := f) ps (qs ++ [p]) fl _ g2 hpr (by rw [List.length_append, List.length_singleton]; omega) (fun m hm => by have := hf m hm; omega)
      rw [if_neg h, e2]
      rw [e1] at ih
      have e3 : fl ++ flsFrom f (p :: ps).length qs.length = fl ++ flsFrom f ps.length (qs.length + 1) := by
        rw [List.length_cons]
        show fl ++ ((if f qs.length = true then [(qs.length : Int)] else []) ++ _) = _
        rw [if_neg h, List.nil_append]
      rw [e3]
      exact ih
theorem mergeL_grown {z : Str} {f : Int → Bool} {ps : List (List V)} (hp : ∀ p ∈ ps, PlOk z p) (hs : ps.length ≤ 40) : Grown z ps (flsFrom f ps.length 0) (mergeL f ps) := by
  have := merge_grown (z := z) (f := f) ps [] [] [] ⟨(fun t ht => nomatch ht), rfl, rfl⟩ hp (by simpa using hs) (fun m hm => nomatch hm)
  unfold mergeL; simpa using this
/-- a list that ascends is told by its own members -/
theorem flsFrom_mem {f : Int → Bool} : ∀ (k : Nat) (n : Int) (m : Int), m ∈ flsFrom f k n ↔ f m = true ∧ n ≤ m ∧ m ≤ n + k
  | 0, n, m => by
    show m ∈ (if f n = true then [n] else []) ↔ _
    by_cases h : f n = true
    · rw [if_pos h, List.mem_singleton]
      constructor
      · rintro rfl; exact ⟨h, by omega, by omega⟩
      · rintro ⟨_, h1, h2⟩; omega
    · rw [if_neg h]
      constructor
      · intro q; cases q
      · rintro ⟨q, h1, h2⟩
        have : m = n := by omega
        subst this
        exact absurd q h
  | k + 1, n, m => by
    show m ∈ (if f n = true then [n] else []) ++ flsFrom f k (n + 1) ↔ _
    rw [List.mem_append, flsFrom_mem k (n + 1) m]
    by_cases h : f n = true
    · rw [if_pos h, List.mem_singleton]
      constructor
      · rintro (rfl | ⟨q, h1, h2⟩)
        · exact ⟨h, by omega, by omega⟩
        · exact ⟨q, by omega, by omega⟩
      · rintro ⟨q, h1, h2⟩
        by_cases e : m = n
        · exact .inl e
        · exact .inr ⟨q, by omega, by omega⟩
    · rw [if_neg h]
      constructor
      · rintro (q | ⟨q, h1, h2⟩)
        · cases q
        · exact ⟨q, by omega, by omega⟩
      · rintro ⟨q, h1, h2⟩
        by_cases e : m = n
        · subst e; exact absurd q h
        · exact .inr ⟨q, by omega, by omega⟩
theorem flsFrom_asc {f : Int → Bool} : ∀ (k : Nat) (n : Int), (flsFrom f k n).Pairwise (· < ·)
  | 0, n => by
    show (if f n = true then [n] else []).Pairwise _
    split <;> simp
  | k + 1, n => by
    show ((if f n = true then [n] else []) ++ flsFrom f k (n + 1)).Pairwise _
    refine List.pairwise_append.mpr ⟨by split <;> simp, flsFrom_asc k (n + 1), fun a ha b hb => ?_⟩
    have hb := ((flsFrom_mem k (n + 1) b).mp hb).2.1
    have : a = n := by
      by_cases h : f n = true
      · rw [if_pos h] at ha; exact List.mem_singleton.mp ha
      · rw [if_neg h] at ha; cases ha
    omega
theorem asc_eq : ∀ {xs ys : List Int}, xs.Pairwise (· < ·) → ys.Pairwise (· < ·) → (∀ m, m ∈ xs ↔ m ∈ ys) → xs = ys := by
  intro xs ys hx hy h
  have nx : xs.Nodup := hx.imp fun q e => by omega
  have ny : ys.Nodup := hy.imp fun q e => by omega
  exact sorted_same ((List.perm_ext_iff_of_nodup nx ny).mpr h) (hx.imp fun q => Int.le_of_lt q) hy
theorem flsFrom_self {fl : List Int} {k : Nat} (ha : fl.Pairwise (· < ·)) (hb : ∀ m ∈ fl, 0 ≤ m ∧ m ≤ k) {f : Int → Bool} (hf : ∀ m, f m = true ↔ m ∈ fl) : flsFrom f k 0 = fl :=
  asc_eq (flsFrom_asc _ _) ha fun m => by
    rw [flsFrom_mem, hf]
    constructor
    · exact fun q => q.1
    · exact fun q => ⟨q, by have := hb m q; omega⟩
theorem mergeA_congr {f g : Int → Bool} : ∀ (ps : List (List V)) (n : Int) (acc : List (List V)), (∀ m, n ≤ m → m ≤ n + ps.length → f m = g m) → mergeA f ps n acc = mergeA g ps n acc
  | [], n, acc, h => by
    unfold mergeA
    rw [h n (by omega) (by simp)]
  | p :: ps, n, acc, h => by
    unfold mergeA
    rw [h n (by omega) (by simp; omega), mergeA_congr ps (n + 1) _ fun m h1 h2 => h m (by omega) (by rw [List.length_cons]; omega)]
theorem flushA_asc {z : Str} : ∀ (ts : List (List V)) (n : Int) (acc : List Int), (∀ t ∈ ts, tokV z t = true) → Asc acc n → Asc (flushA ts n acc) (n + tsize ts)
  | [], n, acc, _, h => by rw [tsize_nil, Int.add_zero]; exact h
  | t :: ts, n, acc, ok, h => by
    have hr : ∀ u ∈ ts, tokV z u = true := fun u hu => ok u (List.mem_cons_of_mem _ hu)
    have hs := (size_nn (ok t List.mem_cons_self)).1
    rw [tsize_cons]
    obtain ⟨k, ⟨rfl, h0⟩ | ⟨a, b, r, rfl⟩⟩ := shapes ok t List.mem_cons_self
    · rw [flushA_flush, h0, Int.zero_add]
      exact flushA_asc ts n _ hr h.put
    · rw [flushA_big, ← Int.add_assoc]
      exact flushA_asc ts _ _ hr (h.mono (by omega))
end KW
namespace KW
open PySem L2
theorem asc_len : ∀ (xs : List Int) (lo : Int) (n : Nat), xs.Pairwise (· < ·) → (∀ m ∈ xs, lo ≤ m ∧ m < lo + n) → xs.length ≤ n
  | [], _, _, _, _ => Nat.zero_le _
  | x :: xs, lo, n, hp, hb => by
    rw [List.pairwise_cons] at hp
    have hx := hb x List.mem_cons_self
    have hn : 0 < n := by omega
    have := asc_len xs (lo + 1) (n - 1) hp.2 fun m hm => by
      have h1 := hp.1 m hm
      have h2 := hb m (List.mem_cons_of_mem _ hm)
      omega
    rw [List.length_cons]
    omega
theorem flushA_few {z : Str} {ts : List (List V)} (h : ∀ t ∈ ts, tokV z t = true) (hs : tsize ts ≤ 60) : (flushA ts 0 []).length ≤ 61 :=
  asc_len _ 0 61 (flushA_asc ts 0 [] h (Asc.nil (n := 0))).1 fun m hm => by
    have := flushA_in ts z 0 [] h (by decide) (fun _ h => nomatch h) m hm
    omega
end KW

/-! Dict comprehensions as statements; own operators beside an int; membership in dicts of flushes. -/
namespace KW
open PySem PySem.Spec PyProof.Rows L2
section
variable {X : Cx}
/-- name = {..} on one line, the name a local -/
theorem ps_setDc {i : Nat} {y : Str} {py : Pos} {kx vx tg iter : Expr} {ifs : List Expr} {scope : Scope} {own : List (Str × Nat)} {pos spos : Pos} {wi : TI} {g : TG} {tt : TT} {tk tv : TE} (hc : X.calm = true) (hN : X.N.Nodup) (hy : X.N[i]? = some y) (hyl : X.env.scope.names.lookup y = some .local)
    (hsw : swapsWith (.DictComp kx vx [⟨tg, iter, ifs, 0⟩] scope pos) (some (.Name y py)) spos.line X.env = pure true) (hi : PI X tg iter wi) (ok : BlkOk X.N X.env.scope scope own)
    (hg : ∀ (s : Shared) (H : Hp) (C : Addr) (cl : List (Str × Addr)) (fp : List Addr), PG (X.blk s H scope (compEnvC scope cl C X.env) fp) tg g) (ht : ∀ (s : Shared) (H : Hp) (C : Addr) (cl : List (Str × Addr)) (fp : List Addr), PTs (X.blk s H scope (compEnvC scope cl C X.env) fp) ifs tt)
    (hk : ∀ (s : Shared) (H : Hp) (C : Addr) (cl : List (Str × Addr)) (fp : List Addr), PE (X.blk s H scope (compEnvC scope cl C X.env) fp) kx tk)
    (he : ∀ (s : Shared) (H : Hp) (C : Addr) (cl : List (Str × Addr)) (fp : List Addr), PE (X.blk s H scope (compEnvC scope cl C X.env) fp) vx tv) (hs : ∀ x, foldedSetIterable iter X.env x = pure x := by intro _; rfl) :
    PS X (.Assign [.Name y py] (.DictComp kx vx [⟨tg, iter, ifs, 0⟩] scope pos) spos) (tAsg (tDc wi g tt tk tv (own.map (·.2))) (gName i)) := by
  refine ⟨fun pins s σ H D I h => ?_⟩
  rw [exec_Assign_Name_used _ _ _ _ hsw]
  refine wpAny_bind (wpAny_standAt (wpAny_bind ?_))
  show wpAny _ X.A (do let _ ← comprehension (.DictComp kx vx [⟨tg, iter, ifs, 0⟩] scope pos) scope X.env (firstIterPos [⟨tg, iter, ifs, 0⟩] pos) newDict false (eval iter X.env) (some (assign (.Name y py) X.env))) _ _ s
  have h : tDc wi g tt tk tv (own.map (·.2)) σ H (fun x H1 => gName i x σ H1 D.nx) := h
  refine wpAny_bind (thn (dc_core (Qf := fun _ s' => SP X pins D .next s') hc hN I hi ok hg ht hk he hs h fun L C s' m H' I' q hn f => ?_) fun _ s' hq => wpAny_pure (wpAny_pure hq))
  show wpAny _ _ (assign (.Name y py) X.env (.ref L)) _ _ _
  refine wpAny_assign_Name (store_ok2 (v := V.ref L) I' hN hy (.inl hyl) rfl (fun s2 I2 ⟨a, sb, ha⟩ => ?_) (.inr hyl))
  obtain ⟨f0, f1, f2, f3, f4, f5⟩ := f
  have haC : C ≠ a := by
    rcases ha with z | z
    · rw [z]; exact f1
    · exact fun e => f4 y a z e.symm
  refine ⟨m, hn.sameBut sb haC, fun h3 sb3 => ?_⟩
  exact ⟨_, H', I2.turned (t' := s2.toks) (fun b o hb e => (sb3.2 b hb).trans e) f0 f1 f3 f4 f5, q⟩
theorem sw_trueD {kx vx : Expr} {gs : List Comprehension} {scope : Scope} {pos py : Pos} {y : Str} {l : Nat} {env : Env} (hk : env.scope.kind = .function) (hy : env.scope.names.lookup y = some .local) (hl : (py.line == pos.line) = true)
    (ha : (scope.names.any fun (n, k) => n == y && (k == .local || k == .cell)) = false) : swapsWith (.DictComp kx vx gs scope pos) (some (.Name y py)) l env = pure true := by
  have ky : env.kindOf y = some .local := hy
  have hb : env.blockKind = .function := by unfold Env.blockKind; rw [hk]; rfl
  unfold swapsWith
  simp only [hb, ky, ha, Expr.pos, hl]
  rfl
end
section
variable {J : It} {n : Nat} {G : Hp → Prop} {Y : Nat → Hp → V → Hp → Prop}
/-- a dict comprehension over a walk -/
theorem dc_it (w : Walk J n G Y) {g : TG} {tt : TT} {tk tv : TE} {vs : List Nat} {σ : L2.St} {H1 : Hp} {D : Addr} {Qd : Hp → Prop} (Pv : Nat → Hp → Prop) (h0 : Pv 0 (upd H1 D (.dK []))) (hG : ∀ i H, i ≤ n → Pv i H → G H)
    (hs : ∀ i x H H', i < n → Pv i H → Y i H x H' → g x (wipe σ vs) H' fun σ2 H2 => wipe σ2 vs = wipe σ vs ∧ tt σ2 H2 fun b H3 =>
      if b = true then tk σ2 H3 fun y H4 => tv σ2 H4 fun z H5 => ∃ kvs k, y = kV k ∧ H5 D = some (.dK kvs) ∧ kvs.length < sizeLine ∧ Pv (i + 1) (upd H5 D (.dK (putK kvs k z))) else Pv (i + 1) H3) (hd : ∀ H, Pv n H → Qd H) :
    ∃ W : Nat → Nat → Hp → Prop, (∃ m, W 0 m (upd H1 D (.dK []))) ∧ ∀ i m H, W i m H →
      (J.stop i H ∧ Qd H) ∨ (J.go i H ∧ ∃ Nx : Hp → Prop, (∀ H', Nx H' → ∃ m', m' < m ∧ W (i + 1) m' H') ∧ ∀ x H', J.yld i H x H' → g x (wipe σ vs) H' fun σ2 H2 => wipe σ2 vs = wipe σ vs ∧ tt σ2 H2 fun b H3 =>
        if b = true then tk σ2 H3 fun y H4 => tv σ2 H4 fun z H5 => ∃ kvs k, y = kV k ∧ H5 D = some (.dK kvs) ∧ kvs.length < sizeLine ∧ Nx (upd H5 D (.dK (putK kvs k z))) else Nx H3) := by
  refine ⟨fun i m H => m = n - i ∧ i ≤ n ∧ Pv i H, ⟨n, by simp, Nat.zero_le _, h0⟩, ?_⟩
  rintro i m H ⟨rfl, hi, p⟩
  have q := hG i H hi p
  by_cases hlt : i < n
  · refine .inr ⟨w.goes i H hlt q, Pv (i + 1), fun H' p' => ⟨n - (i + 1), by omega, rfl, hlt, p'⟩, fun x H' y => hs i x H H' hlt p (w.yields i H x H' hlt q y)⟩
  · have e : i = n := by omega
    subst e
    exact .inl ⟨w.stops H q, hd H p⟩
end
/-- x op n by x's own def, n an int -/
structure OwnOp (K : PySem.W.Frag) (C f : Addr) (nm : String) : Prop where
  first : PySem.W.selfFirst K C = true
  at_ : PySem.W.findIn K (.ref C) (PySem.dunder nm) = some (some (.ref f))
  fn : PySem.W.isFn K (.ref f) = true
  back : ∃ rc : Option Value, PySem.W.findIn K (.ref C) (dunderR nm) = some rc ∧ (rc = none ∨ ∃ g : Addr, rc = some (.ref g))
  int1 : ∃ fo, PySem.W.findIn K (.type "int") (PySem.dunder nm) = some fo
  int2 : ∃ ro, PySem.W.findIn K (.type "int") (dunderR nm) = some ro
  sub : PySem.W.subIn K (.type "int") (.ref C) = some false
def isNI : Value → Bool
  | .notImplemented => true
  | _ => false
theorem relV_notNI {v : V} {u : Value} (r : RelV v u) : isNI u = false := by
  cases v with
  | ty T => cases r; rfl
  | _ => first | (cases r; rfl) | (obtain ⟨t, rfl⟩ := r; rfl)
section
variable {X : Cx} {k : Nat} {f C : Addr} {fd : FuncData} {ps : List Str} {sp : Sp} {E : XK} {nm : String} {op : Operator}
theorem op_binOwn (F : FnG X.prog X.w X.K X.mg X.base k f fd ps sp) (hr : RoomG (k + 1) X.A) (hop : op.info.2 = nm) (o : OwnOp X.K C f nm) (hb : Binds X.K fd ps []) (hx : Passes CX0 X E) :
    OpR X (binaryOp op) (fun x y H Q => ∃ a dx fs n, x = .ref a ∧ y = .int n ∧ H a = some (.ins C dx fs) ∧ sp [.ref a, .int n] H Q E) := by
  intro pins s σ H x y v u Q I rx ry h
  obtain ⟨a, dx, fs, n, rfl, rfl, ha, h⟩ := h
  obtain rfl : v = Value.ref a := rx
  obtain ⟨t, rfl⟩ := ry
  obtain ⟨mA, J, _⟩ := ins_get I.hok ha
  obtain ⟨od, J, _⟩ := J.look
  obtain ⟨m, hF⟩ := I.fr
  obtain ⟨rc, hrc, hp⟩ := o.back
  obtain ⟨fo, h1⟩ := o.int1
  obtain ⟨ro, h2⟩ := o.int2
  subst hop
  refine PySem.W.ksp_binT hF I.ok.mod.kin J (T := "int") rfl o.first o.at_ o.fn hrc hp h1 h2 o.sub ?_
  refine wpAny_mono (run_below F (A' := X.A) rfl (hr.mono (Nat.le_succ _)) hb hx I (xs := [.ref a, .int n]) (.cons rfl (.cons ⟨_, rfl⟩ .nil)) h) (fun v s' q => ?_) fun _ _ z => z
  obtain ⟨y, H', I', ry, q⟩ := q
  have no := relV_notNI ry
  cases v <;> first | exact ⟨y, H', I', ry, q⟩ | (exfalso; revert no; simp [isNI])
end
end KW
namespace KW
open PySem L2
theorem gCons_go {t : TG} {u : TGs} {v : V} {r : List V} {σ : L2.St} {H : Hp} {Q : L2.St → Hp → Prop} (h : t v σ H fun σ' H' => u r σ' H' Q) : gCons t u (v :: r) σ H Q := ⟨v, r, rfl, h⟩
theorem gName_go {i : Nat} {v : V} {σ : L2.St} {H : Hp} {Q : L2.St → Hp → Prop} (h : Q (σ.set i (some v)) H) : gName i v σ H Q := h
theorem gNil_go {σ : L2.St} {H : Hp} {Q : L2.St → Hp → Prop} (h : Q σ H) : gNil [] σ H Q := ⟨rfl, h⟩
theorem gTup_go {K : PySem.W.Frag} {n : Nat} {t : TGs} {a : Addr} {xs : List V} {σ : L2.St} {H : Hp} {Q : L2.St → Hp → Prop} (ha : SqT K H a xs) (hl : xs.length = n) (h : t xs σ H Q) : gTup K n t (.ref a) σ H Q := ⟨a, xs, rfl, ha, hl, h⟩
end KW
namespace KW
open PySem L2
theorem has_keys (acc : List Int) (n : Int) : (valV (keysV acc) (Sum.inl n : Key)).isSome = decide (n ∈ acc) := by
  unfold valV
  rw [Option.isSome_map]
  induction acc with
  | nil => rfl
  | cons a acc ih =>
    show (List.find? _ ((Sum.inl a, V.bl true) :: keysV acc)).isSome = _
    rw [List.find?_cons]
    by_cases e : a = n
    · subst e
      have h : decide ((Sum.inl a : Key) = Sum.inl a) = true := decide_eq_true rfl
      simp only [h]
      simp
    · have h : decide ((Sum.inl a : Key) = Sum.inl n) = false := decide_eq_false fun q => e (Sum.inl.inj q)
      have e' : ¬ n = a := fun q => e q.symm
      simp only [h, ih]
      simp [e']
theorem ix_last {α : Type} {us : List α} {v : α} : ixN (us ++ [v]).length (-1) = some us.length := by
  unfold ixN
  rw [List.length_append, List.length_singleton, if_neg (by decide)]
  rw [if_pos (by omega)]
  congr 1
  omega
theorem at_last {α : Type} {us : List α} {v : α} : atI (us ++ [v]) (-1) = some v := by
  unfold atI
  rw [ix_last]
  simp
theorem set_last {α : Type} {us : List α} {v w : α} : (us ++ [v]).set us.length w = us ++ [w] := by simp
theorem paired_snoc {α β : Type} {F : α → β → Prop} {us : List α} {v : α} {m : List β} (h : Paired F (us ++ [v]) m) : ∃ ms y, m = ms ++ [y] ∧ Paired F us ms ∧ F v y := by
  induction us generalizing m with
  | nil =>
    cases h with
    | cons r t => cases t; exact ⟨[], _, rfl, .nil, r⟩
  | cons u us ih =>
    cases h with
    | cons r t =>
      obtain ⟨ms, y, rfl, h1, h2⟩ := ih t
      exact ⟨_ :: ms, y, rfl, .cons r h1, h2⟩
theorem snoc_of {α : Type} {xs : List α} (h : xs ≠ []) : ∃ us v, xs = us ++ [v] := ⟨xs.dropLast, xs.getLast h, (List.dropLast_concat_getLast h).symm⟩
theorem addTok_nil {t : List V} : addTok [] t = [t] := rfl
theorem addTok_snoc {ts : List (List V)} {l t : List V} : addTok (ts ++ [l]) t = if goTog l t = true then ts ++ [joinT l t] else ts ++ [l] ++ [t] := by
  unfold addTok
  simp
theorem drop_get {α : Type} {l : List α} {i : Nat} {a : α} (h : l[i]? = some a) : l.drop i = a :: l.drop (i + 1) := by
  obtain ⟨h1, h2⟩ := List.getElem?_eq_some_iff.mp h
  rw [List.drop_eq_getElem_cons h1, h2]
theorem Grown.len {z : Str} {ps : List (List V)} {fl : List Int} {acc : List (List V)} (g : Grown z ps fl acc) : acc.length ≤ ps.length + fl.length + acc.length := by omega
end KW
namespace KW
open PySem L2
theorem addTok_len (acc : List (List V)) (t : List V) : (addTok acc t).length ≤ acc.length + 1 := by
  unfold addTok
  split
  · split
    · rw [List.length_append, List.length_dropLast, List.length_singleton]; omega
    · rw [List.length_append, List.length_singleton]; omega
  · rw [List.length_append, List.length_singleton]; omega
theorem mergeA_len {f : Int → Bool} : ∀ (ps : List (List V)) (n : Int) (acc : List (List V)), (mergeA f ps n acc).length ≤ acc.length + 2 * ps.length + 1
  | [], n, acc => by
    unfold mergeA
    split
    · rw [List.length_append, List.length_singleton]; simp only [List.length_nil]; omega
    · omega
  | p :: ps, n, acc => by
    unfold mergeA
    have h := mergeA_len (f := f) ps (n + 1) (addTok (if f n = true then acc ++ [flT] else acc) (tokOf p))
    have h2 := addTok_len (if f n = true then acc ++ [flT] else acc) (tokOf p)
    have h3 : (if f n = true then acc ++ [flT] else acc).length ≤ acc.length + 1 := by
      split
      · rw [List.length_append, List.length_singleton]; omega
      · omega
    rw [List.length_cons]
    omega
/-- the tokens of the merged piece -/
def mergedT (ts : List (List V)) : List (List V) := mergeL (fun n => decide (n ∈ flushA ts 0 [])) (placesL ts)
theorem mergedT_len (ts : List (List V)) : (mergedT ts).length ≤ 2 * (placesL ts).length + 1 := by
  have := mergeA_len (f := fun n => decide (n ∈ flushA ts 0 [])) (placesL ts) 0 []
  unfold mergedT mergeL
  simpa using this
theorem merged_grown {z : Str} {ts : List (List V)} (h : ∀ t ∈ ts, tokV z t = true) (hs : tsize ts ≤ 40) : Grown z (placesL ts) (flushA ts 0 []) (mergedT ts) := by
  have hl := places_len h
  have g := mergeL_grown (f := fun n => decide (n ∈ flushA ts 0 [])) (plOk_of h) (by omega)
  have e : flsFrom (fun n => decide (n ∈ flushA ts 0 [])) (placesL ts).length 0 = flushA ts 0 [] := by
    refine flsFrom_self ?_ ?_ (fun m => decide_eq_true_iff)
    · exact (flushA_asc ts 0 [] h (Asc.nil (n := 0))).1
    · intro m hm
      have := flushA_in ts z 0 [] h (by decide) (fun _ h => nomatch h) m hm
      omega
  rw [e] at g
  exact g
theorem mergedT_size {z : Str} {ts : List (List V)} (h : ∀ t ∈ ts, tokV z t = true) (hs : tsize ts ≤ 40) : tsize (mergedT ts) = tsize ts := by
  have g := merged_grown h hs
  rw [g.size, places_len h]
theorem mergedT_twice {z : Str} {ts : List (List V)} (h : ∀ t ∈ ts, tokV z t = true) (hs : tsize ts ≤ 40) : mergedT (mergedT ts) = mergedT ts := by
  have g := merged_grown h hs
  show mergeL (fun n => decide (n ∈ flushA (mergedT ts) 0 [])) (placesL (mergedT ts)) = _
  rw [g.places, g.flushes]
  rfl

/-! ### roots -/
/-- the root of the sign so far back -/
def rootBack (acc : List (List V)) : V → List V
  | .int d => if d ≤ (acc.length : Int) then acc.getD (acc.length - d.toNat) [] else [.str "slot", .int (d - acc.length)]
  | _ => []
/-- roots through copies and says (ways 2), or copies alone (ways 1) -/
def rootsA (all : Bool) : List (List V) → Int → List (List V) → List (List V)
  | [.str k, v] :: ps, many, acc =>
    if k = "copy" ∨ (all = true ∧ k = "say") then rootsA all ps many (acc ++ [rootBack acc v])
    else rootsA all ps (if k = "hole" then many + 1 else many) (acc ++ [if all = true then (if k = "sign" then [.str "sign", v] else [.str "hole", .int many]) else [.str "place", .int acc.length]])
  | _, _, acc => acc
def rootsL (all : Bool) (ps : List (List V)) : List (List V) := rootsA all ps 0 []
theorem rootsA_copy {all : Bool} {v : V} {ps : List (List V)} {many : Int} {acc : List (List V)} : rootsA all ([.str "copy", v] :: ps) many acc = rootsA all ps many (acc ++ [rootBack acc v]) := by
  rw [rootsA, if_pos (.inl rfl)]
theorem rootsA_say {v : V} {ps : List (List V)} {many : Int} {acc : List (List V)} : rootsA true ([.str "say", v] :: ps) many acc = rootsA true ps many (acc ++ [rootBack acc v]) := by
  rw [rootsA, if_pos (.inr ⟨rfl, rfl⟩)]
theorem rootsA_sayP {v : V} {ps : List (List V)} {many : Int} {acc : List (List V)} : rootsA false ([.str "say", v] :: ps) many acc = rootsA false ps many (acc ++ [[.str "place", .int acc.length]]) := by
  rw [rootsA, if_neg (by decide +kernel), if_neg (show ¬ ("say" : Str) = "hole" by decide +kernel), if_neg (by decide)]
theorem rootsA_sign {v : V} {ps : List (List V)} {many : Int} {acc : List (List V)} : rootsA true ([.str "sign", v] :: ps) many acc = rootsA true ps many (acc ++ [[.str "sign", v]]) := by
  rw [rootsA, if_neg (by decide +kernel), if_neg (show ¬ ("sign" : Str) = "hole" by decide +kernel), if_pos rfl, if_pos rfl]
theorem rootsA_signP {v : V} {ps : List (List V)} {many : Int} {acc : List (List V)} : rootsA false ([.str "sign", v] :: ps) many acc = rootsA false ps many (acc ++ [[.str "place", .int acc.length]]) := by
  rw [rootsA, if_neg (by decide +kernel), if_neg (show ¬ ("sign" : Str) = "hole" by decide +kernel), if_neg (by decide)]
theorem rootsA_hole {v : V} {ps : List (List V)} {many : Int} {acc : List (List V)} : rootsA true ([.str "hole", v] :: ps) many acc = rootsA true ps (many + 1) (acc ++ [[.str "hole", .int many]]) := by
  rw [rootsA, if_neg (by decide +kernel), if_pos rfl, if_pos rfl, if_neg (show ¬ ("hole" : Str) = "sign" by decide +kernel)]
theorem rootsA_holeP {v : V} {ps : List (List V)} {many : Int} {acc : List (List V)} : rootsA false ([.str "hole", v] :: ps) many acc = rootsA false ps (many + 1) (acc ++ [[.str "place", .int acc.length]]) := by
  rw [rootsA, if_neg (by decide +kernel), if_pos rfl, if_neg (by decide)]
/-- a root's form: two flat parts, plain data -/
def RootOk (r : List V) : Prop := r.all flatV = true ∧ Pl 1 82 (tokD r)
end KW
namespace KW
open PySem L2
theorem aug0 {a b : Str} (n : a ≠ b) (m : Int) : m + (if decide (V.str a = V.str b) = true then 1 else 0) = m := by
  rw [decide_eq_false fun e => n (V.str.inj e)]
  simp
theorem aug1 {a : Str} (m : Int) : m + (if decide (V.str a = V.str a) = true then 1 else 0) = m + 1 := by
  rw [decide_eq_true rfl]
  simp
/-- the item so far back, and its root -/
theorem back_at {K : PySem.W.Frag} {H : Hp} {rvs : List V} {rs : List (List V)} {d : Int} (h : Plcs K H rvs rs) (h0 : 1 ≤ d) (h1 : d ≤ (rs.length : Int)) : ∃ v, atI rvs ((rs.length : Int) - d) = some v ∧ TupAt K H v (rootBack rs (.int d)) := by
  have hlen := paired_len h
  have hj : rvs.length - d.toNat < rvs.length := by omega
  obtain ⟨w, hw⟩ : ∃ w, rvs[rvs.length - d.toNat]? = some w := ⟨_, List.getElem?_eq_getElem hj⟩
  obtain ⟨r, hr2, ht⟩ := paired_get h hw
  refine ⟨w, ?_, ?_⟩
  · unfold atI ixN
    rw [if_pos (by omega), if_pos (by omega)]
    rw [show ((rs.length : Int) - d).toNat = rvs.length - d.toNat by omega]
    exact hw
  · have e2 : rootBack rs (.int d) = r := by
      show (if d ≤ (rs.length : Int) then _ else _) = r
      rw [if_pos h1, List.getD_eq_getElem?_getD, ← hlen, hr2]
      rfl
    rw [e2]
    exact ht
theorem back_slot {rs : List (List V)} {d : Int} (h1 : ¬ d ≤ (rs.length : Int)) : rootBack rs (.int d) = [.str "slot", .int (d - rs.length)] := by
  show (if d ≤ (rs.length : Int) then _ else _) = _
  rw [if_neg h1]
end KW
namespace KW
open PySem L2
theorem Same.put' {H0 H : Hp} {t : Addr} {o : HO} (s : Same H0 H) (hn : H0 t = none) : Same H0 (upd H t o) := fun a u h => upd_get (none_ne hn h) (s a u h)
theorem slot_ok {d : Int} (h0 : 0 ≤ d) (h1 : d ≤ 1000) : RootOk [.str "slot", .int d] :=
  ⟨rfl, ((PlAll.cons (Pl.str (w := 40) (by decide +kernel) (by decide +kernel)) (.cons ((Pl.int h0 (by omega)).mono (Nat.le_refl _) (by decide)) .nil)).tuple).mono (Nat.le_refl _) (Nat.le_of_ble_eq_true rfl)⟩
theorem num_ok {k : Str} (hk : k = "hole" ∨ k = "place") {d : Int} (h0 : 0 ≤ d) (h1 : d ≤ 1000) : RootOk [.str k, .int d] := by
  have hs : PyData.strOk k = true ∧ k.length ≤ 40 := by rcases hk with rfl | rfl <;> exact ⟨by decide +kernel, by decide +kernel⟩
  exact ⟨rfl, ((PlAll.cons (Pl.str (w := 40) hs.1 hs.2) (.cons ((Pl.int h0 (by omega)).mono (Nat.le_refl _) (by decide)) .nil)).tuple).mono (Nat.le_refl _) (Nat.le_of_ble_eq_true rfl)⟩
theorem sign_ok {z : Str} {c : Nat} (hz : SignsOk z) (hc : c ∈ cl z) : RootOk [.str "sign", .str (sg c)] := by
  have cz := cln_iff.mp (clean_signs hz)
  refine ⟨rfl, ((PlAll.cons (Pl.str (w := 40) (by decide +kernel) (by decide +kernel)) (.cons (Pl.str (y := sg c) (w := 40) (cln_iff.mpr fun d hd => ?_) (show 1 ≤ 40 by decide)) .nil)).tuple).mono (Nat.le_refl _) (Nat.le_of_ble_eq_true rfl)⟩
  rw [List.mem_singleton.mp (show d ∈ [c] from hd)]
  exact cz c hc
theorem back_ok {acc : List (List V)} {d : Int} (ha : ∀ r ∈ acc, RootOk r) (h0 : 1 ≤ d) (h1 : d ≤ 12) : RootOk (rootBack acc (.int d)) := by
  show RootOk (if d ≤ (acc.length : Int) then _ else _)
  by_cases h : d ≤ (acc.length : Int)
  · rw [if_pos h]
    have hj : acc.length - d.toNat < acc.length := by omega
    rw [List.getD_eq_getElem?_getD, List.getElem?_eq_getElem hj]
    exact ha _ (List.getElem_mem hj)
  · rw [if_neg h]
    exact slot_ok (by omega) (by omega)
theorem rootsA_ok {z : Str} {all : Bool} (hz : SignsOk z) : ∀ (ps : List (List V)) (many : Int) (acc : List (List V)), (∀ p ∈ ps, PlOk z p) → (∀ r ∈ acc, RootOk r) → acc.length + ps.length ≤ 40 → 0 ≤ many → many ≤ acc.length →
    (∀ r ∈ rootsA all ps many acc, RootOk r) ∧ (rootsA all ps many acc).length = acc.length + ps.length
  | [], many, acc, _, ha, _, _, _ => by
    cases all <;> exact ⟨ha, rfl⟩
  | p :: ps, many, acc, hp, ha, hs, m0, m1 => by
    have hr : ∀ q ∈ ps, PlOk z q := fun q hq => hp q (List.mem_cons_of_mem _ hq)
    rw [List.length_cons] at hs ⊢
    have step : ∀ (r : List V) (m : Int), RootOk r → 0 ≤ m → m ≤ acc.length + 1 → (∀ r' ∈ rootsA all ps m (acc ++ [r]), RootOk r') ∧ (rootsA all ps m (acc ++ [r])).length = acc.length + (ps.length + 1) := fun r m h h0 h1 => by
      have ih := rootsA_ok (all := all) hz ps m (acc ++ [r]) hr (fun r' hr' => by
        rcases List.mem_append.mp hr' with q | q
        · exact ha r' q
        · rw [List.mem_singleton.mp q]; exact h) (by rw [List.length_append, List.length_singleton]; omega) h0 (by rw [List.length_append, List.length_singleton]; omega)
      refine ⟨ih.1, ?_⟩
      rw [ih.2, List.length_append, List.length_singleton]
      omega
    have po := hp p List.mem_cons_self
    cases all with
    | true =>
      cases po with
      | sign hc => rw [rootsA_sign]; exact step _ _ (sign_ok hz hc) m0 (by omega)
      | hole hc => rw [rootsA_hole]; exact step _ _ (num_ok (.inl rfl) m0 (by omega)) (by omega) (by omega)
      | copy h1 h2 => rw [rootsA_copy]; exact step _ _ (back_ok ha h1 h2) m0 (by omega)
      | say h1 h2 => rw [rootsA_say]; exact step _ _ (back_ok ha h1 h2) m0 (by omega)
    | false =>
      cases po with
      | sign hc => rw [rootsA_signP]; exact step _ _ (num_ok (.inr rfl) (by omega) (by omega)) m0 (by omega)
      | hole hc => rw [rootsA_holeP]; exact step _ _ (num_ok (.inr rfl) (by omega) (by omega)) (by omega) (by omega)
      | copy h1 h2 => rw [rootsA_copy]; exact step _ _ (back_ok ha h1 h2) m0 (by omega)
      | say h1 h2 => rw [rootsA_sayP]; exact step _ _ (num_ok (.inr rfl) (by omega) (by omega)) m0 (by omega)
theorem rootsL_ok {z : Str} {all : Bool} {ts : List (List V)} (hz : SignsOk z) (h : ∀ t ∈ ts, tokV z t = true) (hs : tsize ts ≤ 40) : (∀ r ∈ rootsL all (placesL ts), RootOk r) ∧ (rootsL all (placesL ts)).length = (placesL ts).length := by
  have hl := places_len h
  have := rootsA_ok (all := all) hz (placesL ts) 0 [] (plOk_of h) (fun r h => nomatch h) (by simp; omega) (by decide) (by decide)
  unfold rootsL
  simpa using this
/-- roots in the heap, as data -/
theorem roots_dp {K : PySem.W.Frag} {H : Hp} {l : Addr} {rvs : List V} {rs : List (List V)} (hl : H l = some (.lst rvs)) (h : Plcs K H rvs rs) (ok : ∀ r ∈ rs, RootOk r) : Dp K H (.ref l) (.list (rs.map tokD)) :=
  .lst (SqL.of hl) (h.dps fun p hp => (ok p hp).1)
theorem roots_pl {rs : List (List V)} (ok : ∀ r ∈ rs, RootOk r) (hn : rs.length ≤ 40) : Pl 2 3320 (.list (rs.map tokD)) := by
  have a : PlAll 1 82 (rs.map tokD) := .of fun d hd => by
    obtain ⟨r, hr, rfl⟩ := List.mem_map.mp hd
    exact (ok r hr).2
  refine a.list.mono (Nat.le_refl _) ?_
  rw [List.length_map]
  omega
theorem Pl.pair {n w : Nat} {a b : PyData} (ha : Pl n w a) (hb : Pl n w b) : Pl (n + 1) (2 * (w + 1)) (.list [a, b]) := (PlAll.cons ha (.cons hb .nil)).list
end KW

/-! Static methods, called off their class. -/
namespace KW
open PySem PySem.Spec PyProof.Rows L2
/-- C.m is a static method: its record at p, its def at g -/
structure SMet (K : PySem.W.Frag) (C : Addr) (mc : Value) (m : Str) (p g : Addr) : Prop where
  at_ : PySem.W.findCls K (.ref C) mc m = some (.get (.builtin "staticmethod.__get__") (.ref p) .none (.ref C))
  rc : ∃ rest, PySem.W.recIn K p "staticmethod" = some (.ref g :: rest)
def tSMeth (C : Addr) (sp : Sp) (E : XK) (ta : TE) (t : TA) : TE := fun σ H Q => ta σ H fun x H1 => x = .ref C ∧ t σ H1 fun vs H2 => sp vs H2 Q E
section
variable {X : Cx} {k : Nat} {C p g : Addr} {mc : Value} {m : Str} {fd : FuncData} {ps : List Str} {sp : Sp} {E : XK} {o e : Expr} {es : List Expr} {ta : TE} {t : TA} {apos pos : Pos} {pl : Sem Bool}
theorem pe_smeth (he : PE X o ta) (r : ClX.CRead X.K C mc) (c : SMet X.K C mc m p g) (kp : PySem.W.keepIn X.K (.ref g) = true) (F : FnOk X.prog X.w X.K X.mg X.base CX0 k g fd ps sp) (hr : Room k X.A) (hb : Binds X.K fd ps []) (hx : Passes CX0 X E) (ha : PA X (e :: es) t)
    (hst : starEach (e :: es) X.env = (false, eval e X.env) :: starEach es X.env := by rfl) (hpl : (backTo pos (starEach es X.env)).any (·.1) = false := by rfl)
    (ht : eval (.Call (.Attribute o m apos) (e :: es) [] pos) X.env = (do
      let ov ← eval o X.env
      standAt apos.atName
      let (f, first) ← holding [ov] (getMethod ov m pl)
      callWith pos f first (backTo pos (starEach (e :: es) X.env)) (backToKw pos (keywordEach [] X.env))) := by rfl) :
    PE X (.Call (.Attribute o m apos) (e :: es) [] pos) (tSMeth C sp E ta t) := by
  refine ⟨fun pins s σ H Q I h => ?_⟩
  refine PySem.W.methodCall_KW (pl := pl) (thn (he.run pins s σ H _ I h) fun u s1 ⟨x, H1, I1, rx, ex, q⟩ => ?_) ht
  subst ex
  obtain rfl : u = Value.ref C := rx
  obtain ⟨rest, hp⟩ := c.rc
  refine PySem.W.method_cls I1.kIn r.ga (PySem.W.cls_bind I1.kIn r.rd c.at_ (wpAny_call (PySem.W.sm_get (s := { s1 with toks := s1.toks + 1 }) I1.kIn hp (PySem.W.handed_on rfl ?_))))
  have I2 := I1.tok (s1.toks + 1)
  refine PySem.W.callWith_K (h₀ := X.base) I2.ok.mod.kin kp (thn (ha.run pos pins _ σ H1 _ I2 q) fun us s3 ⟨vs, H2, I3, rv, q2⟩ => ⟨I3.kIn, ?_⟩) hst hpl
  exact run_fn (ds := []) F hr hb .nil hx I3 rv (by simpa using q2)
end
end KW
namespace KW
open PySem L2
theorem nI {i j : Int} (h : i ≠ j) : decide (V.int i = V.int j) = false := decide_eq_false fun e => h (V.int.inj e)
theorem yI {i j : Int} (h : i = j) : decide (V.int i = V.int j) = true := decide_eq_true (by rw [h])
theorem choice_len {z y : Str} (h : choiceB z y = true) : y.length ≤ z.length ∧ 1 ≤ y.length := by
  unfold choiceB at h
  simp only [Bool.and_eq_true, decide_eq_true_eq] at h
  exact ⟨h.1.1.2, h.1.1.1⟩
end KW

/-! != of two instances of one class; lists put in another order. -/
namespace KW
open PySem PySem.Spec PyProof.Rows L2
section
variable {prog : Program} {w : World} {A : Around} {E : Value → Shared → Prop} {s : Shared} {K : PySem.W.Frag} {C f x y : Addr} {ox od oy od' : Obj}
theorem rich_neS {Q : Value → Shared → Prop} (hu : A.units + 1 < cLine) (X : K.In s.heap) (I : PySem.W.InstAt s.heap x ox C od) (J : PySem.W.InstAt s.heap y oy C od') (mro : PySem.W.mroIn K C (.type "object") = some true)
    (ne_ : PySem.W.findIn K (.ref C) "__ne__" = some (some (.builtin "object.__ne__"))) (at_ : PySem.W.findIn K (.ref C) "__eq__" = some (some (.ref f))) (fn : PySem.W.isFn K (.ref f) = true)
    (called : wpAny (model prog w) A.in1 (call (.ref f) [.ref x, .ref y]) (fun v s' => ∃ b, v = .bool b ∧ Q (.bool (!b)) s') E s) : wpAny (model prog w) A (richCompare .NotEq (.ref x) (.ref y)) Q E s := by
  have one : wpAny (model prog w) A (tryCompare (.ref x) "__ne__" (.ref y)) (fun r s' => ∃ v, r = some v ∧ Q v s') E s :=
    try_ne hu X I mro ne_ at_ fn (wpAny_mono called (fun v s' z => by
      obtain ⟨b, rfl, q⟩ := z
      exact ⟨b, rfl, _, rfl, q⟩) fun _ _ z => z)
  simp only [richCompare, cmpInfo_NotEq, oneThing_ref]
  refine wpAny_holding (wpAny_bind (wpAny_cRoomFor (Nat.lt_of_succ_lt hu) ?_))
  refine wpAny_bind (I.type.here ?_)
  refine wpAny_bind (J.type.here ?_)
  simp only [bne_self_eq_false, Bool.false_eq_true, if_false]
  refine wpAny_bind (wpAny_pure ?_)
  simp only [Bool.false_eq_true, if_false]
  refine wpAny_bind (m := tryCompare (.ref x) _ (.ref y)) (wpAny_mono one (fun r s1 z => ?_) fun _ _ z => z)
  obtain ⟨v, rfl, q⟩ := z
  exact wpAny_pure q
end
section
variable {X : Cx} {k : Nat} {f C : Addr} {fd : FuncData} {ps : List Str} {sp : Sp} {E : XK}
theorem op_neSame (F : FnG X.prog X.w X.K X.mg X.base k f fd ps sp) (hr : RoomG (k + 1) X.A) (at_ : PySem.W.findIn X.K (.ref C) "__eq__" = some (some (.ref f))) (fn : PySem.W.isFn X.K (.ref f) = true) (hb : Binds X.K fd ps []) (hx : Passes CX0 X E)
    (ne_ : PySem.W.findIn X.K (.ref C) "__ne__" = some (some (.builtin "object.__ne__"))) (mro : PySem.W.mroIn X.K C (.type "object") = some true) :
    OpR X (compareOp .NotEq) (fun x y H Q => ∃ a b dx dy fs gs, x = .ref a ∧ y = .ref b ∧ H a = some (.ins C dx fs) ∧ H b = some (.ins C dy gs) ∧ sp [.ref a, .ref b] H (fun v H' => ∃ r : Bool, v = .bl r ∧ Q (.bl (!r)) H') E) := by
  intro pins s σ H x y v u Q I rx ry h
  obtain ⟨a, b, dx, dy, fs, gs, rfl, rfl, ha, hb', h⟩ := h
  obtain rfl : v = Value.ref a := rx
  obtain rfl : u = Value.ref b := ry
  obtain ⟨mA, J, _⟩ := ins_get I.hok ha
  obtain ⟨od, J, _⟩ := J.look
  obtain ⟨mB, J', _⟩ := ins_get I.hok hb'
  obtain ⟨od', J', _⟩ := J'.look
  have small : X.A.units + 1 < cLine := by have := hr.room.un; omega
  show wpAny (model X.prog X.w) X.A (richCompare .NotEq (.ref a) (.ref b)) (EP X pins σ Q) X.xe s
  refine rich_neS small I.kIn J J' mro ne_ at_ fn (wpAny_mono (run_below F (A' := X.A.in1) rfl hr.in1 hb hx I (xs := [.ref a, .ref b]) (.cons rfl (.cons rfl .nil)) h) (fun v s' q => ?_) fun _ _ z => z)
  obtain ⟨y, H', I', ry, r, rfl, q⟩ := q
  obtain rfl := ry
  exact ⟨r, rfl, .bl (!r), H', I', rfl, q⟩
end
def intOf : V → Int
  | .int i => i
  | _ => 0
theorem perm_ints {ys : List V} {fs : List Int} (h : ys.Perm (fs.map V.int)) : ∃ gs : List Int, ys = gs.map V.int ∧ gs.Perm fs := by
  have e1 : ∀ v ∈ ys, v = V.int (intOf v) := fun v hv => by
    have := h.mem_iff.mp hv
    obtain ⟨i, _, rfl⟩ := List.mem_map.mp this
    rfl
  refine ⟨ys.map intOf, ?_, ?_⟩
  · rw [List.map_map]
    conv => lhs; rw [← List.map_id ys]
    exact List.map_congr_left fun v hv => e1 v hv
  · have := h.map intOf
    rw [List.map_map] at this
    rw [show (intOf ∘ V.int) = id from rfl, List.map_id] at this
    exact this
theorem ins_perm {α : Type} {xs ys : List α} {v : α} (n : Nat) (h : ys.Perm xs) : (ys.take n ++ [v] ++ ys.drop n).Perm (xs ++ [v]) := by
  have h1 : (ys.take n ++ [v] ++ ys.drop n).Perm (ys.take n ++ ys.drop n ++ [v]) := by
    rw [List.append_assoc, List.append_assoc]
    exact List.Perm.append_left _ List.perm_append_comm
  rw [List.take_append_drop] at h1
  exact h1.trans (h.append_right [v])
theorem neI {i j : Int} (h : i = j) : (!decide (V.int i = V.int j)) = false := by rw [yI h]; rfl
/-- xs[:-1] -/
theorem cut_last {us : List V} {v : V} : cutV (us ++ [v]) none (some (-1)) = us := by
  unfold cutV
  have e0 : HT.sIx (us ++ [v]).length 0 none = 0 := rfl
  have e1 : HT.sIx (us ++ [v]).length (us ++ [v]).length (some (-1)) = us.length := by
    unfold HT.sIx
    simp
    omega
  rw [e0, e1]
  simp
end KW
namespace KW
open PySem L2
section
variable {K : PySem.W.Frag} {C : Addr} {H0 H H' : Hp} {b c : Addr}
theorem bag_get0 {a : Addr} {o : HO} (_ : BagAt H0 b c) (k : KeepB b H H') (hb : BagAt H b c) (no : NotBag o) (h : H a = some o) : H' a = some o := bag_get k hb no h
theorem TupAt.bag0 {v : V} {xs : List V} (_ : BagAt H0 b c) (k : KeepB b H H') (hb : BagAt H b c) (h : TupAt K H v xs) : TupAt K H' v xs := TupAt.bag k hb h
theorem TokAt.bag0 {z : Str} {v : V} {xs : List V} (_ : BagAt H0 b c) (k : KeepB b H H') (hb : BagAt H b c) (h : TokAt K H z v xs) : TokAt K H' z v xs := TokAt.bag k hb h
theorem Toks.bag0 {z : Str} {vs : List V} {ts : List (List V)} (_ : BagAt H0 b c) (k : KeepB b H H') (hb : BagAt H b c) (h : Toks K H z vs ts) : Toks K H' z vs ts := Toks.bag k hb h
theorem Plcs.bag0 {vs : List V} {ps : List (List V)} (_ : BagAt H0 b c) (k : KeepB b H H') (hb : BagAt H b c) (h : Plcs K H vs ps) : Plcs K H' vs ps := Plcs.bag k hb h
theorem PieceAt.bag0 {a : Addr} {z : Str} {ts : List (List V)} (_ : BagAt H0 b c) (k : KeepB b H H') (hb : BagAt H b c) (h : PieceAt K C H a z ts) : PieceAt K C H' a z ts := h.keepBag k hb
theorem TellAt.bag0 {z : Str} {ts : List (List V)} {a1 a2 a3 a4 : Addr} (_ : BagAt H0 b c) (hz : SignsOk z) (k : KeepB b H H') (hb : BagAt H b c) (h : TellAt K H z ts a1 a2 a3 a4) : TellAt K H' z ts a1 a2 a3 a4 := h.keepBag hz k hb
theorem lno0 (_ : BagAt H0 b c) (hb : BagAt H b c) : LstOrNo H b := hb.lst
theorem neb0 {p : Addr} (_ : BagAt H0 b c) (hp : H p = none) (hb : BagAt H b c) : p ≠ b := hb.neb hp
theorem neb0' {p : Addr} (_ : BagAt H0 b c) (hp : H p = none) (hb : BagAt H b c) : b ≠ p := (hb.neb hp).symm
theorem nec0 {p : Addr} (_ : BagAt H0 b c) (hp : H p = none) (hb : BagAt H b c) : p ≠ c := hb.nec hp
theorem nec0' {p : Addr} (_ : BagAt H0 b c) (hp : H p = none) (hb : BagAt H b c) : c ≠ p := (hb.nec hp).symm
end
end KW
namespace KW
open PySem L2
/-- whether a number of a flush is kept in a part -/
def inPart (fs : List Int) (b e w m : Int) : Bool := decide (m + b ∈ fs ∧ 0 ≤ m ∧ (m + b < e ∨ (m + b = e ∧ e = w)))
def partT (ts : List (List V)) (b e : Int) : List (List V) := mergeL (inPart (flushA ts 0 []) b e (placesL ts).length) (((placesL ts).drop b.toNat).take (e - b).toNat)
theorem cut_two {xs : List V} {b e : Int} (h0 : 0 ≤ b) (h1 : b ≤ e) (h2 : e ≤ (xs.length : Int)) : cutV xs (some b) (some e) = (xs.drop b.toNat).take (e - b).toNat := by
  unfold cutV
  have e0 : HT.sIx xs.length 0 (some b) = b.toNat := by
    show (if b < 0 then _ else _) = _
    rw [if_neg (by omega)]
    omega
  have e1 : HT.sIx xs.length xs.length (some e) = e.toNat := by
    show (if e < 0 then _ else _) = _
    rw [if_neg (by omega)]
    omega
  rw [e0, e1]
  congr 1
  omega
theorem filt_step {q : Int → Bool} {f : Int → Int} {fs : List Int} {i : Nat} {n : Int} (h : fs[i]? = some n) : ((fs.take (i + 1)).filter q).map (fun m => V.int (f m)) = ((fs.take i).filter q).map (fun m => V.int (f m)) ++ (if q n = true then [V.int (f n)] else []) := by
  rw [take_succ' h, List.filter_append, List.map_append]
  congr 1
  by_cases hq : q n = true
  · simp [hq]
  · simp [hq]
theorem mem_parts {ps : List (List V)} {z : Str} {b k : Nat} (h : ∀ p ∈ ps, PlOk z p) : ∀ p ∈ (ps.drop b).take k, PlOk z p := fun p hp => h p (List.mem_of_mem_drop (List.mem_of_mem_take hp))
end KW

/-! An own binary operator of two instances of one class. -/
namespace KW
open PySem L2
section
variable {X : Cx} {k : Nat} {f C : Addr} {fd : FuncData} {ps : List Str} {sp : Sp} {E : XK} {nm : String} {op : Operator}
theorem op_binSame (F : FnG X.prog X.w X.K X.mg X.base k f fd ps sp) (hr : RoomG (k + 1) X.A) (hop : op.info.2 = nm) (o : OwnOp X.K C f nm) (hb : Binds X.K fd ps []) (hx : Passes CX0 X E) :
    OpR X (binaryOp op) (fun x y H Q => ∃ a b dx dy fs gs, x = .ref a ∧ y = .ref b ∧ H a = some (.ins C dx fs) ∧ H b = some (.ins C dy gs) ∧ sp [.ref a, .ref b] H Q E) := by
  intro pins s σ H x y v u Q I rx ry h
  obtain ⟨a, b, dx, dy, fs, gs, rfl, rfl, ha, hb', h⟩ := h
  obtain rfl : v = Value.ref a := rx
  obtain rfl : u = Value.ref b := ry
  obtain ⟨mA, J, _⟩ := ins_get I.hok ha
  obtain ⟨od, J, _⟩ := J.look
  obtain ⟨mB, J', _⟩ := ins_get I.hok hb'
  obtain ⟨od', J', _⟩ := J'.look
  obtain ⟨m, hF⟩ := I.fr
  subst hop
  refine PySem.W.binop_K hF I.ok.mod.kin J J'.type o.first o.at_ o.fn ?_
  refine wpAny_mono (run_below F (A' := X.A) rfl (hr.mono (Nat.le_succ _)) hb hx I (xs := [.ref a, .ref b]) (.cons rfl (.cons rfl .nil)) h) (fun v s' q => ?_) fun _ _ z => z
  obtain ⟨y, H', I', ry, q⟩ := q
  have no := relV_notNI ry
  cases v <;> first | exact ⟨y, H', I', ry, q⟩ | (exfalso; revert no; simp [isNI])
end
end KW

/-! What is joined, cut and merged: a piece merged is told by its places and by where its flushes stand. -/
namespace KW
open PySem L2
theorem mergeA_ext {f g : Int → Bool} : ∀ (ps : List (List V)) (n : Int) (acc : List (List V)), (∀ m, n ≤ m → m ≤ n + ps.length → f m = g m) → mergeA f ps n acc = mergeA g ps n acc
  | [], n, acc, h => by
    show (if f n = true then _ else _) = (if g n = true then _ else _)
    rw [h n (Int.le_refl _) (by simp)]
  | p :: ps, n, acc, h => by
    show mergeA f ps (n + 1) _ = mergeA g ps (n + 1) _
    rw [h n (Int.le_refl _) (by rw [List.length_cons]; omega)]
    exact mergeA_ext ps (n + 1) _ fun m h1 h2 => h m (by omega) (by rw [List.length_cons]; omega)
theorem mergeL_ext {f g : Int → Bool} {ps : List (List V)} (h : ∀ m, 0 ≤ m → m ≤ (ps.length : Int) → f m = g m) : mergeL f ps = mergeL g ps :=
  mergeA_ext ps 0 [] fun m h1 h2 => h m h1 (by omega)
/-- a flush stands behind so many signs -/
def flAt : List (List V) → Int → Prop
  | [], _ => False
  | t :: ts, k => match t with
    | [.str _] => k = 0 ∨ flAt ts k
    | _ => flAt ts (k - sizeV t)
theorem flAt_two {k v : V} {r : List V} {ts : List (List V)} {m : Int} : flAt ((k :: v :: r) :: ts) m = flAt ts (m - sizeV (k :: v :: r)) := by cases k <;> rfl
theorem mem_flushA {z : Str} : ∀ (ts : List (List V)) (n : Int) (acc : List Int) (m : Int), (∀ t ∈ ts, tokV z t = true) → (m ∈ flushA ts n acc ↔ m ∈ acc ∨ flAt ts (m - n))
  | [], n, acc, m, _ => by
    show m ∈ acc ↔ m ∈ acc ∨ False
    simp
  | t :: ts, n, acc, m, h => by
    have hr : ∀ u ∈ ts, tokV z u = true := fun u hu => h u (List.mem_cons_of_mem _ hu)
    obtain ⟨k, ⟨rfl, h0⟩ | ⟨a, b, r, rfl⟩⟩ := shapes h t List.mem_cons_self
    · rw [flushA_flush, mem_flushA ts n _ m hr]
      show _ ↔ m ∈ acc ∨ (m - n = 0 ∨ flAt ts (m - n))
      have e : m ∈ (if n ∈ acc then acc else acc ++ [n]) ↔ m ∈ acc ∨ m = n := by
        split
        · rename_i hn
          constructor
          · exact .inl
          · rintro (h1 | rfl)
            · exact h1
            · exact hn
        · rw [List.mem_append, List.mem_singleton]
      rw [e]
      constructor
      · rintro ((h1 | h1) | h1)
        · exact .inl h1
        · exact .inr (.inl (by omega))
        · exact .inr (.inr h1)
      · rintro (h1 | h1 | h1)
        · exact .inl (.inl h1)
        · exact .inl (.inr (by omega))
        · exact .inr h1
    · rw [flushA_big, mem_flushA ts _ acc m hr, flAt_two]
      have e : m - (n + sizeV (a :: b :: r)) = m - n - sizeV (a :: b :: r) := by omega
      rw [e]
theorem mem_flush0 {z : Str} {ts : List (List V)} {m : Int} (h : ∀ t ∈ ts, tokV z t = true) : m ∈ flushA ts 0 [] ↔ flAt ts m := by
  rw [mem_flushA ts 0 [] m h, Int.sub_zero]
  simp
theorem flAt_app {z : Str} : ∀ (ts us : List (List V)) (m : Int), (∀ t ∈ ts, tokV z t = true) → (flAt (ts ++ us) m ↔ flAt ts m ∨ flAt us (m - tsize ts))
  | [], us, m, _ => by
    rw [tsize_nil, Int.sub_zero]
    show flAt us m ↔ False ∨ flAt us m
    simp
  | t :: ts, us, m, h => by
    have hr : ∀ u ∈ ts, tokV z u = true := fun u hu => h u (List.mem_cons_of_mem _ hu)
    rw [List.cons_append, tsize_cons]
    obtain ⟨k, ⟨rfl, h0⟩ | ⟨a, b, r, rfl⟩⟩ := shapes h t List.mem_cons_self
    · show (m = 0 ∨ flAt (ts ++ us) m) ↔ (m = 0 ∨ flAt ts m) ∨ _
      rw [flAt_app ts us m hr, h0, Int.zero_add, or_assoc]
    · rw [flAt_two, flAt_two, flAt_app ts us _ hr]
      have e : m - (sizeV (a :: b :: r) + tsize ts) = m - sizeV (a :: b :: r) - tsize ts := by omega
      rw [e]
theorem mem_flush_app {z : Str} {ts us : List (List V)} {m : Int} (h : ∀ t ∈ ts, tokV z t = true) (h' : ∀ t ∈ us, tokV z t = true) : m ∈ flushA (ts ++ us) 0 [] ↔ m ∈ flushA ts 0 [] ∨ m - tsize ts ∈ flushA us 0 [] := by
  rw [mem_flush0 (z := z) (fun t ht => (List.mem_append.mp ht).elim (h t) (h' t)), mem_flush0 h, mem_flush0 h', flAt_app ts us m h]
/-- a piece merged is told by its places and by where its flushes stand -/
theorem mergedT_of {ts us : List (List V)} (hp : placesL us = placesL ts) (hf : ∀ m, m ∈ flushA us 0 [] ↔ m ∈ flushA ts 0 []) : mergedT us = mergedT ts := by
  unfold mergedT
  rw [hp]
  exact mergeL_ext fun m _ _ => decide_eq_decide.mpr (hf m)
theorem part_grown {z : Str} {ts : List (List V)} {b e : Int} (h : ∀ t ∈ ts, tokV z t = true) (hs : tsize ts ≤ 40) (h0 : 0 ≤ b) (hbe : b < e) (he : e ≤ tsize ts) :
    Grown z (((placesL ts).drop b.toNat).take (e - b).toNat) (flsFrom (inPart (flushA ts 0 []) b e (placesL ts).length) (e - b).toNat 0) (partT ts b e) := by
  have hl := places_len h
  have hpll : (((placesL ts).drop b.toNat).take (e - b).toNat).length = (e - b).toNat := by
    rw [List.length_take, List.length_drop]
    omega
  have g := mergeL_grown (f := inPart (flushA ts 0 []) b e (placesL ts).length) (z := z) (mem_parts (b := b.toNat) (k := (e - b).toNat) (plOk_of h)) (by omega)
  rw [hpll] at g
  exact g
theorem part_flush {z : Str} {ts : List (List V)} {b e m : Int} (h : ∀ t ∈ ts, tokV z t = true) (hs : tsize ts ≤ 40) (h0 : 0 ≤ b) (hbe : b < e) (he : e ≤ tsize ts) :
    m ∈ flushA (partT ts b e) 0 [] ↔ (m + b ∈ flushA ts 0 [] ∧ 0 ≤ m ∧ (m + b < e ∨ (m + b = e ∧ e = tsize ts))) := by
  have hl := places_len h
  rw [(part_grown h hs h0 hbe he).flushes, flsFrom_mem]
  unfold inPart
  rw [decide_eq_true_eq, hl]
  constructor
  · rintro ⟨h1, _⟩; exact h1
  · rintro ⟨h1, h2, h3⟩; exact ⟨⟨h1, h2, h3⟩, h2, by omega⟩
theorem part_size {z : Str} {ts : List (List V)} {b e : Int} (h : ∀ t ∈ ts, tokV z t = true) (hs : tsize ts ≤ 40) (h0 : 0 ≤ b) (hbe : b < e) (he : e ≤ tsize ts) : tsize (partT ts b e) = e - b := by
  have hl := places_len h
  rw [(part_grown h hs h0 hbe he).size, List.length_take, List.length_drop]
  omega
/-- cut in two and joined again -/
theorem cut_join {z : Str} {ts : List (List V)} {c : Int} (h : ∀ t ∈ ts, tokV z t = true) (hs : tsize ts ≤ 40) (h0 : 0 < c) (h1 : c < tsize ts) : mergedT (partT ts 0 c ++ partT ts c (tsize ts)) = mergedT ts := by
  have hl := places_len h
  have g1 := part_grown h hs (Int.le_refl 0) h0 (Int.le_of_lt h1)
  have g2 := part_grown h hs (Int.le_of_lt h0) h1 (Int.le_refl _)
  refine mergedT_of ?_ fun m => ?_
  · rw [places_app, g1.places, g2.places]
    have e1 : (tsize ts - c).toNat = ((placesL ts).drop c.toNat).length := by rw [List.length_drop]; omega
    rw [e1, List.take_length]
    show ((placesL ts).take (c - 0).toNat) ++ _ = _
    rw [Int.sub_zero]
    exact List.take_append_drop _ _
  · rw [mem_flush_app g1.ok g2.ok, part_size h hs (Int.le_refl 0) h0 (Int.le_of_lt h1), part_flush h hs (Int.le_refl 0) h0 (Int.le_of_lt h1), part_flush h hs (Int.le_of_lt h0) h1 (Int.le_refl _)]
    have e1 : m + 0 = m := by omega
    have e2 : m - (c - 0) + c = m := by omega
    rw [e1, e2]
    have hin := flushA_in ts z 0 [] h (by decide) (fun _ h => nomatch h) m
    constructor
    · rintro (h1 | h1) <;> exact h1.1
    · intro hm
      have := hin hm
      by_cases hc : m < c
      · exact .inl ⟨hm, by omega, .inl hc⟩
      · exact .inr ⟨hm, by omega, by omega⟩
/-- a part of a part -/
theorem part_part {z : Str} {ts : List (List V)} {b e b2 e2 : Int} (h : ∀ t ∈ ts, tokV z t = true) (hs : tsize ts ≤ 40) (h0 : 0 ≤ b) (hbe : b < e) (he : e ≤ tsize ts) (h2 : 0 ≤ b2) (hbe2 : b2 < e2) (he2 : e2 ≤ e - b) : partT (partT ts b e) b2 e2 = partT ts (b + b2) (b + e2) := by
  have hl := places_len h
  have g := part_grown h hs h0 hbe he
  have hlen : (placesL (partT ts b e)).length = (e - b).toNat := by rw [g.places, List.length_take, List.length_drop]; omega
  have hps : ((placesL (partT ts b e)).drop b2.toNat).take (e2 - b2).toNat = ((placesL ts).drop (b + b2).toNat).take (b + e2 - (b + b2)).toNat := by
    rw [g.places, List.drop_take, List.drop_drop, List.take_take]
    congr 1
    · omega
    · congr 1; omega
  show mergeL _ _ = mergeL _ _
  rw [hps]
  refine mergeL_ext fun m hm _ => ?_
  unfold inPart
  refine decide_eq_decide.mpr ?_
  rw [part_flush h hs h0 hbe he, hlen]
  have e1 : m + b2 + b = m + (b + b2) := by omega
  rw [e1]
  constructor
  · rintro ⟨⟨h1, h3, h4⟩, h5, h6⟩
    exact ⟨h1, h5, by omega⟩
  · rintro ⟨h1, h3, h4⟩
    exact ⟨⟨h1, by omega, by omega⟩, h3, by omega⟩
/-- joined and merged, or merged, joined and merged -/
theorem join_merged {z : Str} {ts us : List (List V)} (h : ∀ t ∈ ts, tokV z t = true) (h' : ∀ t ∈ us, tokV z t = true) (hs : tsize ts + tsize us ≤ 40) : mergedT (mergedT ts ++ mergedT us) = mergedT (ts ++ us) := by
  have p1 := tsize_nn h
  have p2 := tsize_nn h'
  have g1 := merged_grown h (by omega)
  have g2 := merged_grown h' (by omega)
  refine mergedT_of ?_ fun m => ?_
  · rw [places_app, places_app, g1.places, g2.places]
  · rw [mem_flush_app g1.ok g2.ok, mem_flush_app h h', g1.flushes, g2.flushes, mergedT_size h (by omega)]
end KW

/-! What a piece needs is told by its places and by where its flushes stand; what two pieces need together. -/
namespace KW
open PySem L2
def stepP (p : List V) (fl : Option Int) (m w : Int) : Option Int :=
  match p with
  | [.str k, .int d] => if k = "copy" then (match fl with | none => some (if d - w > m then d - w else m) | some x => if w - x < d then none else some m) else some m
  | _ => some m
def needsP (f : Int → Bool) : List (List V) → Option Int → Int → Int → V
  | [], _, m, _ => .int m
  | p :: ps, fl, m, w => match stepP p (if f w = true then some w else fl) m w with
    | none => .non
    | some m' => needsP f ps (if f w = true then some w else fl) m' (w + 1)
theorem needsP_ext {f g : Int → Bool} : ∀ (ps : List (List V)) (fl : Option Int) (m w : Int), (∀ k, w ≤ k → f k = g k) → needsP f ps fl m w = needsP g ps fl m w
  | [], _, _, _, _ => rfl
  | p :: ps, fl, m, w, h => by
    unfold needsP
    rw [h w (Int.le_refl _)]
    cases stepP p (if g w = true then some w else fl) m w with
    | none => rfl
    | some m' => exact needsP_ext ps _ m' (w + 1) fun k hk => h k (by omega)
/-- a flush just here -/
theorem needsP_here {f g : Int → Bool} {ps : List (List V)} {fl fl' : Option Int} {m w : Int} (h : ∀ k, w < k → f k = g k) (e : (if f w = true then some w else fl) = (if g w = true then some w else fl')) : needsP f ps fl m w = needsP g ps fl' m w := by
  cases ps with
  | nil => rfl
  | cons p ps =>
    unfold needsP
    rw [e]
    cases stepP p (if g w = true then some w else fl') m w with
    | none => rfl
    | some m' => exact needsP_ext ps _ m' (w + 1) fun k hk => h k (by omega)
/-- places that change nothing, no flush among them -/
theorem needsP_skip {f : Int → Bool} {fl : Option Int} {m : Int} {ps : List (List V)} : ∀ (qs : List (List V)) (w : Int), (∀ k, w ≤ k → k < w + qs.length → f k = false) → (∀ q ∈ qs, ∀ k, w ≤ k → stepP q fl m k = some m) → needsP f (qs ++ ps) fl m w = needsP f ps fl m (w + qs.length)
  | [], w, _, _ => by
    show needsP f ps fl m w = needsP f ps fl m (w + ((0 : Nat) : Int))
    rw [show w + ((0 : Nat) : Int) = w by omega]
  | q :: qs, w, hf, hq => by
    rw [List.cons_append]
    have h0 : f w = false := hf w (Int.le_refl _) (by rw [List.length_cons]; omega)
    have e : (if f w = true then some w else fl) = fl := by rw [h0]; rfl
    show (match stepP q (if f w = true then some w else fl) m w with | none => _ | some m' => needsP f (qs ++ ps) (if f w = true then some w else fl) m' (w + 1)) = _
    rw [e, hq q List.mem_cons_self w (Int.le_refl _)]
    show needsP f (qs ++ ps) fl m (w + 1) = _
    rw [needsP_skip qs (w + 1) (fun k h1 h2 => hf k (by omega) (by rw [List.length_cons]; omega)) (fun q' hq' k hk => hq q' (List.mem_cons_of_mem _ hq') k (by omega))]
    rw [List.length_cons, show w + 1 + (qs.length : Int) = w + ((qs.length + 1 : Nat) : Int) by omega]
theorem flAt_nn {z : Str} : ∀ (ts : List (List V)) (m : Int), (∀ t ∈ ts, tokV z t = true) → flAt ts m → 0 ≤ m
  | [], _, _, h => h.elim
  | t :: ts, m, h, hm => by
    have hr : ∀ u ∈ ts, tokV z u = true := fun u hu => h u (List.mem_cons_of_mem _ hu)
    have hs := (size_nn (h t List.mem_cons_self)).1
    obtain ⟨k, ⟨rfl, h0⟩ | ⟨a, b, r, rfl⟩⟩ := shapes h t List.mem_cons_self
    · have hm : m = 0 ∨ flAt ts m := hm
      rcases hm with h1 | h1
      · omega
      · exact flAt_nn ts m hr h1
    · rw [flAt_two] at hm
      have := flAt_nn ts _ hr hm
      omega
open Classical in
theorem needs_places {z : Str} : ∀ (ts : List (List V)), (∀ t ∈ ts, tokV z t = true) → ∀ (fl : Option Int) (m w : Int), needsL ts fl m w = needsP (fun k => decide (flAt ts (k - w))) (placesL ts) fl m w := by
  intro ts
  induction ts with
  | nil => intro _ fl m w; rfl
  | cons t r ih =>
    intro h fl m w
    have hr : ∀ t ∈ r, tokV z t = true := fun u hu => h u (List.mem_cons_of_mem _ hu)
    have hpl : placesL (t :: r) = placeT t ++ placesL r := rfl
    have hneg : ∀ k, k < 0 → ¬ flAt r k := fun k hk hc => by
      have := flAt_nn r k hr hc
      omega
    obtain ⟨kd, rest, rfl, hk⟩ := tok_inv (h t List.mem_cons_self)
    rcases hk with ⟨rfl, rfl⟩ | ⟨y, rfl, rfl, h1, h2, h3⟩ | ⟨y, rfl, rfl, h1⟩ | ⟨d, n, hkd, rfl, h1, h2, h3, h4⟩
    · rw [hpl]
      show needsL r (some w) m w = needsP _ (placesL r) fl m w
      rw [ih hr]
      refine needsP_here (fun k hk => ?_) ?_
      · refine decide_eq_decide.mpr ?_
        show flAt r (k - w) ↔ (k - w = 0 ∨ flAt r (k - w))
        constructor
        · exact .inr
        · rintro (h1 | h1)
          · omega
          · exact h1
      · have e2 : decide (flAt ([.str "flush"] :: r) (w - w)) = true := decide_eq_true (Or.inl (by omega) : w - w = 0 ∨ flAt r (w - w))
        simp only [e2, if_true]
        split <;> rfl
    · rw [hpl]
      show needsL r fl m (w + sizeV [.str "text", .str y]) = _
      have hlen := place_len (h _ List.mem_cons_self)
      have hz := (size_nn (h _ List.mem_cons_self)).1
      rw [ih hr, needsP_skip (placeT [.str "text", .str y]) w ?_ ?_, hlen]
      · refine needsP_ext _ _ _ _ fun k hk => decide_eq_decide.mpr ?_
        rw [flAt_two, show k - (w + sizeV [.str "text", .str y]) = k - w - sizeV [.str "text", .str y] by omega]
      · intro k h1 h2
        refine decide_eq_false ?_
        rw [flAt_two]
        exact hneg _ (by omega)
      · intro q hq k _
        rw [place_text] at hq
        obtain ⟨c, _, rfl⟩ := List.mem_map.mp hq
        rfl
    · rw [hpl]
      show needsL r fl m (w + sizeV [.str "any", .str y]) = _
      have hlen := place_len (h _ List.mem_cons_self)
      have hz := (size_nn (h _ List.mem_cons_self)).1
      rw [ih hr, needsP_skip (placeT [.str "any", .str y]) w ?_ ?_, hlen]
      · refine needsP_ext _ _ _ _ fun k hk => decide_eq_decide.mpr ?_
        rw [flAt_two, show k - (w + sizeV [.str "any", .str y]) = k - w - sizeV [.str "any", .str y] by omega]
      · intro k h1 h2
        refine decide_eq_false ?_
        rw [flAt_two]
        exact hneg _ (by omega)
      · intro q hq k _
        rw [place_any] at hq
        cases List.mem_singleton.mp hq
        rfl
    · rw [hpl]
      have hlen := place_len (h _ List.mem_cons_self)
      have hsz : sizeV [.str kd, .int d, .int n] = n := rfl
      have hpt : placeT [.str kd, .int d, .int n] = List.replicate n.toNat [.str kd, .int d] := rfl
      have hno : ∀ k, w ≤ k → k < w + n → decide (flAt ([.str kd, .int d, .int n] :: r) (k - w)) = false := fun k _ h2 => by
        refine decide_eq_false ?_
        rw [flAt_two]
        exact hneg _ (by rw [hsz]; omega)
      have hext : ∀ fl' m', needsL r fl' m' (w + n) = needsP (fun k => decide (flAt ([.str kd, .int d, .int n] :: r) (k - w))) (placesL r) fl' m' (w + n) := fun fl' m' => by
        rw [ih hr]
        refine needsP_ext _ _ _ _ fun k hk => decide_eq_decide.mpr ?_
        rw [flAt_two, show k - (w + n) = k - w - sizeV [.str kd, .int d, .int n] by rw [hsz]; omega]
      have hrl : ((List.replicate n.toNat [V.str kd, V.int d]).length : Int) = n := by rw [List.length_replicate]; omega
      rw [hpt]
      by_cases hc : kd = "copy"
      · obtain ⟨q, hq⟩ : ∃ q, n.toNat = q + 1 := ⟨n.toNat - 1, by omega⟩
        have hrq : ((List.replicate q [V.str kd, V.int d]).length : Int) = n - 1 := by rw [List.length_replicate]; omega
        rw [hq, List.replicate_succ, List.cons_append]
        have h0 := hno w (Int.le_refl _) (by omega)
        cases fl with
        | none =>
          show needsL _ _ _ _ = _
          unfold needsL stepN needsP
          simp only [h0, Bool.false_eq_true, if_false, stepP, if_pos hc]
          rw [needsP_skip (List.replicate q [V.str kd, V.int d]) (w + 1) ?_ ?_, hrq, hext, show w + 1 + (n - 1) = w + n by omega]
          · intro k h1 h2
            exact hno k (by omega) (by omega)
          · intro p hp k hk
            cases List.eq_of_mem_replicate hp
            simp only [stepP, if_pos hc]
            congr 1
            repeat' split
            all_goals omega
        | some x =>
          unfold needsL stepN needsP
          simp only [h0, Bool.false_eq_true, if_false, stepP, if_pos hc]
          by_cases hd : w - x < d
          · rw [if_pos hd, if_pos hd]
          · rw [if_neg hd, if_neg hd]
            show needsL r (some x) m (w + n) = _
            show _ = needsP _ _ (some x) m (w + 1)
            rw [needsP_skip (List.replicate q [V.str kd, V.int d]) (w + 1) ?_ ?_, hrq, hext, show w + 1 + (n - 1) = w + n by omega]
            · intro k h1 h2
              exact hno k (by omega) (by omega)
            · intro p hp k hk
              cases List.eq_of_mem_replicate hp
              simp only [stepP, if_pos hc]
              rw [if_neg (by omega)]
      · unfold needsL stepN
        simp only [if_neg hc]
        rw [needsP_skip (List.replicate n.toNat [V.str kd, V.int d]) w ?_ ?_, hrl, hext]
        · intro k h1 h2
          exact hno k h1 (by omega)
        · intro p hp k hk
          cases List.eq_of_mem_replicate hp
          simp only [stepP, if_neg hc]
theorem needs_of {z : Str} {ts us : List (List V)} (h : ∀ t ∈ ts, tokV z t = true) (h' : ∀ t ∈ us, tokV z t = true) (hp : placesL us = placesL ts) (hf : ∀ m, m ∈ flushA us 0 [] ↔ m ∈ flushA ts 0 []) : needsL us none 0 0 = needsL ts none 0 0 := by
  rw [needs_places us h', needs_places ts h, hp]
  refine needsP_ext _ _ _ _ fun k _ => decide_eq_decide.mpr ?_
  rw [Int.sub_zero, ← mem_flush0 h, ← mem_flush0 h']
  exact hf k
end KW

/-! What two pieces need together. -/
namespace KW
open PySem L2
def runN : List (List V) → Option Int → Int → Int → Option (Option Int × Int × Int)
  | [], fl, m, w => some (fl, m, w)
  | t :: r, fl, m, w => match stepN t fl m w with
    | none => none
    | some (a, b, c) => runN r a b c
theorem needsL_app : ∀ (ts us : List (List V)) (fl : Option Int) (m w : Int), needsL (ts ++ us) fl m w = match runN ts fl m w with | none => .non | some (a, b, c) => needsL us a b c
  | [], _, _, _, _ => rfl
  | t :: r, us, fl, m, w => by
    rw [List.cons_append]
    show (match stepN t fl m w with | none => V.non | some (a, b, c) => needsL (r ++ us) a b c) = match (match stepN t fl m w with | none => none | some (a, b, c) => runN r a b c) with | none => V.non | some (a, b, c) => needsL us a b c
    cases stepN t fl m w with
    | none => rfl
    | some s => exact needsL_app r us s.1 s.2.1 s.2.2
theorem needsL_run (ts : List (List V)) (fl : Option Int) (m w : Int) : needsL ts fl m w = match runN ts fl m w with | none => .non | some (_, b, _) => .int b := by
  have e := needsL_app ts [] fl m w
  rw [List.append_nil] at e
  rw [e]
  cases runN ts fl m w with
  | none => rfl
  | some s => rfl
theorem put_last {acc : List Int} {w : Int} (h : Asc acc w) : (if w ∈ acc then acc else acc ++ [w]).getLast? = some w := by
  split
  · rename_i hm
    cases e : acc.getLast? with
    | none =>
      rw [List.getLast?_eq_none_iff] at e
      rw [e] at hm
      cases hm
    | some x =>
      obtain ⟨ys, rfl⟩ := List.getLast?_eq_some_iff.mp e
      rw [List.mem_append, List.mem_singleton] at hm
      rcases hm with hm | hm
      · have h1 := (List.pairwise_append.mp h.1).2.2 w hm x (List.mem_singleton.mpr rfl)
        have h2 := h.2 x (by simp)
        omega
      · rw [hm]
  · simp
theorem run_facts {z : Str} : ∀ (ts : List (List V)), (∀ t ∈ ts, tokV z t = true) → ∀ (fl : Option Int) (m w : Int) (fl' : Option Int) (m' w' : Int), runN ts fl m w = some (fl', m', w') →
    w' = w + tsize ts ∧ m ≤ m' ∧ ∀ acc, Asc acc w → acc.getLast? = fl → (flushA ts w acc).getLast? = fl' := by
  intro ts
  induction ts with
  | nil =>
    intro _ fl m w fl' m' w' e
    cases e
    rw [tsize_nil]
    exact ⟨by omega, Int.le_refl _, fun acc _ h => h⟩
  | cons t r ih =>
    intro h fl m w fl' m' w' e
    have hr : ∀ t ∈ r, tokV z t = true := fun u hu => h u (List.mem_cons_of_mem _ hu)
    have hz := (size_nn (h t List.mem_cons_self)).1
    rw [tsize_cons]
    obtain ⟨kd, rest, rfl, hk⟩ := tok_inv (h t List.mem_cons_self)
    rcases hk with ⟨rfl, rfl⟩ | ⟨y, rfl, rfl, h1, h2, h3⟩ | ⟨y, rfl, rfl, h1⟩ | ⟨d, n, hkd, rfl, h1, h2, h3, h4⟩
    · obtain ⟨a1, a2, a3⟩ := ih hr (some w) m w fl' m' w' e
      refine ⟨by rw [a1, (show sizeV [.str "flush"] = 0 from rfl)]; omega, a2, fun acc ha _ => ?_⟩
      rw [flushA_flush]
      exact a3 _ ha.put (put_last ha)
    · obtain ⟨a1, a2, a3⟩ := ih hr fl m (w + sizeV [.str "text", .str y]) fl' m' w' e
      refine ⟨by rw [a1]; omega, a2, fun acc ha hl => ?_⟩
      rw [flushA_two]
      exact a3 _ (ha.mono (by omega)) hl
    · obtain ⟨a1, a2, a3⟩ := ih hr fl m (w + sizeV [.str "any", .str y]) fl' m' w' e
      refine ⟨by rw [a1]; omega, a2, fun acc ha hl => ?_⟩
      rw [flushA_two]
      exact a3 _ (ha.mono (by omega)) hl
    · have hsz : sizeV [.str kd, .int d, .int n] = n := rfl
      by_cases hc : kd = "copy"
      · cases fl with
        | none =>
          unfold runN stepN at e
          simp only [if_pos hc] at e
          obtain ⟨a1, a2, a3⟩ := ih hr none _ (w + n) fl' m' w' e
          refine ⟨by rw [a1, hsz]; omega, ?_, fun acc ha hl => ?_⟩
          · split at a2 <;> omega
          · rw [flushA_three, hsz]
            exact a3 _ (ha.mono (by omega)) hl
        | some x =>
          unfold runN stepN at e
          simp only [if_pos hc] at e
          by_cases hd : w - x < d
          · rw [if_pos hd] at e; cases e
          · rw [if_neg hd] at e
            obtain ⟨a1, a2, a3⟩ := ih hr (some x) m (w + n) fl' m' w' e
            refine ⟨by rw [a1, hsz]; omega, a2, fun acc ha hl => ?_⟩
            rw [flushA_three, hsz]
            exact a3 _ (ha.mono (by omega)) hl
      · unfold runN stepN at e
        simp only [if_neg hc] at e
        obtain ⟨a1, a2, a3⟩ := ih hr fl m (w + n) fl' m' w' e
        refine ⟨by rw [a1, hsz]; omega, a2, fun acc ha hl => ?_⟩
        rw [flushA_three, hsz]
        exact a3 _ (ha.mono (by omega)) hl
def shiftN (N k : Int) : V → V
  | .int n => .int (if n - k > N then n - k else N)
  | v => v
theorem needs_shiftN {z : Str} {k N : Int} : ∀ (ts : List (List V)), (∀ t ∈ ts, tokV z t = true) → ∀ (fl : Option Int) (m w : Int), needsL ts (fl.map (· + k)) (if m - k > N then m - k else N) (w + k) = shiftN N k (needsL ts fl m w) := by
  intro ts
  induction ts with
  | nil => intro _ fl m w; rfl
  | cons t r ih =>
    intro h fl m w
    have hr : ∀ t ∈ r, tokV z t = true := fun u hu => h u (List.mem_cons_of_mem _ hu)
    obtain ⟨kd, rest, rfl, hk⟩ := tok_inv (h t List.mem_cons_self)
    rcases hk with ⟨rfl, rfl⟩ | ⟨y, rfl, rfl, h1, h2, h3⟩ | ⟨y, rfl, rfl, h1⟩ | ⟨d, n, hkd, rfl, h1, h2, h3, h4⟩
    · exact ih hr (some w) m w
    · have e := ih hr fl m (w + sizeV [.str "text", .str y])
      rw [show w + sizeV [.str "text", .str y] + k = w + k + sizeV [.str "text", .str y] by omega] at e
      exact e
    · have e := ih hr fl m (w + sizeV [.str "any", .str y])
      rw [show w + sizeV [.str "any", .str y] + k = w + k + sizeV [.str "any", .str y] by omega] at e
      exact e
    · by_cases hc : kd = "copy"
      · cases fl with
        | none =>
          have e := ih hr none (if d - w > m then d - w else m) (w + n)
          show needsL _ _ _ _ = _
          unfold needsL stepN
          simp only [if_pos hc, Option.map_none]
          rw [show w + k + n = w + n + k by omega]
          rw [← show _ = shiftN N k (needsL r none (if d - w > m then d - w else m) (w + n)) from e]
          congr 1
          repeat' split
          all_goals omega
        | some f =>
          unfold needsL stepN
          simp only [if_pos hc, Option.map_some]
          by_cases hd : w - f < d
          · rw [if_pos (by omega), if_pos hd]
            rfl
          · rw [if_neg (by omega), if_neg hd]
            have e := ih hr (some f) m (w + n)
            rw [show w + k + n = w + n + k by omega]
            exact e
      · unfold needsL stepN
        simp only [if_neg hc]
        have e := ih hr fl m (w + n)
        rw [show w + k + n = w + n + k by omega]
        exact e
/-- behind a flush what is needed no more grows -/
theorem needs_set {z : Str} {k M : Int} : ∀ (ts : List (List V)), (∀ t ∈ ts, tokV z t = true) → ∀ (x m w : Int), (needsL ts (some x) m w = .non ∧ needsL ts (some (x + k)) M (w + k) = .non) ∨ (needsL ts (some x) m w = .int m ∧ needsL ts (some (x + k)) M (w + k) = .int M) := by
  intro ts
  induction ts with
  | nil => intro _ x m w; exact .inr ⟨rfl, rfl⟩
  | cons t r ih =>
    intro h x m w
    have hr : ∀ t ∈ r, tokV z t = true := fun u hu => h u (List.mem_cons_of_mem _ hu)
    obtain ⟨kd, rest, rfl, hk⟩ := tok_inv (h t List.mem_cons_self)
    rcases hk with ⟨rfl, rfl⟩ | ⟨y, rfl, rfl, h1, h2, h3⟩ | ⟨y, rfl, rfl, h1⟩ | ⟨d, n, hkd, rfl, h1, h2, h3, h4⟩
    · exact ih hr w m w
    · have e := ih hr x m (w + sizeV [.str "text", .str y])
      rw [show w + sizeV [.str "text", .str y] + k = w + k + sizeV [.str "text", .str y] by omega] at e
      exact e
    · have e := ih hr x m (w + sizeV [.str "any", .str y])
      rw [show w + sizeV [.str "any", .str y] + k = w + k + sizeV [.str "any", .str y] by omega] at e
      exact e
    · have e := ih hr x m (w + n)
      rw [show w + n + k = w + k + n by omega] at e
      by_cases hc : kd = "copy"
      · unfold needsL stepN
        simp only [if_pos hc]
        by_cases hd : w - x < d
        · rw [if_pos hd, if_pos (by omega)]
          exact .inl ⟨rfl, rfl⟩
        · rw [if_neg hd, if_neg (by omega)]
          exact e
      · unfold needsL stepN
        simp only [if_neg hc]
        exact e
theorem needs_mono {z : Str} (ts : List (List V)) (h : ∀ t ∈ ts, tokV z t = true) (fl : Option Int) (m w : Int) : needsL ts fl m w = .non ∨ ∃ n, needsL ts fl m w = .int n ∧ m ≤ n := by
  rw [needsL_run]
  cases e : runN ts fl m w with
  | none => exact .inl rfl
  | some s => exact .inr ⟨_, rfl, (run_facts ts h fl m w s.1 s.2.1 s.2.2 e).2.1⟩
def heldN (N c : Int) : V → V
  | .int n => if n ≤ c then .int N else .non
  | _ => .non
/-- behind a flush f of the first piece, k signs long -/
theorem needs_held {z : Str} {f k N : Int} : ∀ (ts : List (List V)), (∀ t ∈ ts, tokV z t = true) → ∀ (m w : Int), m ≤ k - f → needsL ts (some f) N (w + k) = heldN N (k - f) (needsL ts none m w) := by
  intro ts
  induction ts with
  | nil =>
    intro _ m w hm
    show V.int N = if m ≤ k - f then V.int N else V.non
    rw [if_pos hm]
  | cons t r ih =>
    intro h m w hm
    have hr : ∀ t ∈ r, tokV z t = true := fun u hu => h u (List.mem_cons_of_mem _ hu)
    obtain ⟨kd, rest, rfl, hk⟩ := tok_inv (h t List.mem_cons_self)
    rcases hk with ⟨rfl, rfl⟩ | ⟨y, rfl, rfl, h1, h2, h3⟩ | ⟨y, rfl, rfl, h1⟩ | ⟨d, n, hkd, rfl, h1, h2, h3, h4⟩
    · show needsL r (some (w + k)) N (w + k) = heldN N (k - f) (needsL r (some w) m w)
      rcases needs_set (k := k) (M := N) r hr w m w with ⟨e1, e2⟩ | ⟨e1, e2⟩
      · rw [e1, e2]; rfl
      · rw [e1, e2]
        show V.int N = if m ≤ k - f then V.int N else V.non
        rw [if_pos hm]
    · have e := ih hr m (w + sizeV [.str "text", .str y]) hm
      rw [show w + sizeV [.str "text", .str y] + k = w + k + sizeV [.str "text", .str y] by omega] at e
      exact e
    · have e := ih hr m (w + sizeV [.str "any", .str y]) hm
      rw [show w + sizeV [.str "any", .str y] + k = w + k + sizeV [.str "any", .str y] by omega] at e
      exact e
    · by_cases hc : kd = "copy"
      · unfold needsL stepN
        simp only [if_pos hc]
        by_cases hd : w + k - f < d
        · rw [if_pos hd, if_pos (by omega)]
          rcases needs_mono r hr none (d - w) (w + n) with e | ⟨q, e, hq⟩
          · rw [e]; rfl
          · rw [e]
            show V.non = if q ≤ k - f then V.int N else V.non
            rw [if_neg (by omega)]
        · rw [if_neg hd]
          have e := ih hr (if d - w > m then d - w else m) (w + n) (by split <;> omega)
          rw [show w + n + k = w + k + n by omega] at e
          exact e
      · unfold needsL stepN
        simp only [if_neg hc]
        have e := ih hr m (w + n) hm
        rw [show w + n + k = w + k + n by omega] at e
        exact e
/-- what the law tells of two needs -/
def lawN (n1 n2 : V) (last : Option Int) (len : Int) : V :=
  match n1, n2, last with
  | .int a, .int b, some x => if b ≤ len - x then .int a else .non
  | .int a, .int b, none => if b ≤ a + len then .int a else .int (b - len)
  | _, _, _ => .non
theorem needs_join {z : Str} {ts us : List (List V)} (h : ∀ t ∈ ts, tokV z t = true) (h' : ∀ t ∈ us, tokV z t = true) :
    needsL (ts ++ us) none 0 0 = lawN (needsL ts none 0 0) (needsL us none 0 0) (flushA ts 0 []).getLast? (tsize ts) := by
  have hnn := tsize_nn h
  rw [needsL_app, needsL_run ts]
  cases e : runN ts none 0 0 with
  | none => rfl
  | some s =>
    obtain ⟨fl, N, w⟩ := s
    obtain ⟨rfl, hN, hl⟩ := run_facts ts h none 0 0 fl N w e
    rw [hl [] (Asc.nil (n := 0)) rfl]
    show needsL us fl N (0 + tsize ts) = lawN (.int N) (needsL us none 0 0) fl (tsize ts)
    have h2 := needs_mono us h' none 0 0
    cases fl with
    | none =>
      have q := needs_shiftN (k := tsize ts) (N := N) us h' none 0 0
      rw [if_neg (by omega)] at q
      have q : needsL us none N (0 + tsize ts) = _ := q
      rw [q]
      rcases h2 with e2 | ⟨n, e2, h0⟩
      · rw [e2]; rfl
      · rw [e2]
        show V.int (if n - tsize ts > N then n - tsize ts else N) = if n ≤ N + tsize ts then V.int N else V.int (n - tsize ts)
        by_cases hc : n ≤ N + tsize ts
        · rw [if_pos hc, if_neg (by omega)]
        · rw [if_neg hc, if_pos (by omega)]
    | some x =>
      have hx : x ≤ tsize ts := by
        have hm : x ∈ flushA ts 0 [] := List.mem_of_getLast? (hl [] (Asc.nil (n := 0)) rfl)
        have := flushA_in ts z 0 [] h (by decide) (fun _ h => nomatch h) x hm
        omega
      rw [needs_held us h' 0 0 (by omega)]
      rcases h2 with e2 | ⟨n, e2, h0⟩
      · rw [e2]; rfl
      · rw [e2]; rfl
end KW

/-! Rules for lists of signs, sets of ints, texts that grow. -/
namespace KW
open PySem PySem.Spec PyProof.Rows L2
section
variable {X : Cx}
/-- the signs of a text, as values -/
def sgs (z : Str) : List V := (cl z).map fun c => V.str (sg c)
theorem vals_signs {z : Str} {acc : Array Value} (h : ItemsOf (SignAt z) acc z.cps.size) : Vals (sgs z) acc.toList := by
  have key : ∀ (n : Nat) (l : List Value) (cs : List Nat), cs.length = n → l.length = n → (∀ (j : Nat) (v : Value), l[j]? = some v → ∃ c u, cs[j]? = some c ∧ v = Value.str ⟨#[c]⟩ u) → Vals (cs.map fun c => V.str (sg c)) l := by
    intro n
    induction n with
    | zero =>
      intro l cs h1 h2 _
      cases cs with
      | nil => cases l with
        | nil => exact .nil
        | cons _ _ => cases h2
      | cons _ _ => cases h1
    | succ n ih =>
      intro l cs h1 h2 h3
      cases cs with
      | nil => cases h1
      | cons c cs =>
        cases l with
        | nil => cases h2
        | cons v l =>
          refine .cons ?_ (ih l cs (Nat.succ.inj h1) (Nat.succ.inj h2) fun j v' hv => h3 (j + 1) v' hv)
          obtain ⟨c', u, hc, rfl⟩ := h3 0 v rfl
          cases hc
          exact ⟨u, rfl⟩
  obtain ⟨h1, h2⟩ := h
  refine key z.cps.size _ _ (by simp) (by rw [Array.length_toList]; exact h1) fun j v hv => ?_
  rw [Array.getElem?_toList] at hv
  obtain ⟨c, u, hc, e⟩ := h2 j v hv
  exact ⟨c, u, by rw [Array.getElem?_toList]; exact hc, e⟩
/-- list(s) of a text -/
theorem call_list_sg (hc : X.calm = true) : CallR X (.type "list") (fun xs H Q => ∃ z : Str, xs = [.str z] ∧ z.length ≤ 1000000 ∧ ∀ l, H l = none → Q (.ref l) (upd H l (.lst (sgs z)))) := by
  intro pins s σ H xs us Q I r h
  obtain ⟨z, rfl, hz, q⟩ := h
  obtain ⟨u, rfl, rx⟩ := vals1 r
  obtain ⟨t, rfl⟩ := rx
  have hn : z.cps.size ≤ sizeLine := by
    have : z.cps.size ≤ 1000000 := hz
    rw [sizeLine_eq]; omega
  refine PySem.call_list_str (I.ok.hd hc) z t (fun h' tk acc' c' kp e hi => ?_) hn
  refine ⟨.ref s.heap.objs.size, _, I.laid kp (Nat.le_refl _) (show ObjOk X.prog X.w _ _ _ (.lst (sgs z)) from ⟨?_, acc'.toList, c', vals_signs hi, ?_⟩), rfl, q _ (I.hok.fresh (Nat.le_refl _))⟩
  · show ((cl z).map fun c => V.str (sg c)).length ≤ sizeLine
    rw [List.length_map, cl_len, sizeLine_eq]; omega
  · rw [Array.toArray_toList]; exact e
theorem call_list_ofK {K : PySem.W.Frag} (h : X.K = K) : CallR X (.type "list") (fun xs H Q => ∃ p ys, xs = [.ref p] ∧ (SqL K H p ys ∨ SqT K H p ys) ∧ ∀ l, H l = none → Q (.ref l) (upd H l (.lst ys))) := by subst h; exact call_list_of
/-- a set of ints, by its members alone -/
def SetI (P : Program) (w : World) (a : Addr) (ns : List Int) : HO := .ext fun h => ∃ n, h.SetOf (intKind P w) a (fun k => decide (k ∈ ns)) n
theorem setI_ok {P : Program} {w : World} {H : Hp} {h : Heap} {a : Addr} {ns : List Int} {n : Nat} (S : h.SetOf (intKind P w) a (fun k => decide (k ∈ ns)) n) : ObjOk P w H h a (SetI P w a ns) := by
  have S0 := S
  obtain ⟨o, es, ep, tb, ho, rest⟩ := S
  exact ⟨⟨n, S0⟩, ⟨o, ho⟩, fun h1 h2 p k => by
    obtain ⟨m, o1, es1, ep1, tb1, ho1, r1⟩ := p
    exact ⟨m, o1, es1, ep1, tb1, k _ ho1, r1⟩⟩
theorem firstMet_is (ns : List Int) : (fun k' => (PyProof.Rows.firstMet (fun i => ns.getD i 0) ns.length).any (· == k')) = fun k => decide (k ∈ ns) := by
  funext k
  rw [PyProof.Rows.firstMet_any]
  have e : (List.range ns.length).map (fun i => ns.getD i 0) = ns := by
    refine List.ext_getElem (by simp) fun i h1 h2 => ?_
    simp at h1
    simp [h1]
  rw [e, List.any_beq']
  simp
/-- set(xs) of a list of ints -/
def rSetL (K : PySem.W.Frag) (P : Program) (w : World) : List V → Hp → VK → Prop := fun xs H Q => ∃ (a : Addr) (ns : List Int), xs = [.ref a] ∧ SqL K H a (ns.map V.int) ∧ ns.length ≤ 1000 ∧ ∀ p, H p = none → Q (.ref p) (upd H p (SetI P w p ns))
theorem call_set_ints (hc : X.calm = true) : CallR X (.type "set") (rSetL X.K X.prog X.w) := by
  intro pins s σ H xs us Q I r h
  obtain ⟨a, ns, rfl, ha, hn, q⟩ := h
  obtain ⟨u, rfl, rx⟩ := vals1 r
  obtain rfl : u = Value.ref a := rx
  obtain ⟨its, r', pl, hz⟩ := I.list ha
  have hi := ints_of_vals r'
  have hsz : its.toArray.size = ns.length := by
    have := r'.length
    rw [List.length_map] at this
    rw [List.size_toArray]; omega
  refine PySem.call_set_list (ns := ns) (I.ok.hd hc) pl.isList hi (by unfold scanBound; omega) fun h' tk S k => ?_
  rw [hsz, firstMet_is] at S
  refine ⟨.ref s.heap.objs.size, _, I.laid (fun b o e => k b o (Heap.lt_size e) e) (Nat.le_refl _) (setI_ok S), rfl, q _ (I.hok.fresh (Nat.le_refl _))⟩
def rInSI (P : Program) (w : World) (neg : Bool) : V → V → Hp → VK → Prop := fun x y H Q => ∃ (k : Int) (a : Addr) (ns : List Int), x = V.int k ∧ y = V.ref a ∧ H a = some (SetI P w a ns) ∧ Q (.bl (neg ^^ decide (k ∈ ns))) H
theorem setI_get {pins : List (Addr × Obj)} {σ : L2.St} {H : Hp} {s : Shared} {a : Addr} {ns : List Int} (I : Inv X pins σ H s) (ha : H a = some (SetI X.prog X.w a ns)) : ∃ n, s.heap.SetOf (intKind X.prog X.w) a (fun k => decide (k ∈ ns)) n := by
  have x : ObjOk X.prog X.w H s.heap a (.ext fun h => ∃ n, h.SetOf (intKind X.prog X.w) a (fun k => decide (k ∈ ns)) n) := I.hok a _ ha
  exact x.1
theorem op_inSI : OpR X (compareOp .In) (rInSI X.prog X.w false) := by
  intro pins s σ H x y v u Q I rx ry h
  obtain ⟨k, a, ns, rfl, rfl, ha, q⟩ := h
  obtain ⟨tk, rfl⟩ := rx
  obtain rfl : u = Value.ref a := ry
  obtain ⟨n, S⟩ := setI_get I ha
  rw [Bool.false_xor] at q
  exact wpAny_inSet_of (intKind_is _ _ _ _) rfl S ⟨.bl _, H, I.tok _, rfl, q⟩
theorem op_notInSI : OpR X (compareOp .NotIn) (rInSI X.prog X.w true) := by
  intro pins s σ H x y v u Q I rx ry h
  obtain ⟨k, a, ns, rfl, rfl, ha, q⟩ := h
  obtain ⟨tk, rfl⟩ := rx
  obtain rfl : u = Value.ref a := ry
  obtain ⟨n, S⟩ := setI_get I ha
  rw [Bool.true_xor] at q
  exact wpAny_notInSet_of (intKind_is _ _ _ _) rfl S ⟨.bl _, H, I.tok _, rfl, q⟩
/-- text += text -/
theorem ip_addS : PIp X .Add rAddS := fun pins s σ H x y v u Q I rx ry h => in_addS pins s σ H x y v u Q I rx ry h
end
end KW

/-! Texts as lists of codes: cut, repeated; what a copy writes; readers. -/
namespace KW
open PySem L2
abbrev stL (cs : List Nat) : Str := ⟨cs.toArray⟩
theorem cl_stL (cs : List Nat) : cl (stL cs) = cs := by simp [cl]
theorem stL_cl (z : Str) : stL (cl z) = z := by
  cases z
  simp [cl, stL]
theorem stL_len (cs : List Nat) : (stL cs).length = cs.length := by simp [Str.length]
theorem stL_inj {a b : List Nat} (h : stL a = stL b) : a = b := by rw [← cl_stL a, h, cl_stL]
theorem str_eq {x y : Str} (h : cl x = cl y) : x = y := by rw [← stL_cl x, h, stL_cl]
theorem app_stL (a b : List Nat) : stL a ++ stL b = stL (a ++ b) := by
  refine str_eq ?_
  show ((stL a).cps ++ (stL b).cps).toList = _
  simp [cl]
theorem cut_st (cs : List Nat) (lo hi : Option Int) : cutS (stL cs) lo hi = stL ((cs.drop (HT.sIx cs.length 0 lo)).take (HT.sIx cs.length cs.length hi - HT.sIx cs.length 0 lo)) := by
  unfold cutS
  rw [stL_len]
/-- s[:n] -/
theorem cut_head {cs : List Nat} {n : Int} (h : 0 ≤ n) : cutS (stL cs) none (some n) = stL (cs.take n.toNat) := by
  rw [cut_st]
  have h0 : HT.sIx cs.length 0 none = 0 := rfl
  have h1 : HT.sIx cs.length cs.length (some n) = min n.toNat cs.length := by
    show (if n < 0 then (n + (cs.length : Int)).toNat else min n.toNat cs.length) = _
    rw [if_neg (by omega)]
  rw [h0, h1, List.drop_zero, Nat.sub_zero]
  congr 1
  rw [Nat.min_def]
  split
  · rfl
  · rw [List.take_length, List.take_of_length_le (by omega)]
/-- s[n:] -/
theorem cut_from {cs : List Nat} {n : Int} (h : 0 ≤ n) : cutS (stL cs) (some n) none = stL (cs.drop n.toNat) := by
  rw [cut_st]
  have h0 : HT.sIx cs.length cs.length none = cs.length := rfl
  have h1 : HT.sIx cs.length 0 (some n) = min n.toNat cs.length := by
    show (if n < 0 then (n + (cs.length : Int)).toNat else min n.toNat cs.length) = _
    rw [if_neg (by omega)]
  rw [h0, h1]
  congr 1
  rw [Nat.min_def]
  split
  · rw [List.take_of_length_le (by rw [List.length_drop]; omega)]
  · rw [List.drop_length, List.drop_of_length_le (by omega)]
    simp
/-- s[-n:] -/
theorem cut_end {cs : List Nat} {n : Int} (h : 1 ≤ n) : cutS (stL cs) (some (-n)) none = stL (cs.drop (cs.length - n.toNat)) := by
  rw [cut_st]
  have h0 : HT.sIx cs.length cs.length none = cs.length := rfl
  have h1 : HT.sIx cs.length 0 (some (-n)) = cs.length - n.toNat := by
    show (if -n < 0 then (-n + (cs.length : Int)).toNat else min (-n).toNat cs.length) = _
    rw [if_pos (by omega)]
    omega
  rw [h0, h1]
  congr 1
  rw [List.take_of_length_le (by rw [List.length_drop]; omega)]
theorem fold_rep (x : Array Nat) : ∀ (n : Nat) (l : List Nat), (List.replicate n x).foldl (· ++ ·) l.toArray = (l ++ (List.replicate n x.toList).flatten).toArray
  | 0, l => by simp
  | n + 1, l => by
    have ih := fold_rep x n (l ++ x.toList)
    rw [List.replicate_succ, List.foldl_cons, List.replicate_succ, List.flatten_cons]
    have e : l.toArray ++ x = (l ++ x.toList).toArray := by simp
    rw [e, ih, List.append_assoc]
/-- s * n -/
theorem mul_st {cs : List Nat} {n : Int} : Txt.mul (stL cs) n = stL (List.replicate n.toNat cs).flatten := by
  unfold Txt.mul
  by_cases h : n < 1
  · rw [if_pos h]
    have e : n.toNat = 0 := by omega
    rw [e]
    rfl
  · rw [if_neg h]
    by_cases h2 : (n == 1 || (stL cs).length == 0) = true
    · rw [if_pos h2]
      rw [Bool.or_eq_true] at h2
      rcases h2 with h2 | h2
      · have e : n = 1 := by simpa using h2
        subst e
        simp [stL]
      · rw [stL_len] at h2
        have e : cs = [] := by
          have : cs.length = 0 := by simpa using h2
          exact List.length_eq_zero_iff.mp this
        subst e
        refine congrArg stL ?_
        symm
        rw [List.flatten_eq_nil_iff]
        intro l hl
        exact List.eq_of_mem_replicate hl
    · rw [if_neg h2]
      have e := fold_rep (stL cs).cps n.toNat []
      rw [List.nil_append] at e
      have e2 : (stL cs).cps.toList = cs := by simp [stL]
      rw [e2] at e
      exact congrArg Str.mk e
theorem mulOk_st {cs : List Nat} {n : Int} (h1 : n ≤ 1000) (h2 : cs.length ≤ 1000) (h0 : -1000 ≤ n) : MulOk (stL cs) n := by
  refine ⟨by simp; omega, fun h3 _ => ?_, fun h3 _ => ?_⟩
  · rw [stL_len]
    have : (2 ^ 63 - 1) / n ≥ 1000 := by
      refine (Int.le_ediv_iff_mul_le (by omega)).mpr ?_
      omega
    omega
  · rw [stL_len]
    show Builtin.Str.tooLong _ = false
    unfold Builtin.Str.tooLong
    have : cs.length * n.toNat ≤ 1000 * 1000 := Nat.mul_le_mul h2 (by omega)
    simp
    have hs := sizeLine_eq
    omega
theorem joinL_nil : ∀ ps : List (List Nat), TL.joinL [] ps = ps.flatten
  | [] => rfl
  | [p] => by simp [TL.joinL]
  | p :: q :: ps => by
    have ih := joinL_nil (q :: ps)
    show p ++ ([] ++ TL.joinL [] (q :: ps)) = _
    rw [ih, List.nil_append, List.flatten_cons]
    rfl
theorem join_sts (ps : List (List Nat)) : Txt.join (Str.ofString "") (ps.map stL) = stL ps.flatten := by
  have e : (Str.ofString "") = SX.S [] := by decide +kernel
  have e2 : ps.map stL = ps.map SX.S := rfl
  rw [e, e2, SX.join_S, joinL_nil]
theorem sum_sts (ps : List (List Nat)) : ((ps.map stL).map (·.length)).sum + (ps.map stL).length * (Str.ofString "").length = ps.flatten.length := by
  have e : (Str.ofString "").length = 0 := by decide +kernel
  rw [e, Nat.mul_zero, Nat.add_zero, List.map_map]
  induction ps with
  | nil => rfl
  | cons c cs ih =>
    rw [List.map_cons, List.sum_cons, ih, List.flatten_cons, List.length_append]
    show (stL c).length + _ = _
    rw [stL_len]
/-! ### what a copy writes -/
/-- d back behind a line, n signs, one after another -/
def copyN (line : List Nat) (d : Nat) : Nat → List Nat
  | 0 => []
  | n + 1 => copyN line d n ++ [(line ++ copyN line d n).getD (line.length + n - d) 0]
theorem copyN_len (line : List Nat) (d : Nat) : ∀ n, (copyN line d n).length = n
  | 0 => rfl
  | n + 1 => by
    show (copyN line d n ++ [_]).length = _
    rw [List.length_append, copyN_len line d n]
    rfl
theorem getD_app_left {l m : List Nat} {i : Nat} (h : i < l.length) : (l ++ m).getD i 0 = l.getD i 0 := by
  simp [List.getD_eq_getElem?_getD, List.getElem?_append_left h]
theorem getD_app_right {l m : List Nat} {i : Nat} (h : l.length ≤ i) : (l ++ m).getD i 0 = m.getD (i - l.length) 0 := by
  simp [List.getD_eq_getElem?_getD, List.getElem?_append_right h]
theorem copyN_get {line : List Nat} {d : Nat} (h1 : 1 ≤ d) (h2 : d ≤ line.length) : ∀ n i, i < n → (copyN line d n).getD i 0 = line.getD (line.length - d + i % d) 0 := by
  intro n
  induction n with
  | zero => intro i h; omega
  | succ n ih =>
    intro i hi
    show (copyN line d n ++ [_]).getD i 0 = _
    have hl := copyN_len line d n
    rcases Nat.lt_or_ge i n with h | h
    · rw [getD_app_left (by omega)]
      exact ih i h
    · have e : i = n := by omega
      subst e
      rw [getD_app_right (by omega), hl, Nat.sub_self]
      show (line ++ copyN line d i).getD (line.length + i - d) 0 = _
      rcases Nat.lt_or_ge i d with h3 | h3
      · rw [getD_app_left (by omega), Nat.mod_eq_of_lt h3]
        congr 1
        omega
      · rw [getD_app_right (by omega), show line.length + i - d - line.length = i - d by omega, ih (i - d) (by omega)]
        have : (i - d) % d = i % d := (Nat.mod_eq_sub_mod h3).symm
        rw [this]
theorem flat_get {r : List Nat} : ∀ (n i : Nat), i < n * r.length → ((List.replicate n r).flatten).getD i 0 = r.getD (i % r.length) 0
  | 0, i, h => by omega
  | n + 1, i, h => by
    rw [List.replicate_succ, List.flatten_cons]
    rcases Nat.lt_or_ge i r.length with h1 | h1
    · rw [getD_app_left h1, Nat.mod_eq_of_lt h1]
    · have e : (n + 1) * r.length = n * r.length + r.length := Nat.succ_mul _ _
      rw [getD_app_right h1, flat_get n (i - r.length) (by omega)]
      have : (i - r.length) % r.length = i % r.length := (Nat.mod_eq_sub_mod h1).symm
      rw [this]
theorem flat_len (r : List Nat) : ∀ n : Nat, ((List.replicate n r).flatten).length = n * r.length
  | 0 => by simp
  | n + 1 => by
    rw [List.replicate_succ, List.flatten_cons, List.length_append, flat_len r n, Nat.succ_mul, Nat.add_comm]
theorem ext_getD {l m : List Nat} (h : l.length = m.length) (e : ∀ i, i < l.length → l.getD i 0 = m.getD i 0) : l = m := by
  refine List.ext_getElem h fun i h1 h2 => ?_
  have := e i h1
  simpa [List.getD_eq_getElem?_getD, h1, h2] using this
/-- the ring of the last d signs, n times, cut behind n signs -/
theorem ring_copy {line : List Nat} {d n : Nat} (h1 : 1 ≤ d) (h2 : d ≤ line.length) : ((List.replicate n (line.drop (line.length - d))).flatten).take n = copyN line d n := by
  have hl : (line.drop (line.length - d)).length = d := by rw [List.length_drop]; omega
  have hf := flat_len (line.drop (line.length - d)) n
  rw [hl] at hf
  have hnd : n ≤ n * d := Nat.le_mul_of_pos_right n h1
  refine ext_getD ?_ fun i hi => ?_
  · rw [List.length_take, hf, copyN_len]; omega
  · rw [List.length_take, hf] at hi
    have hin : i < n := by omega
    have e1 : (((List.replicate n (line.drop (line.length - d))).flatten).take n).getD i 0 = ((List.replicate n (line.drop (line.length - d))).flatten).getD i 0 := by
      simp [List.getD_eq_getElem?_getD, List.getElem?_take, hin]
    rw [e1, flat_get n i (by rw [hl]; omega), hl, copyN_get h1 h2 n i hin]
    simp [List.getD_eq_getElem?_getD, List.getElem?_drop]
/-- a copy hangs on the last signs alone -/
theorem copyN_tail {line : List Nat} {d n k : Nat} (h1 : 1 ≤ d) (h2 : d ≤ k) (h3 : k ≤ line.length) : copyN (line.drop (line.length - k)) d n = copyN line d n := by
  have hl : (line.drop (line.length - k)).length = k := by rw [List.length_drop]; omega
  rw [← ring_copy h1 (by omega), ← ring_copy h1 (by omega), hl, List.drop_drop]
  congr 4
  omega
/-- the line with what is copied is any line whose signs stand so -/
theorem copyN_is {L : List Nat} {p d : Nat} (h1 : 1 ≤ d) (h2 : d ≤ p) : ∀ n, p + n ≤ L.length → (∀ i, i < n → L.getD (p + i) 0 = L.getD (p + i - d) 0) → L.take p ++ copyN (L.take p) d n = L.take (p + n)
  | 0, _, _ => by simp [copyN]
  | n + 1, h3, h4 => by
    have ih := copyN_is h1 h2 n (by omega) fun i hi => h4 i (by omega)
    show L.take p ++ (copyN (L.take p) d n ++ [(L.take p ++ copyN (L.take p) d n).getD ((L.take p).length + n - d) 0]) = _
    rw [← List.append_assoc, ih, List.length_take, Nat.min_eq_left (by omega)]
    have e1 : (L.take (p + n)).getD (p + n - d) 0 = L.getD (p + n - d) 0 := by
      have : p + n - d < p + n := by omega
      simp [List.getD_eq_getElem?_getD, List.getElem?_take, this]
    rw [e1, ← h4 n (by omega)]
    have hlt : p + n < L.length := by omega
    rw [← Nat.add_assoc, List.take_add_one, List.getElem?_eq_getElem hlt]
    simp [List.getD_eq_getElem?_getD, hlt]

/-! ### readers -/
/-- the number of signs that a reader keeps behind a token -/
def klT (w kl : Nat) : List V → Nat
  | [.str _] => 0
  | [.str _, .str y] => min w (kl + y.length)
  | [.str _, .int _, .int n] => min w (kl + n.toNat)
  | _ => kl
/-- what a token writes behind a line -/
def textT (line : List Nat) : List V → List Nat
  | [.str _, .str y] => cl y
  | [.str _, .int d, .int n] => copyN line d.toNat n.toNat
  | _ => []
/-- whether so many kept signs are enough for a token -/
def okT (kl : Nat) : List V → Bool
  | [.str _, .int d, .int _] => decide (d ≤ (kl : Int))
  | _ => true
def plainV : List V → Bool
  | .str k :: _ => decide (k = "text" ∨ k = "copy" ∨ k = "flush")
  | _ => false
def klA (w : Nat) : List (List V) → Nat → Nat
  | [], kl => kl
  | t :: ts, kl => klA w ts (klT w kl t)
def textA : List (List V) → List Nat → List Nat
  | [], _ => []
  | t :: ts, line => textT line t ++ textA ts (line ++ textT line t)
def okA (w : Nat) : List (List V) → Nat → Bool
  | [], _ => true
  | t :: ts, kl => okT kl t && okA w ts (klT w kl t)
theorem klA_app (w : Nat) : ∀ (ts us : List (List V)) (kl : Nat), klA w (ts ++ us) kl = klA w us (klA w ts kl)
  | [], _, _ => rfl
  | t :: ts, us, kl => klA_app w ts us (klT w kl t)
theorem textA_app : ∀ (ts us : List (List V)) (line : List Nat), textA (ts ++ us) line = textA ts line ++ textA us (line ++ textA ts line)
  | [], us, line => by simp [textA]
  | t :: ts, us, line => by
    show textT line t ++ textA (ts ++ us) _ = textT line t ++ textA ts _ ++ textA us (line ++ (textT line t ++ textA ts _))
    rw [textA_app ts us, List.append_assoc, List.append_assoc]
theorem okA_app (w : Nat) : ∀ (ts us : List (List V)) (kl : Nat), okA w (ts ++ us) kl = (okA w ts kl && okA w us (klA w ts kl))
  | [], us, kl => by simp [okA, klA]
  | t :: ts, us, kl => by
    show (okT kl t && okA w (ts ++ us) _) = (okT kl t && okA w ts _ && okA w us (klA w ts _))
    rw [okA_app w ts us, Bool.and_assoc]
theorem plain_any {y : V} : plainV [.str "any", y] = false := by
  show decide (("any" : Str) = "text" ∨ ("any" : Str) = "copy" ∨ ("any" : Str) = "flush") = false
  decide +kernel
theorem textT_len {z : Str} {t : List V} {line : List Nat} (h : tokV z t = true) (hp : plainV t = true) : ((textT line t).length : Int) = sizeV t := by
  obtain ⟨kd, rest, rfl, hk⟩ := tok_inv h
  rcases hk with ⟨rfl, rfl⟩ | ⟨y, rfl, rfl, h1, h2, h3⟩ | ⟨y, rfl, rfl, h1⟩ | ⟨d, n, hkd, rfl, h1, h2, h3, h4⟩
  · rfl
  · rw [sizeV_text]
    show ((cl y).length : Int) = _
    rw [cl_len]
  · rw [plain_any] at hp; cases hp
  · have e : sizeV [.str kd, .int d, .int n] = n := by rcases hkd with rfl | rfl <;> rfl
    rw [e]
    show ((copyN line d.toNat n.toNat).length : Int) = n
    rw [copyN_len]
    omega
theorem klT_le {z : Str} {w kl : Nat} {t : List V} (h : tokV z t = true) (hk : kl ≤ w) : klT w kl t ≤ w := by
  obtain ⟨kd, rest, rfl, hk⟩ := tok_inv h
  rcases hk with ⟨rfl, rfl⟩ | ⟨y, rfl, rfl, h1, h2, h3⟩ | ⟨y, rfl, rfl, h1⟩ | ⟨d, n, hkd, rfl, h1, h2, h3, h4⟩
  · exact Nat.zero_le _
  · exact Nat.min_le_left _ _
  · exact Nat.min_le_left _ _
  · exact Nat.min_le_left _ _
theorem klT_line {z : Str} {w kl : Nat} {t : List V} {line : List Nat} (h : tokV z t = true) (hp : plainV t = true) (hk : kl ≤ line.length) : klT w kl t ≤ (line ++ textT line t).length := by
  obtain ⟨kd, rest, rfl, hk⟩ := tok_inv h
  rw [List.length_append]
  rcases hk with ⟨rfl, rfl⟩ | ⟨y, rfl, rfl, h1, h2, h3⟩ | ⟨y, rfl, rfl, h1⟩ | ⟨d, n, hkd, rfl, h1, h2, h3, h4⟩
  · exact Nat.zero_le _
  · show min w (kl + y.length) ≤ line.length + (cl y).length
    rw [cl_len]
    omega
  · rw [plain_any] at hp; cases hp
  · show min w (kl + n.toNat) ≤ line.length + (copyN line d.toNat n.toNat).length
    rw [copyN_len]
    omega
/-- the last kl signs of a line -/
abbrev tl (line : List Nat) (kl : Nat) : List Nat := line.drop (line.length - kl)
theorem tl_len {line : List Nat} {kl : Nat} (h : kl ≤ line.length) : (tl line kl).length = kl := by rw [List.length_drop]; omega
theorem tl_zero (line : List Nat) : tl line 0 = [] := by simp [tl]
/-- what is kept, with more behind it, cut to the last w -/
theorem tl_app {line x : List Nat} {kl w : Nat} (h : kl ≤ line.length) : (tl line kl ++ x).drop ((tl line kl ++ x).length - w) = tl (line ++ x) (min w (kl + x.length)) := by
  have e : line ++ x = line.take (line.length - kl) ++ (tl line kl ++ x) := by
    rw [← List.append_assoc, List.take_append_drop]
  have hl := tl_len h
  have h2 : (line ++ x).length - min w (kl + x.length) = (line.take (line.length - kl)).length + ((tl line kl ++ x).length - w) := by
    rw [List.length_append, List.length_append, hl, List.length_take]
    omega
  show _ = (line ++ x).drop ((line ++ x).length - min w (kl + x.length))
  have e4 : ∀ (A B : List Nat) (n : Nat), (A ++ B).drop (A.length + n) = B.drop n := fun A B n => by simp [List.drop_append]
  rw [h2, e, e4]
/-- a reader's own fields -/
def rdF (z : Str) (w : Int) (l : Addr) (k : Str) : List (Str × V) := putF "_kept" (.str k) (putF "_written" (.ref l) (putF "_width" (.int w) (putF "_signs" (.str z) [])))
theorem nsW : ¬ (("_signs" : Str) = "_width") := by decide +kernel
theorem nsR : ¬ (("_signs" : Str) = "_written") := by decide +kernel
theorem nsK : ¬ (("_signs" : Str) = "_kept") := by decide +kernel
theorem nwR : ¬ (("_width" : Str) = "_written") := by decide +kernel
theorem nwK : ¬ (("_width" : Str) = "_kept") := by decide +kernel
theorem nrK : ¬ (("_written" : Str) = "_kept") := by decide +kernel
theorem rdF_signs (z : Str) (w : Int) (l : Addr) (k : Str) : (rdF z w l k).lookup ("_signs" : Str) = some (.str z) := by
  unfold rdF
  rw [lookup_putF, if_neg nsK, lookup_putF, if_neg nsR, lookup_putF, if_neg nsW, lookup_putF, if_pos rfl]
theorem rdF_width (z : Str) (w : Int) (l : Addr) (k : Str) : (rdF z w l k).lookup ("_width" : Str) = some (.int w) := by
  unfold rdF
  rw [lookup_putF, if_neg nwK, lookup_putF, if_neg nwR, lookup_putF, if_pos rfl]
theorem rdF_written (z : Str) (w : Int) (l : Addr) (k : Str) : (rdF z w l k).lookup ("_written" : Str) = some (.ref l) := by
  unfold rdF
  rw [lookup_putF, if_neg nrK, lookup_putF, if_pos rfl]
theorem rdF_kept (z : Str) (w : Int) (l : Addr) (k : Str) : (rdF z w l k).lookup ("_kept" : Str) = some (.str k) := by
  unfold rdF
  rw [lookup_putF, if_pos rfl]
theorem rdF_no (z : Str) (w : Int) (l : Addr) (k : Str) {m : Str} (h1 : ¬ m = "_signs") (h2 : ¬ m = "_width") (h3 : ¬ m = "_written") (h4 : ¬ m = "_kept") : (rdF z w l k).lookup m = none := by
  unfold rdF
  rw [lookup_putF, if_neg h4, lookup_putF, if_neg h3, lookup_putF, if_neg h2, lookup_putF, if_neg h1]
  rfl
end KW

/-! Exceptions: raised without arguments, let out by callees, their fields behind a call. -/
namespace KW
open PySem PySem.Spec PyProof.Rows L2
/-- the call lets nothing out: what it would raise is wished impossible -/
theorem passF {P : Program} {w : World} {X : Cx} : Passes (L2.CX P w) X (fun _ _ _ => False) := fun _ _ _ _ _ _ _ c => by
  obtain ⟨a, B, H', cls, d, _, _, _, _, _, _, _, z⟩ := c
  exact z.elim
section
variable {X : Cx} {C : Addr} {bmB : List Value} {B newId initId : String}
/-- X() -/
theorem pmk_own0 {x : Str} {p pos : Pos} (F : ExcBaseFacts B newId initId bmB) (q : PySem.W.excIn X.K C bmB newId = true) (gC : X.mg x = some (.ref C)) (kC : PySem.W.keepIn X.K (.ref C) = true) (r : Raises X (.ref C)) (hg : Gl X x)
    (hdb : (x == ("__debug__" : Str)) = false := by decide) : PMk X (.Call (.Name x p) [] [] pos) (fun _ H Q => Q (.ref C) none H) := by
  intro pins s σ H Q I h
  refine wpAny_Call_Name_kw (ld_glob I hg gC ?_ hdb)
  refine PySem.W.callWith_K0 I.kIn kC ?_
  show wpAny _ _ (call (.ref C) []) _ _ _
  obtain ⟨bm, N, nm, qn, bs, hdct, sn, sub, ab, col, dd, k0, k1, k2, k3, k5, mN, hC, hN, hni, T⟩ := exc_obj I.kIn q
  refine wpAny_call_exc_subT F T hC hN hni (fun h' e hm => ?_) (Nat.zero_le _)
  exact mk_of I hm r h (I.hok.gone hm.new)
end
/-- what raise X(x) asks, by what is wished of the raised one -/
theorem raise1 {H : Hp} {C : Addr} {f : Str} {x : V} {E : XK} (hE : ∀ d, H d = none → E (.ref C) (some d) (upd H d (.xd [(f, x)]))) (a : Addr) (ha : H a = none) :
    ∃ (a' : Addr) (x' : V), ([V.ref a, x] : List V) = [.ref a', x'] ∧ upd H a (exo a C none) a' = some (exo a' C none) ∧ ∀ d, (upd H a (exo a C none)) d = none → d ≠ a' →
      (fun (v : V) (H2 : Hp) => v = V.non ∧ ∃ (d' : Addr) (fs : List (Str × V)), H2 a = some (exo a C (some d')) ∧ H2 d' = some (exd d' fs) ∧ H d' = none ∧ E (.ref C) (some d') (upd (del H2 a) d' (.xd fs))) .non
        (upd (upd (upd H a (exo a C none)) d (exd d [(f, x')])) a' (exo a' C (some d))) := by
  refine ⟨a, x, rfl, upd_same, fun d hd ne => ⟨rfl, d, [(f, x)], upd_same, ?_, ?_, ?_⟩⟩
  · rw [upd_ne ne, upd_same]
  · rw [upd_ne ne] at hd; exact hd
  · have hd' : H d = none := by rw [upd_ne ne] at hd; exact hd
    have e : upd (del (upd (upd (upd H a (exo a C none)) d (exd d [(f, x)])) a (exo a C (some d))) a) d (.xd [(f, x)]) = upd H d (.xd [(f, x)]) := by
      funext b
      by_cases hb : b = d
      · subst hb; rw [upd_same, upd_same]
      · rw [upd_ne hb, upd_ne hb]
        by_cases hba : b = a
        · subst hba; rw [del_same, ha]
        · rw [del_ne hba, upd_ne hba, upd_ne hb, upd_ne hba]
    rw [e]
    exact hE d hd'
theorem raise2 {H : Hp} {C : Addr} {f g : Str} {x y : V} {E : XK} (hE : ∀ d, H d = none → E (.ref C) (some d) (upd H d (.xd [(g, y), (f, x)]))) (a : Addr) (ha : H a = none) :
    ∃ (a' : Addr) (x' y' : V), ([V.ref a, x, y] : List V) = [.ref a', x', y'] ∧ upd H a (exo a C none) a' = some (exo a' C none) ∧ ∀ d, (upd H a (exo a C none)) d = none → d ≠ a' →
      (fun (v : V) (H2 : Hp) => v = V.non ∧ ∃ (d' : Addr) (fs : List (Str × V)), H2 a = some (exo a C (some d')) ∧ H2 d' = some (exd d' fs) ∧ H d' = none ∧ E (.ref C) (some d') (upd (del H2 a) d' (.xd fs))) .non
        (upd (upd (upd (upd H a (exo a C none)) d (exd d [(f, x')])) a' (exo a' C (some d))) d (exd d [(g, y'), (f, x')])) := by
  refine ⟨a, x, y, rfl, upd_same, fun d hd ne => ⟨rfl, d, [(g, y), (f, x)], ?_, upd_same, ?_, ?_⟩⟩
  · rw [upd_ne ne.symm, upd_same]
  · rw [upd_ne ne] at hd; exact hd
  · have hd' : H d = none := by rw [upd_ne ne] at hd; exact hd
    have e : upd (del (upd (upd (upd (upd H a (exo a C none)) d (exd d [(f, x)])) a (exo a C (some d))) d (exd d [(g, y), (f, x)])) a) d (.xd [(g, y), (f, x)]) = upd H d (.xd [(g, y), (f, x)]) := by
      funext b
      by_cases hb : b = d
      · subst hb; rw [upd_same, upd_same]
      · rw [upd_ne hb, upd_ne hb]
        by_cases hba : b = a
        · subst hba; rw [del_same, ha]
        · rw [del_ne hba, upd_ne hb, upd_ne hba, upd_ne hb, upd_ne hba]
    rw [e]
    exact hE d hd'
/-- a put again of a reader's kept signs -/
theorem rdF_put (z : Str) (w : Int) (l : Addr) (k k' : Str) : putF "_kept" (.str k') (rdF z w l k) = rdF z w l k' := by
  have n1 : ¬ (("_signs" : Str) = "_kept") := nsK
  have n2 : ¬ (("_width" : Str) = "_kept") := nwK
  have n3 : ¬ (("_written" : Str) = "_kept") := nrK
  have m1 : ¬ (("_signs" : Str) = "_width") := nsW
  have m2 : ¬ (("_signs" : Str) = "_written") := nsR
  have m3 : ¬ (("_width" : Str) = "_written") := nwR
  simp [rdF, putF, n1, n2, n3, m1, m2, m3]
theorem rdF_len (z : Str) (w : Int) (l : Addr) (k : Str) : (rdF z w l k).length < 1000 := by
  have m1 : ¬ (("_signs" : Str) = "_width") := nsW
  have m2 : ¬ (("_signs" : Str) = "_written") := nsR
  have m3 : ¬ (("_width" : Str) = "_written") := nwR
  have n1 : ¬ (("_signs" : Str) = "_kept") := nsK
  have n2 : ¬ (("_width" : Str) = "_kept") := nwK
  have n3 : ¬ (("_written" : Str) = "_kept") := nrK
  simp [rdF, putF, n1, n2, n3, m1, m2, m3]
theorem sgs_stL (cs : List Nat) : sgs (stL cs) = cs.map fun c => V.str (sg c) := by unfold sgs; rw [cl_stL]
theorem textT_text {line : List Nat} {k y : Str} : textT line [.str k, .str y] = cl y := rfl
theorem textT_copy {line : List Nat} {k : Str} {d n : Int} : textT line [.str k, .int d, .int n] = copyN line d.toNat n.toNat := rfl
/-- a reader: its written signs in a list of its own, the last kl of them kept -/
def ReaderAt (C : Addr) (H : Hp) (a l : Addr) (z : Str) (w : Nat) (line : List Nat) (kl : Nat) : Prop :=
  (∃ dx, H a = some (.ins C dx (rdF z w l (stL (tl line kl))))) ∧ H l = some (.lst (line.map fun c => V.str (sg c))) ∧ SignsOk z ∧ 1 ≤ w ∧ w ≤ 12 ∧ kl ≤ w ∧ kl ≤ line.length
theorem ReaderAt.same {C : Addr} {H H' : Hp} {a l : Addr} {z : Str} {w : Nat} {line : List Nat} {kl : Nat} (s : Same H H') (h : ReaderAt C H a l z w line kl) : ReaderAt C H' a l z w line kl := by
  obtain ⟨⟨dx, h1⟩, h2, r⟩ := h
  exact ⟨⟨dx, s _ _ h1⟩, s _ _ h2, r⟩
theorem ReaderAt.ne {C : Addr} {H : Hp} {a l : Addr} {z : Str} {w : Nat} {line : List Nat} {kl : Nat} (h : ReaderAt C H a l z w line kl) : a ≠ l := by
  obtain ⟨⟨dx, h1⟩, h2, r⟩ := h
  intro e
  subst e
  rw [h1] at h2
  cases h2
/-- a plain token whose copy goes back no further than a width -/
def PlainW (w : Nat) (t : List V) : Prop := plainV t = true ∧ ∀ d n, t = [.str "copy", .int d, .int n] → d ≤ (w : Int)
/-- the copy of a token that goes back too far: its distance, what is kept -/
def badT (kl : Nat) : List V → Option (Int × Nat)
  | [.str _, .int d, .int _] => if d ≤ (kl : Int) then none else some (d, kl)
  | _ => none
def badA (w : Nat) : List (List V) → Nat → Option (Int × Nat)
  | [], _ => none
  | t :: ts, kl => match badT kl t with
    | some b => some b
    | none => badA w ts (klT w kl t)
theorem badT_ok {kl : Nat} {t : List V} : okT kl t = true ↔ badT kl t = none := by
  unfold okT badT
  split
  · rw [decide_eq_true_iff]
    split <;> simp_all
  · simp
theorem badT_copy {z : Str} {kl : Nat} {t : List V} {b : Int × Nat} (hok : tokV z t = true) (hp : plainV t = true) (h : badT kl t = some b) : ∃ n : Int, t = [.str "copy", .int b.1, .int n] ∧ b.2 = kl := by
  obtain ⟨kd, rest, rfl, hk⟩ := tok_inv hok
  rcases hk with ⟨rfl, rfl⟩ | ⟨y, rfl, rfl, h1, h2, h3⟩ | ⟨y, rfl, rfl, h1⟩ | ⟨d, n, hkd, rfl, h1, h2, h3, h4⟩
  · cases h
  · cases h
  · cases h
  · rcases hkd with rfl | rfl
    · have h' : (if d ≤ (kl : Int) then none else some (d, kl)) = some b := h
      split at h'
      · cases h'
      · cases h'
        exact ⟨n, rfl, rfl⟩
    · exact absurd (of_decide_eq_true (show decide (("say" : Str) = "text" ∨ ("say" : Str) = "copy" ∨ ("say" : Str) = "flush") = true from hp)) (by decide +kernel)
theorem badA_app (w : Nat) : ∀ (ts us : List (List V)) (kl : Nat), badA w (ts ++ us) kl = match badA w ts kl with | some b => some b | none => badA w us (klA w ts kl)
  | [], _, _ => rfl
  | t :: ts, us, kl => by
    show (match badT kl t with | some b => some b | none => badA w (ts ++ us) (klT w kl t)) = match (match badT kl t with | some b => some b | none => badA w ts (klT w kl t)) with | some b => some b | none => badA w us (klA w ts (klT w kl t))
    cases badT kl t with
    | some b => rfl
    | none => exact badA_app w ts us _
theorem badA_ok (w : Nat) : ∀ (ts : List (List V)) (kl : Nat), okA w ts kl = true ↔ badA w ts kl = none
  | [], _ => by simp [okA, badA]
  | t :: ts, kl => by
    show (okT kl t && okA w ts (klT w kl t)) = true ↔ (match badT kl t with | some b => some b | none => badA w ts (klT w kl t)) = none
    rw [Bool.and_eq_true, badT_ok, badA_ok w ts]
    cases badT kl t with
    | some b => simp
    | none => simp
theorem textA_len {z : Str} : ∀ (ts : List (List V)) (line : List Nat), (∀ t ∈ ts, tokV z t = true ∧ plainV t = true) → ((textA ts line).length : Int) = tsize ts
  | [], _, _ => rfl
  | t :: ts, line, h => by
    show ((textT line t ++ textA ts _).length : Int) = _
    have h1 := textT_len (line := line) (h t List.mem_cons_self).1 (h t List.mem_cons_self).2
    have h2 := textA_len ts (line ++ textT line t) fun u hu => h u (List.mem_cons_of_mem _ hu)
    rw [List.length_append, tsize_cons]
    omega
theorem klA_le {z : Str} {w : Nat} : ∀ (ts : List (List V)) (kl : Nat), (∀ t ∈ ts, tokV z t = true) → kl ≤ w → klA w ts kl ≤ w
  | [], _, _, h => h
  | t :: ts, kl, h, hk => klA_le ts _ (fun u hu => h u (List.mem_cons_of_mem _ hu)) (klT_le (h t List.mem_cons_self) hk)
theorem klA_line {z : Str} {w : Nat} : ∀ (ts : List (List V)) (kl : Nat) (line : List Nat), (∀ t ∈ ts, tokV z t = true ∧ plainV t = true) → kl ≤ line.length → klA w ts kl ≤ (line ++ textA ts line).length
  | [], _, line, _, h => by
    show _ ≤ (line ++ []).length
    rw [List.append_nil]; exact h
  | t :: ts, kl, line, h, hk => by
    have h1 := klA_line (w := w) ts (klT w kl t) (line ++ textT line t) (fun u hu => h u (List.mem_cons_of_mem _ hu)) (klT_line (h t List.mem_cons_self).1 (h t List.mem_cons_self).2 hk)
    show _ ≤ (line ++ (textT line t ++ textA ts (line ++ textT line t))).length
    rw [← List.append_assoc]
    exact h1
theorem klA_take {w : Nat} {ts : List (List V)} {i : Nat} {t : List V} {kl : Nat} (h : ts[i]? = some t) : klA w (ts.take (i + 1)) kl = klT w (klA w (ts.take i) kl) t := by
  rw [take_succ' h, klA_app]; rfl
theorem textA_take {ts : List (List V)} {i : Nat} {t : List V} {line : List Nat} (h : ts[i]? = some t) : textA (ts.take (i + 1)) line = textA (ts.take i) line ++ textT (line ++ textA (ts.take i) line) t := by
  rw [take_succ' h, textA_app]
  show _ ++ (textT _ t ++ textA [] _) = _
  rw [show textA [] (line ++ textA (ts.take i) line ++ textT (line ++ textA (ts.take i) line) t) = [] from rfl, List.append_nil]
theorem badA_take {w : Nat} {ts : List (List V)} {i : Nat} {t : List V} {kl : Nat} (h : ts[i]? = some t) (hb : badA w (ts.take i) kl = none) : badA w (ts.take (i + 1)) kl = badT (klA w (ts.take i) kl) t := by
  rw [take_succ' h, badA_app, hb]
  show (match badT _ t with | some b => some b | none => none) = _
  cases badT (klA w (ts.take i) kl) t <;> rfl
theorem badA_more {w : Nat} {ts : List (List V)} {i : Nat} {kl : Nat} {b : Int × Nat} (hb : badA w (ts.take i) kl = some b) : badA w ts kl = some b := by
  have e := badA_app w (ts.take i) (ts.drop i) kl
  rw [List.take_append_drop, hb] at e
  exact e
end KW

/-! Streams of blocks: what is read, what is spoilt, from where each sign comes. -/
namespace KW
open PySem L2
/-! ### marks -/
def copyM (line : List Bool) (d : Nat) : Nat → List Bool
  | 0 => []
  | n + 1 => copyM line d n ++ [(line ++ copyM line d n).getD (line.length + n - d) false]
theorem copyM_len (line : List Bool) (d : Nat) : ∀ n, (copyM line d n).length = n
  | 0 => rfl
  | n + 1 => by
    show (copyM line d n ++ [_]).length = _
    rw [List.length_append, copyM_len line d n]
    rfl
theorem getB_left {l m : List Bool} {i : Nat} (h : i < l.length) : (l ++ m).getD i false = l.getD i false := by
  simp [List.getD_eq_getElem?_getD, List.getElem?_append_left h]
theorem getB_right {l m : List Bool} {i : Nat} (h : l.length ≤ i) : (l ++ m).getD i false = m.getD (i - l.length) false := by
  simp [List.getD_eq_getElem?_getD, List.getElem?_append_right h]
theorem copyM_step {M : List Bool} {d : Nat} (h1 : 1 ≤ d) (hM : d ≤ M.length) : ∀ n j, j < n → (copyM M d n).getD j false = (M ++ copyM M d n).getD (M.length + j - d) false
  | 0, j, h => by omega
  | n + 1, j, h => by
    have hl := copyM_len M d n
    show (copyM M d n ++ [_]).getD j false = (M ++ (copyM M d n ++ [_])).getD (M.length + j - d) false
    rw [← List.append_assoc]
    rw [getB_left (l := M ++ copyM M d n) (by rw [List.length_append]; omega)]
    rcases Nat.lt_or_ge j n with h2 | h2
    · rw [getB_left (by omega)]
      exact copyM_step h1 hM n j h2
    · have e : j = n := by omega
      subst e
      rw [getB_right (by omega), hl, Nat.sub_self]
      rfl
def mkL (M : List Bool) (W : List Nat) : List Nat := List.zipWith (fun m c => if m = true then 63 else c) M W
theorem mkL_len {M : List Bool} {W : List Nat} (h : M.length = W.length) : (mkL M W).length = W.length := by
  unfold mkL; rw [List.length_zipWith, h, Nat.min_self]
theorem mkL_app {M N : List Bool} {W X : List Nat} (h : M.length = W.length) : mkL (M ++ N) (W ++ X) = mkL M W ++ mkL N X := by
  unfold mkL; exact List.zipWith_append h
theorem mkL_get {M : List Bool} {W : List Nat} {i : Nat} (h : M.length = W.length) (hi : i < W.length) : (mkL M W).getD i 0 = if M.getD i false = true then 63 else W.getD i 0 := by
  have hm : i < M.length := by omega
  unfold mkL
  simp [List.getD_eq_getElem?_getD, List.getElem?_zipWith, hi, hm]
theorem mkL_copy {M : List Bool} {W : List Nat} {d : Nat} (h : M.length = W.length) (h1 : 1 ≤ d) (h2 : d ≤ W.length) : ∀ n, copyN (mkL M W) d n = mkL (copyM M d n) (copyN W d n)
  | 0 => rfl
  | n + 1 => by
    have ih := mkL_copy h h1 h2 n
    have e1 := copyM_len M d n
    have e2 := copyN_len W d n
    show copyN (mkL M W) d n ++ [(mkL M W ++ copyN (mkL M W) d n).getD ((mkL M W).length + n - d) 0] = mkL (copyM M d n ++ [(M ++ copyM M d n).getD (M.length + n - d) false]) (copyN W d n ++ [(W ++ copyN W d n).getD (W.length + n - d) 0])
    rw [mkL_app (by omega), ih, ← mkL_app h, mkL_len h]
    have hl : (M ++ copyM M d n).length = (W ++ copyN W d n).length := by rw [List.length_append, List.length_append]; omega
    rw [mkL_get hl (by rw [List.length_append]; omega), h]
    rfl
def markT (M : List Bool) : List V → List Bool
  | [.str _, .str y] => List.replicate y.length false
  | [.str _, .int d, .int n] => copyM M d.toNat n.toNat
  | _ => []
def markA : List (List V) → List Bool → List Bool
  | [], _ => []
  | t :: ts, M => markT M t ++ markA ts (M ++ markT M t)
theorem mkL_false : ∀ W : List Nat, mkL (List.replicate W.length false) W = W
  | [] => rfl
  | c :: W => by
    have ih := mkL_false W
    unfold mkL at ih ⊢
    rw [List.length_cons, List.replicate_succ, List.zipWith_cons_cons, ih]
    rfl
theorem mkL_true : ∀ W : List Nat, mkL (List.replicate W.length true) W = List.replicate W.length 63
  | [] => rfl
  | c :: W => by
    have ih := mkL_true W
    unfold mkL at ih ⊢
    rw [List.length_cons, List.replicate_succ, List.zipWith_cons_cons, ih]
    rfl
/-- a stream's token, sound behind so many kept signs -/
structure TokW (z : Str) (w : Nat) (t : List V) : Prop where
  ok : tokV z t = true
  pl : PlainW w t
theorem TokW.cases {z : Str} {w : Nat} {t : List V} (h : TokW z w t) : t = [.str "flush"] ∨ (∃ y : Str, t = [.str "text", .str y] ∧ overB z y = true ∧ 1 ≤ y.length ∧ y.length ≤ 40) ∨
    ∃ d n : Int, t = [.str "copy", .int d, .int n] ∧ 1 ≤ d ∧ d ≤ (w : Int) ∧ 1 ≤ n ∧ n ≤ 40 := by
  obtain ⟨hok, hp, hd⟩ := h
  obtain ⟨kd, rest, rfl, hk⟩ := tok_inv hok
  rcases hk with ⟨rfl, rfl⟩ | ⟨y, rfl, rfl, h1, h2, h3⟩ | ⟨y, rfl, rfl, h1⟩ | ⟨d, n, hkd, rfl, h1, h2, h3, h4⟩
  · exact .inl rfl
  · exact .inr (.inl ⟨y, rfl, h1, by omega, by omega⟩)
  · rw [plain_any] at hp; cases hp
  · rcases hkd with rfl | rfl
    · exact .inr (.inr ⟨d, n, rfl, h1, hd d n rfl, h3, h4⟩)
    · exact absurd (of_decide_eq_true (show decide (("say" : Str) = "text" ∨ ("say" : Str) = "copy" ∨ ("say" : Str) = "flush") = true from hp)) (by decide +kernel)
theorem markT_len {z : Str} {w : Nat} {t : List V} {M : List Bool} {W : List Nat} (h : TokW z w t) : (markT M t).length = (textT W t).length := by
  rcases h.cases with rfl | ⟨y, rfl, _⟩ | ⟨d, n, rfl, _⟩
  · rfl
  · show (List.replicate y.length false).length = (cl y).length
    rw [List.length_replicate, cl_len]
  · show (copyM M _ _).length = (copyN W _ _).length
    rw [copyM_len, copyN_len]
theorem mkL_tok {z : Str} {w kl : Nat} {t : List V} {M : List Bool} {W : List Nat} (h : TokW z w t) (hl : M.length = W.length) (hk : kl ≤ W.length) (hb : badT kl t = none) : textT (mkL M W) t = mkL (markT M t) (textT W t) := by
  have hb' := badT_ok.mpr hb
  rcases h.cases with rfl | ⟨y, rfl, _⟩ | ⟨d, n, rfl, h1, _⟩
  · rfl
  · show cl y = mkL (List.replicate y.length false) (cl y)
    rw [← cl_len y, mkL_false]
  · have hd : d ≤ (kl : Int) := of_decide_eq_true hb'
    exact mkL_copy hl (by omega) (by omega) _
theorem mkL_toks {z : Str} {w : Nat} : ∀ (ts : List (List V)) (kl : Nat) (M : List Bool) (W : List Nat), (∀ t ∈ ts, TokW z w t) → M.length = W.length → kl ≤ W.length → badA w ts kl = none →
    textA ts (mkL M W) = mkL (markA ts M) (textA ts W) ∧ (markA ts M).length = (textA ts W).length
  | [], _, _, _, _, _, _, _ => ⟨rfl, rfl⟩
  | t :: ts, kl, M, W, h, hl, hk, hb => by
    have ht := h t List.mem_cons_self
    have hb0 : badT kl t = none := by
      cases e : badT kl t with
      | none => rfl
      | some b =>
        have : badA w (t :: ts) kl = some b := by show (match badT kl t with | some b => some b | none => _) = _; rw [e]
        rw [this] at hb; cases hb
    have hb1 : badA w ts (klT w kl t) = none := by
      have : badA w (t :: ts) kl = badA w ts (klT w kl t) := by show (match badT kl t with | some b => some b | none => badA w ts (klT w kl t)) = _; rw [hb0]
      rw [this] at hb; exact hb
    have e1 := mkL_tok ht hl hk hb0
    have e2 := markT_len (M := M) (W := W) ht
    obtain ⟨i1, i2⟩ := mkL_toks (w := w) ts (klT w kl t) (M ++ markT M t) (W ++ textT W t) (fun u hu => h u (List.mem_cons_of_mem _ hu)) (by rw [List.length_append, List.length_append]; omega) (klT_line ht.ok ht.pl.1 hk) hb1
    constructor
    · show textT (mkL M W) t ++ textA ts (mkL M W ++ textT (mkL M W) t) = mkL (markT M t ++ markA ts (M ++ markT M t)) (textT W t ++ textA ts (W ++ textT W t))
      rw [mkL_app e2, e1, ← mkL_app hl, i1]
    · show (markT M t ++ markA ts _).length = (textT W t ++ textA ts _).length
      rw [List.length_append, List.length_append, e2, i2]
/-- more kept signs are no worse -/
theorem klT_mono {w kl kl' : Nat} {t : List V} (h : kl ≤ kl') : klT w kl t ≤ klT w kl' t := by
  unfold klT
  split <;> omega
theorem badT_mono {kl kl' : Nat} {t : List V} (h : kl ≤ kl') (hb : badT kl t = none) : badT kl' t = none := by
  rw [← badT_ok] at hb ⊢
  unfold okT at hb ⊢
  split
  · simp at hb ⊢; omega
  · rfl
theorem badA_mono {w : Nat} : ∀ (ts : List (List V)) (kl kl' : Nat), kl ≤ kl' → badA w ts kl = none → badA w ts kl' = none ∧ klA w ts kl ≤ klA w ts kl'
  | [], _, _, h, _ => ⟨rfl, h⟩
  | t :: ts, kl, kl', h, hb => by
    have hb0 : badT kl t = none := by
      cases e : badT kl t with
      | none => rfl
      | some b =>
        have : badA w (t :: ts) kl = some b := by show (match badT kl t with | some b => some b | none => _) = _; rw [e]
        rw [this] at hb; cases hb
    have hb1 : badA w ts (klT w kl t) = none := by
      have : badA w (t :: ts) kl = badA w ts (klT w kl t) := by show (match badT kl t with | some b => some b | none => badA w ts (klT w kl t)) = _; rw [hb0]
      rw [this] at hb; exact hb
    have ih := badA_mono ts (klT w kl t) (klT w kl' t) (klT_mono h) hb1
    have e : badA w (t :: ts) kl' = badA w ts (klT w kl' t) := by show (match badT kl' t with | some b => some b | none => badA w ts (klT w kl' t)) = _; rw [badT_mono h hb0]
    exact ⟨by rw [e]; exact ih.1, ih.2⟩
/-! ### blocks -/
/-- the texts of blocks, read one behind the other -/
def textB : List (List (List V)) → List Nat → List (List Nat)
  | [], _ => []
  | b :: bs, W => textA b W :: textB bs (W ++ textA b W)
def badB (w : Nat) : List (List (List V)) → Nat → Option (Int × Nat)
  | [], _ => none
  | b :: bs, kl => match badA w b kl with
    | some x => some x
    | none => badB w bs (klA w b kl)
def klB (w : Nat) : List (List (List V)) → Nat → Nat
  | [], kl => kl
  | b :: bs, kl => klB w bs (klA w b kl)
/-- the texts where some blocks are lost -/
def lossB (w : Nat) (gone : List Int) : Nat → List (List (List V)) → List Nat → Nat → List (List Nat)
  | _, [], _, _ => []
  | i, b :: bs, L, kl => if (i : Int) ∈ gone then List.replicate (tsize b).toNat 63 :: lossB w gone (i + 1) bs (L ++ List.replicate (tsize b).toNat 63) (min w (kl + (tsize b).toNat))
    else textA b L :: lossB w gone (i + 1) bs (L ++ textA b L) (klA w b kl)
/-- nothing of what is not lost is refused -/
def okLoss (w : Nat) (gone : List Int) : Nat → List (List (List V)) → Nat → Prop
  | _, [], _ => True
  | i, b :: bs, kl => if (i : Int) ∈ gone then okLoss w gone (i + 1) bs (min w (kl + (tsize b).toNat)) else badA w b kl = none ∧ okLoss w gone (i + 1) bs (klA w b kl)
def lossT (gone : List Int) : Nat → List (List (List V)) → List Bool → List Nat → List (List Nat)
  | _, [], _, _ => []
  | i, b :: bs, M, W => mkL (if (i : Int) ∈ gone then List.replicate (textA b W).length true else markA b M) (textA b W) ::
      lossT gone (i + 1) bs (M ++ (if (i : Int) ∈ gone then List.replicate (textA b W).length true else markA b M)) (W ++ textA b W)
theorem klA_grow {z : Str} {w : Nat} : ∀ (ts : List (List V)) (kl : Nat), (∀ t ∈ ts, TokW z w t) → kl ≤ w → (klA w ts kl : Int) ≤ min (w : Int) (kl + tsize ts)
  | [], kl, _, h => by show (kl : Int) ≤ min (w : Int) (kl + 0); omega
  | t :: ts, kl, h, hk => by
    have ht := h t List.mem_cons_self
    have ih := klA_grow ts (klT w kl t) (fun u hu => h u (List.mem_cons_of_mem _ hu)) (klT_le ht.ok hk)
    rw [tsize_cons]
    have e : (klT w kl t : Int) ≤ kl + sizeV t := by
      rcases ht.cases with rfl | ⟨y, rfl, _⟩ | ⟨d, n, rfl, h1, h2, h3, h4⟩
      · show ((0 : Nat) : Int) ≤ kl + 0; omega
      · rw [sizeV_text]; show ((min w (kl + y.length) : Nat) : Int) ≤ _; omega
      · show ((min w (kl + n.toNat) : Nat) : Int) ≤ kl + n; omega
    show (klA w ts (klT w kl t) : Int) ≤ _
    omega
theorem loss_is {z : Str} {w : Nat} {gone : List Int} : ∀ (bs : List (List (List V))) (i kl kl' : Nat) (M : List Bool) (W : List Nat), (∀ b ∈ bs, ∀ t ∈ b, TokW z w t) → M.length = W.length → kl ≤ W.length → kl ≤ kl' → kl' ≤ w → badB w bs kl = none →
    lossB w gone i bs (mkL M W) kl' = lossT gone i bs M W ∧ okLoss w gone i bs kl'
  | [], _, _, _, _, _, _, _, _, _, _, _ => ⟨rfl, trivial⟩
  | b :: bs, i, kl, kl', M, W, h, hl, hk, hkk, hkw, hb => by
    have htb := h b List.mem_cons_self
    have hb0 : badA w b kl = none := by
      cases e : badA w b kl with
      | none => rfl
      | some x =>
        have : badB w (b :: bs) kl = some x := by show (match badA w b kl with | some b => some b | none => _) = _; rw [e]
        rw [this] at hb; cases hb
    have hb1 : badB w bs (klA w b kl) = none := by
      have : badB w (b :: bs) kl = badB w bs (klA w b kl) := by show (match badA w b kl with | some b => some b | none => badB w bs (klA w b kl)) = _; rw [hb0]
      rw [this] at hb; exact hb
    have hlen := textA_len (z := z) b W fun t ht => ⟨(htb t ht).ok, (htb t ht).pl.1⟩
    have hkl := klA_line (z := z) (w := w) b kl W (fun t ht => ⟨(htb t ht).ok, (htb t ht).pl.1⟩) hk
    obtain ⟨m1, m2⟩ := mkL_toks (w := w) b kl M W htb hl hk hb0
    have hgr := klA_grow b kl htb (by omega)
    unfold lossB lossT okLoss
    by_cases hg : (i : Int) ∈ gone
    · simp only [if_pos hg]
      have e0 : (tsize b).toNat = (textA b W).length := by omega
      rw [e0]
      have e1 := mkL_true (textA b W)
      obtain ⟨i1, i2⟩ := loss_is (z := z) (w := w) (gone := gone) bs (i + 1) (klA w b kl) (min w (kl' + (textA b W).length)) (M ++ List.replicate (textA b W).length true) (W ++ textA b W) (fun c hc => h c (List.mem_cons_of_mem _ hc))
        (by rw [List.length_append, List.length_append, List.length_replicate]; omega) hkl (by omega) (Nat.min_le_left _ _) hb1
      refine ⟨?_, i2⟩
      rw [e1, ← i1, mkL_app hl, e1]
    · simp only [if_neg hg]
      obtain ⟨g1, g2⟩ := badA_mono b kl kl' hkk hb0
      have gw := klA_le (z := z) (w := w) b kl' (fun t ht => (htb t ht).ok) hkw
      obtain ⟨i1, i2⟩ := loss_is (z := z) (w := w) (gone := gone) bs (i + 1) (klA w b kl) (klA w b kl') (M ++ markA b M) (W ++ textA b W) (fun c hc => h c (List.mem_cons_of_mem _ hc))
        (by rw [List.length_append, List.length_append]; omega) hkl g2 gw hb1
      refine ⟨?_, g1, i2⟩
      rw [m1, ← i1, mkL_app hl]
/-! ### from where each sign comes -/
def backT (i : Int) (p : Nat) : List V → List (Int × Option Nat)
  | [.str _, .str y] => List.replicate y.length (i, none)
  | [.str _, .int d, .int n] => (List.range n.toNat).map fun k => (i, some (p + k - d.toNat))
  | _ => []
def backA (i : Int) : List (List V) → Nat → List (Int × Option Nat)
  | [], _ => []
  | t :: ts, p => backT i p t ++ backA i ts (p + (backT i p t).length)
def backB : Nat → List (List (List V)) → Nat → List (Int × Option Nat)
  | _, [], _ => []
  | i, b :: bs, p => backA i b p ++ backB (i + 1) bs (p + (backA i b p).length)
/-- the marks of blocks -/
def markB (gone : List Int) : Nat → List (List (List V)) → List Bool → List Bool
  | _, [], _ => []
  | i, b :: bs, M => (if (i : Int) ∈ gone then List.replicate (tsize b).toNat true else markA b M) ++ markB gone (i + 1) bs (M ++ (if (i : Int) ∈ gone then List.replicate (tsize b).toNat true else markA b M))
/-- M's marks from p on are as the origins es tell -/
def Told (gone : List Int) (M : List Bool) (p : Nat) (es : List (Int × Option Nat)) : Prop :=
  ∀ j at_ back, es[j]? = some (at_, back) → M.getD (p + j) false = (decide (at_ ∈ gone) || match back with | some b => M.getD b false | none => false)
theorem Told.app {gone : List Int} {M : List Bool} {p : Nat} {es fs : List (Int × Option Nat)} (h : Told gone M p es) (h' : Told gone M (p + es.length) fs) : Told gone M p (es ++ fs) := by
  intro j a b e
  rcases Nat.lt_or_ge j es.length with hj | hj
  · rw [List.getElem?_append_left hj] at e
    exact h j a b e
  · rw [List.getElem?_append_right hj] at e
    have := h' (j - es.length) a b e
    rw [← this]
    congr 1
    omega
theorem backT_len {z : Str} {w : Nat} {t : List V} {i : Int} {p : Nat} {W : List Nat} (h : TokW z w t) : (backT i p t).length = (textT W t).length := by
  rcases h.cases with rfl | ⟨y, rfl, _⟩ | ⟨d, n, rfl, _⟩
  · rfl
  · show (List.replicate y.length _).length = (cl y).length
    rw [List.length_replicate, cl_len]
  · show ((List.range n.toNat).map _).length = (copyN W _ _).length
    rw [List.length_map, List.length_range, copyN_len]
theorem backA_len {z : Str} {w : Nat} {i : Int} : ∀ (ts : List (List V)) (p : Nat) (W : List Nat), (∀ t ∈ ts, TokW z w t) → (backA i ts p).length = (textA ts W).length
  | [], _, _, _ => rfl
  | t :: ts, p, W, h => by
    show (backT i p t ++ backA i ts _).length = (textT W t ++ textA ts _).length
    rw [List.length_append, List.length_append, backT_len (W := W) (h t List.mem_cons_self), backA_len ts _ (W ++ textT W t) fun u hu => h u (List.mem_cons_of_mem _ hu)]
/-- the marks of a token that is not lost are as its origins tell, whatever comes behind -/
theorem told_tok {z : Str} {w kl : Nat} {t : List V} {gone : List Int} {M N : List Bool} {i : Int} (h : TokW z w t) (hi : i ∉ gone) (hk : kl ≤ M.length) (hb : badT kl t = none) : Told gone (M ++ markT M t ++ N) M.length (backT i M.length t) := by
  have hb' := badT_ok.mpr hb
  have hdec : decide (i ∈ gone) = false := decide_eq_false hi
  rcases h.cases with rfl | ⟨y, rfl, _⟩ | ⟨d, n, rfl, h1, _⟩
  · intro j a b e; cases e
  · intro j a b e
    have e' : (List.replicate y.length ((i, none) : Int × Option Nat))[j]? = some (a, b) := e
    obtain ⟨hj, e2⟩ := List.getElem?_eq_some_iff.mp e'
    rw [List.length_replicate] at hj
    rw [List.getElem_replicate] at e2
    cases e2
    show (M ++ List.replicate y.length false ++ N).getD _ _ = (decide (i ∈ gone) || false)
    rw [hdec, List.append_assoc, getB_right (by omega), getB_left (by rw [List.length_replicate]; omega)]
    simp [List.getD_eq_getElem?_getD, List.getElem?_replicate]
    split <;> rfl
  · have hd : d ≤ (kl : Int) := of_decide_eq_true hb'
    intro j a b e
    have e' : ((List.range n.toNat).map fun k => ((i, some (M.length + k - d.toNat)) : Int × Option Nat))[j]? = some (a, b) := e
    rw [List.getElem?_map] at e'
    rcases Nat.lt_or_ge j n.toNat with hj | hj
    · rw [List.getElem?_range hj] at e'
      cases e'
      have hcl := copyM_len M d.toNat n.toNat
      show (M ++ copyM M d.toNat n.toNat ++ N).getD (M.length + j) false = (decide (i ∈ gone) || (M ++ copyM M d.toNat n.toNat ++ N).getD (M.length + j - d.toNat) false)
      rw [hdec, Bool.false_or]
      rw [getB_left (l := M ++ copyM M d.toNat n.toNat) (by rw [List.length_append]; omega), getB_left (l := M ++ copyM M d.toNat n.toNat) (by rw [List.length_append]; omega)]
      rw [getB_right (by omega), show M.length + j - M.length = j by omega]
      exact copyM_step (by omega) (by omega) _ _ hj
    · rw [List.getElem?_eq_none (by rw [List.length_range]; exact hj)] at e'
      cases e'
theorem told_toks {z : Str} {w : Nat} {gone : List Int} {i : Int} (hi : i ∉ gone) : ∀ (ts : List (List V)) (kl : Nat) (M N : List Bool), (∀ t ∈ ts, TokW z w t) → kl ≤ M.length → badA w ts kl = none →
    Told gone (M ++ markA ts M ++ N) M.length (backA i ts M.length)
  | [], _, _, _, _, _, _ => fun j a b e => by cases e
  | t :: ts, kl, M, N, h, hk, hb => by
    have ht := h t List.mem_cons_self
    have hb0 : badT kl t = none := by
      cases e : badT kl t with
      | none => rfl
      | some b =>
        have : badA w (t :: ts) kl = some b := by show (match badT kl t with | some b => some b | none => _) = _; rw [e]
        rw [this] at hb; cases hb
    have hb1 : badA w ts (klT w kl t) = none := by
      have : badA w (t :: ts) kl = badA w ts (klT w kl t) := by show (match badT kl t with | some b => some b | none => badA w ts (klT w kl t)) = _; rw [hb0]
      rw [this] at hb; exact hb
    have hlW : M.length = (List.replicate M.length 0).length := by rw [List.length_replicate]
    have e2 := markT_len (M := M) (W := List.replicate M.length 0) ht
    have e3 := backT_len (i := i) (p := M.length) (W := List.replicate M.length 0) ht
    have hkl := klT_line (w := w) (line := List.replicate M.length 0) ht.ok ht.pl.1 (by rw [List.length_replicate]; exact hk)
    rw [List.length_append, List.length_replicate] at hkl
    have ih := told_toks (w := w) hi ts (klT w kl t) (M ++ markT M t) N (fun u hu => h u (List.mem_cons_of_mem _ hu)) (by rw [List.length_append]; omega) hb1
    have a1 := told_tok (N := markA ts (M ++ markT M t) ++ N) ht hi hk hb0
    show Told gone (M ++ (markT M t ++ markA ts (M ++ markT M t)) ++ N) M.length (backT i M.length t ++ backA i ts (M.length + (backT i M.length t).length))
    have ea : M ++ (markT M t ++ markA ts (M ++ markT M t)) ++ N = M ++ markT M t ++ markA ts (M ++ markT M t) ++ N := by simp [List.append_assoc]
    refine Told.app ?_ ?_
    · have eb : M ++ (markT M t ++ markA ts (M ++ markT M t)) ++ N = M ++ markT M t ++ (markA ts (M ++ markT M t) ++ N) := by simp [List.append_assoc]
      rw [eb]; exact a1
    · rw [ea]
      rw [List.length_append] at ih
      rw [show (backT i M.length t).length = (markT M t).length by omega]
      exact ih
theorem told_blocks {z : Str} {w : Nat} {gone : List Int} : ∀ (bs : List (List (List V))) (i kl : Nat) (M : List Bool), (∀ b ∈ bs, ∀ t ∈ b, TokW z w t) → kl ≤ M.length → badB w bs kl = none →
    Told gone (M ++ markB gone i bs M) M.length (backB i bs M.length) ∧ (backB i bs M.length).length = (markB gone i bs M).length
  | [], _, _, _, _, _, _ => ⟨(fun j a b e => by cases e), rfl⟩
  | b :: bs, i, kl, M, h, hk, hb => by
    have htb := h b List.mem_cons_self
    have hb0 : badA w b kl = none := by
      cases e : badA w b kl with
      | none => rfl
      | some x =>
        have : badB w (b :: bs) kl = some x := by show (match badA w b kl with | some b => some b | none => _) = _; rw [e]
        rw [this] at hb; cases hb
    have hb1 : badB w bs (klA w b kl) = none := by
      have : badB w (b :: bs) kl = badB w bs (klA w b kl) := by show (match badA w b kl with | some b => some b | none => badB w bs (klA w b kl)) = _; rw [hb0]
      rw [this] at hb; exact hb
    have hlen := textA_len (z := z) b (List.replicate M.length 0) fun t ht => ⟨(htb t ht).ok, (htb t ht).pl.1⟩
    have hbl := backA_len (i := (i : Int)) b M.length (List.replicate M.length 0) htb
    have hkl := klA_line (z := z) (w := w) b kl (List.replicate M.length 0) (fun t ht => ⟨(htb t ht).ok, (htb t ht).pl.1⟩) (by rw [List.length_replicate]; exact hk)
    rw [List.length_append, List.length_replicate] at hkl
    obtain ⟨m1, m2⟩ := mkL_toks (w := w) b kl M (List.replicate M.length 0) htb (by rw [List.length_replicate]) (by rw [List.length_replicate]; exact hk) hb0
    have hX : (if (i : Int) ∈ gone then List.replicate (tsize b).toNat true else markA b M).length = (backA (i : Int) b M.length).length := by
      split
      · rw [List.length_replicate]; omega
      · omega
    obtain ⟨i1, i2⟩ := told_blocks (w := w) (gone := gone) bs (i + 1) (klA w b kl) (M ++ (if (i : Int) ∈ gone then List.replicate (tsize b).toNat true else markA b M)) (fun c hc => h c (List.mem_cons_of_mem _ hc)) (by rw [List.length_append]; omega) hb1
    have eM : M ++ markB gone i (b :: bs) M = M ++ (if (i : Int) ∈ gone then List.replicate (tsize b).toNat true else markA b M) ++ markB gone (i + 1) bs (M ++ (if (i : Int) ∈ gone then List.replicate (tsize b).toNat true else markA b M)) := by
      rw [List.append_assoc]; rfl
    rw [List.length_append, hX] at i1 i2
    constructor
    · rw [eM]
      show Told gone _ M.length (backA i b M.length ++ backB (i + 1) bs (M.length + (backA (i : Int) b M.length).length))
      refine Told.app ?_ i1
      by_cases hg : (i : Int) ∈ gone
      · intro j a bk e
        have ha : a = (i : Int) := by
          have key : ∀ (ts : List (List V)) (p : Nat), ∀ x ∈ backA (i : Int) ts p, x.1 = (i : Int) := by
            intro ts
            induction ts with
            | nil => intro p x hx; cases hx
            | cons t ts ih =>
              intro p x hx
              rcases List.mem_append.mp (show x ∈ backT (i : Int) p t ++ backA (i : Int) ts _ from hx) with hx | hx
              · unfold backT at hx
                split at hx
                · rw [List.eq_of_mem_replicate hx]
                · obtain ⟨k, _, rfl⟩ := List.mem_map.mp hx; rfl
                · cases hx
              · exact ih _ x hx
          exact key b M.length _ (List.mem_of_getElem? e)
        subst ha
        have hj := (List.getElem?_eq_some_iff.mp e).1
        rw [decide_eq_true hg, Bool.true_or, List.append_assoc, getB_right (by omega)]
        simp only [if_pos hg] at hX ⊢
        rw [getB_left (by omega)]
        rw [List.length_replicate] at hX
        have : M.length + j - M.length < (tsize b).toNat := by omega
        rw [List.getD_eq_getElem?_getD, List.getElem?_replicate, if_pos this]
        rfl
      · simp only [if_neg hg]
        exact told_toks hg b kl M _ htb hk hb0
    · show (backA (i : Int) b M.length ++ backB (i + 1) bs (M.length + (backA (i : Int) b M.length).length)).length = (_ ++ markB gone (i + 1) bs _).length
      rw [List.length_append, List.length_append, i2, hX]
/-! ### texts cut at the blocks' ends -/
def splitB : List Nat → List Nat → List (List Nat)
  | [], _ => []
  | s :: ss, L => L.take s :: splitB ss (L.drop s)
def ownr : List Nat → Nat → Nat
  | [], _ => 0
  | s :: ss, k => if k < s then 0 else ownr ss (k - s) + 1
theorem splitB_len : ∀ (ss : List Nat) (L : List Nat), (splitB ss L).length = ss.length
  | [], _ => rfl
  | s :: ss, L => by
    show (L.take s :: splitB ss _).length = _
    rw [List.length_cons, splitB_len ss, List.length_cons]
theorem splitB_snoc : ∀ (ss : List Nat) (l : List Nat) (x : Nat), l.length < ss.sum → ∃ y, (splitB ss l)[ownr ss l.length]? = some y ∧ splitB ss (l ++ [x]) = (splitB ss l).set (ownr ss l.length) (y ++ [x]) ∧ y.length ≤ l.length
  | [], l, x, h => by simp at h
  | s :: ss, l, x, h => by
    rw [List.sum_cons] at h
    unfold ownr
    by_cases hs : l.length < s
    · rw [if_pos hs]
      refine ⟨l.take s, rfl, ?_, by rw [List.length_take]; omega⟩
      show (l ++ [x]).take s :: splitB ss ((l ++ [x]).drop s) = (l.take s ++ [x]) :: splitB ss (l.drop s)
      rw [List.take_of_length_le (l := l ++ [x]) (by rw [List.length_append, List.length_singleton]; omega), List.take_of_length_le (l := l) (by omega), List.drop_of_length_le (l := l ++ [x]) (by rw [List.length_append, List.length_singleton]; omega), List.drop_of_length_le (l := l) (by omega)]
    · rw [if_neg hs]
      have hd : (l.drop s).length = l.length - s := List.length_drop
      obtain ⟨y, e1, e2, e3⟩ := splitB_snoc ss (l.drop s) x (by omega)
      rw [hd] at e1 e2 e3
      refine ⟨y, e1, ?_, by omega⟩
      show (l ++ [x]).take s :: splitB ss ((l ++ [x]).drop s) = l.take s :: (splitB ss (l.drop s)).set (ownr ss (l.length - s)) (y ++ [x])
      rw [List.take_append_of_le_length (by omega), List.drop_append_of_le_length (by omega), e2]
theorem splitB_nil : ∀ ss : List Nat, splitB ss [] = List.replicate ss.length []
  | [] => rfl
  | s :: ss => by
    show ([] : List Nat).take s :: splitB ss (([] : List Nat).drop s) = _
    rw [List.drop_nil, List.take_nil, splitB_nil ss]
    rfl
theorem ownr_lt : ∀ (ss : List Nat) (k : Nat), k < ss.sum → ownr ss k < ss.length
  | [], k, h => by simp at h
  | s :: ss, k, h => by
    rw [List.sum_cons] at h
    unfold ownr
    rw [List.length_cons]
    split
    · omega
    · have := ownr_lt ss (k - s) (by omega)
      omega
theorem splitB_app : ∀ (x L : List Nat) (ss : List Nat), splitB (x.length :: ss) (x ++ L) = x :: splitB ss L := fun x L ss => by
  show (x ++ L).take x.length :: splitB ss ((x ++ L).drop x.length) = _
  rw [List.take_left, List.drop_left]
abbrev sizesB (bs : List (List (List V))) : List Nat := bs.map fun b => (tsize b).toNat
theorem lossT_split {z : Str} {w : Nat} {gone : List Int} : ∀ (bs : List (List (List V))) (i kl : Nat) (M : List Bool) (W : List Nat), (∀ b ∈ bs, ∀ t ∈ b, TokW z w t) → M.length = W.length → kl ≤ W.length → badB w bs kl = none →
    lossT gone i bs M W = splitB (sizesB bs) (mkL (markB gone i bs M) (textB bs W).flatten) ∧ (markB gone i bs M).length = (textB bs W).flatten.length ∧ ((textB bs W).flatten.length = (sizesB bs).sum)
  | [], _, _, _, _, _, _, _, _ => ⟨rfl, rfl, rfl⟩
  | b :: bs, i, kl, M, W, h, hl, hk, hb => by
    have htb := h b List.mem_cons_self
    have hb0 : badA w b kl = none := by
      cases e : badA w b kl with
      | none => rfl
      | some x =>
        have : badB w (b :: bs) kl = some x := by show (match badA w b kl with | some b => some b | none => _) = _; rw [e]
        rw [this] at hb; cases hb
    have hb1 : badB w bs (klA w b kl) = none := by
      have : badB w (b :: bs) kl = badB w bs (klA w b kl) := by show (match badA w b kl with | some b => some b | none => badB w bs (klA w b kl)) = _; rw [hb0]
      rw [this] at hb; exact hb
    have hlen := textA_len (z := z) b W fun t ht => ⟨(htb t ht).ok, (htb t ht).pl.1⟩
    have hkl := klA_line (z := z) (w := w) b kl W (fun t ht => ⟨(htb t ht).ok, (htb t ht).pl.1⟩) hk
    obtain ⟨m1, m2⟩ := mkL_toks (w := w) b kl M W htb hl hk hb0
    have e0 : (tsize b).toNat = (textA b W).length := by omega
    have hX : (if (i : Int) ∈ gone then List.replicate (textA b W).length true else markA b M).length = (textA b W).length := by
      split
      · rw [List.length_replicate]
      · omega
    obtain ⟨i1, i2, i3⟩ := lossT_split (z := z) (w := w) (gone := gone) bs (i + 1) (klA w b kl) (M ++ (if (i : Int) ∈ gone then List.replicate (textA b W).length true else markA b M)) (W ++ textA b W) (fun c hc => h c (List.mem_cons_of_mem _ hc))
      (by rw [List.length_append, List.length_append]; omega) hkl hb1
    have eB : markB gone i (b :: bs) M = (if (i : Int) ∈ gone then List.replicate (textA b W).length true else markA b M) ++ markB gone (i + 1) bs (M ++ (if (i : Int) ∈ gone then List.replicate (textA b W).length true else markA b M)) := by
      rw [← e0]; rfl
    have eT : (textB (b :: bs) W).flatten = textA b W ++ (textB bs (W ++ textA b W)).flatten := rfl
    refine ⟨?_, ?_, ?_⟩
    · rw [eB, eT, mkL_app hX]
      show mkL _ (textA b W) :: lossT gone (i + 1) bs _ _ = splitB ((tsize b).toNat :: sizesB bs) _
      rw [i1, e0, ← splitB_app, mkL_len hX]
    · rw [eB, eT, List.length_append, List.length_append, i2, hX]
    · rw [eT, List.length_append, i3]
      show _ = ((tsize b).toNat :: sizesB bs).sum
      rw [List.sum_cons, e0]
theorem backA_own {i : Int} : ∀ (ts : List (List V)) (p : Nat), ∀ x ∈ backA i ts p, x.1 = i := by
  intro ts
  induction ts with
  | nil => intro p x hx; cases hx
  | cons t ts ih =>
    intro p x hx
    rcases List.mem_append.mp (show x ∈ backT i p t ++ backA i ts _ from hx) with hx | hx
    · unfold backT at hx
      split at hx
      · rw [List.eq_of_mem_replicate hx]
      · obtain ⟨k, _, rfl⟩ := List.mem_map.mp hx; rfl
      · cases hx
    · exact ih _ x hx
theorem back_own {z : Str} {w : Nat} : ∀ (bs : List (List (List V))) (i p k : Nat) (a : Int) (b : Option Nat), (∀ b ∈ bs, ∀ t ∈ b, TokW z w t) → (backB i bs p)[k]? = some (a, b) → a = (i : Int) + (ownr (sizesB bs) k : Nat)
  | [], _, _, _, _, _, _, e => by cases e
  | c :: bs, i, p, k, a, b, h, e => by
    have htb := h c List.mem_cons_self
    have hlen := textA_len (z := z) c [] fun t ht => ⟨(htb t ht).ok, (htb t ht).pl.1⟩
    have hbl := backA_len (i := (i : Int)) c p [] htb
    have e' : (backA (i : Int) c p ++ backB (i + 1) bs (p + (backA (i : Int) c p).length))[k]? = some (a, b) := e
    show a = (i : Int) + (ownr ((tsize c).toNat :: sizesB bs) k : Nat)
    unfold ownr
    by_cases hk : k < (tsize c).toNat
    · rw [if_pos hk]
      rw [List.getElem?_append_left (by omega)] at e'
      have := backA_own c p _ (List.mem_of_getElem? e')
      simpa using this
    · rw [if_neg hk]
      rw [List.getElem?_append_right (by omega)] at e'
      have := back_own bs (i + 1) _ _ a b (fun c' hc => h c' (List.mem_cons_of_mem _ hc)) e'
      rw [this, show k - (backA (i : Int) c p).length = k - (tsize c).toNat by omega]
      omega
theorem back_len {z : Str} {w : Nat} : ∀ (bs : List (List (List V))) (i p : Nat), (∀ b ∈ bs, ∀ t ∈ b, TokW z w t) → (backB i bs p).length = (sizesB bs).sum
  | [], _, _, _ => rfl
  | c :: bs, i, p, h => by
    have htb := h c List.mem_cons_self
    have hlen := textA_len (z := z) c [] fun t ht => ⟨(htb t ht).ok, (htb t ht).pl.1⟩
    have hbl := backA_len (i := (i : Int)) c p [] htb
    show (backA (i : Int) c p ++ backB (i + 1) bs _).length = ((tsize c).toNat :: sizesB bs).sum
    rw [List.length_append, List.sum_cons, back_len bs _ _ fun c' hc => h c' (List.mem_cons_of_mem _ hc)]
    omega
/-! ### blocks on the heap -/
def BlkAt (K : PySem.W.Frag) (H : Hp) (z : Str) (v : V) (ts : List (List V)) : Prop := ∃ (a : Addr) (tvs : List V), v = .ref a ∧ H a = some (.lst tvs) ∧ Toks K H z tvs ts
abbrev Blks (K : PySem.W.Frag) (H : Hp) (z : Str) : List V → List (List (List V)) → Prop := Paired (BlkAt K H z)
theorem BlkAt.same {K : PySem.W.Frag} {H H' : Hp} {z : Str} {v : V} {ts : List (List V)} (s : Same H H') (h : BlkAt K H z v ts) : BlkAt K H' z v ts := by
  obtain ⟨a, tvs, rfl, ha, ht⟩ := h
  exact ⟨a, tvs, rfl, s _ _ ha, ht.same s⟩
theorem Blks.same {K : PySem.W.Frag} {H H' : Hp} {z : Str} {vs : List V} {bs : List (List (List V))} (s : Same H H') (h : Blks K H z vs bs) : Blks K H' z vs bs := paired_mono h fun _ _ x => x.same s
theorem BlkAt.bag {K : PySem.W.Frag} {H H' : Hp} {b c : Addr} {z : Str} {v : V} {ts : List (List V)} (k : KeepB b H H') (hb : BagAt H b c) (h : BlkAt K H z v ts) : BlkAt K H' z v ts := by
  obtain ⟨a, tvs, rfl, ha, ht⟩ := h
  exact ⟨a, tvs, rfl, k _ _ (ne_bag hb ha (toks_no ht)) ha, ht.keep k hb.lst⟩
theorem Blks.bag {K : PySem.W.Frag} {H H' : Hp} {b c : Addr} {z : Str} {vs : List V} {bs : List (List (List V))} (k : KeepB b H H') (hb : BagAt H b c) (h : Blks K H z vs bs) : Blks K H' z vs bs := paired_mono h fun _ _ x => x.bag k hb
theorem blks_no {K : PySem.W.Frag} {H : Hp} {z : Str} {vs : List V} {bs : List (List (List V))} {c : Addr} (h : Blks K H z vs bs) : ∀ p q n : Int, vs ≠ [.int p, .int q, .int n, .ref c] := by
  intro p q n e
  subst e
  cases h with
  | cons h1 _ =>
    obtain ⟨a, tvs, e, _⟩ := h1
    cases e
/-- all but a fresh object's writes keep what stood -/
theorem Same.keep2 {H0 H H' : Hp} {a l : Addr} (s : Same H0 H) (k : Keep2 a l H H') (ha : H0 a = none) (hl : H0 l = none) : Same H0 H' := fun b o e => k b o (fun z => by subst z; rw [ha] at e; cases e) (fun z => by subst z; rw [hl] at e; cases e) (s b o e)
theorem Same.keepB {H0 H H' : Hp} {a : Addr} (s : Same H0 H) (k : KeepB a H H') (ha : H0 a = none) : Same H0 H' := fun b o e => k b o (fun z => by subst z; rw [ha] at e; cases e) (s b o e)
theorem plain_text {y : V} : plainV [.str "text", y] = true := by
  show decide (("text" : Str) = "text" ∨ ("text" : Str) = "copy" ∨ ("text" : Str) = "flush") = true
  decide +kernel
theorem plain_copy {x y : V} : plainV [.str "copy", x, y] = true := by
  show decide (("copy" : Str) = "text" ∨ ("copy" : Str) = "copy" ∨ ("copy" : Str) = "flush") = true
  decide +kernel
theorem plain_flush : plainV [.str "flush"] = true := by
  show decide (("flush" : Str) = "text" ∨ ("flush" : Str) = "copy" ∨ ("flush" : Str) = "flush") = true
  decide +kernel
theorem TokW.flush {z : Str} {w : Nat} : TokW z w [.str "flush"] := ⟨tok_flush, plain_flush, fun d n e => by cases e⟩
theorem TokW.text {z y : Str} {w : Nat} (h1 : overB z y = true) (h2 : 1 ≤ y.length) (h3 : y.length ≤ 40) : TokW z w [.str "text", .str y] := ⟨tok_text h1 h2 h3, plain_text, fun d n e => by cases e⟩
theorem TokW.copy {z : Str} {w : Nat} {d n : Int} (h1 : 1 ≤ d) (h2 : d ≤ (w : Int)) (hw : w ≤ 12) (h3 : 1 ≤ n) (h4 : n ≤ 40) : TokW z w [.str "copy", .int d, .int n] := ⟨tok_copy h1 (by omega) h3 h4, plain_copy, fun d' n' e => by cases e; exact h2⟩
theorem KeepB.fresh {b D : Addr} {H H' : Hp} {o : HO} (k : KeepB b H H') (h : H D = none) : KeepB b H (upd H' D o) := fun a u n e => by
  rw [upd_ne (ne_of_none e h)]; exact k a u n e
theorem Same.fresh {D : Addr} {H H' : Hp} {o : HO} (k : Same H H') (h : H D = none) : Same H (upd H' D o) := fun a u e => by
  rw [upd_ne (ne_of_none e h)]; exact k a u e
theorem badB_snoc (w : Nat) : ∀ (bs : List (List (List V))) (b : List (List V)) (kl : Nat), badB w bs kl = none → badB w (bs ++ [b]) kl = badA w b (klB w bs kl)
  | [], b, kl, _ => by
    show (match badA w b kl with | some x => some x | none => none) = badA w b kl
    cases badA w b kl <;> rfl
  | c :: bs, b, kl, h => by
    have h0 : badA w c kl = none := by
      cases e : badA w c kl with
      | none => rfl
      | some x =>
        have : badB w (c :: bs) kl = some x := by show (match badA w c kl with | some b => some b | none => _) = _; rw [e]
        rw [this] at h; cases h
    have e1 : ∀ ds : List (List (List V)), badB w (c :: ds) kl = badB w ds (klA w c kl) := fun ds => by
      show (match badA w c kl with | some b => some b | none => badB w ds (klA w c kl)) = _
      rw [h0]
    show badB w (c :: (bs ++ [b])) kl = _
    rw [e1] at h ⊢
    exact badB_snoc w bs b _ h
theorem klB_snoc (w : Nat) : ∀ (bs : List (List (List V))) (b : List (List V)) (kl : Nat), klB w (bs ++ [b]) kl = klA w b (klB w bs kl)
  | [], b, kl => rfl
  | c :: bs, b, kl => klB_snoc w bs b (klA w c kl)
theorem klB_le {z : Str} {w : Nat} : ∀ (bs : List (List (List V))) (kl : Nat), (∀ b ∈ bs, ∀ t ∈ b, TokW z w t) → kl ≤ w → klB w bs kl ≤ w
  | [], _, _, h => h
  | c :: bs, kl, h, hk => klB_le bs _ (fun b hb => h b (List.mem_cons_of_mem _ hb)) (klA_le (z := z) c kl (fun t ht => (h c List.mem_cons_self t ht).ok) hk)
/-- a list of blocks put elsewhere -/
theorem Blks.put {K : PySem.W.Frag} {H : Hp} {z : Str} {D : Addr} {xs ys : List V} {vs : List V} {bs : List (List (List V))} (hD : H D = some (.lst xs)) (hv : ∀ v ∈ vs, v ≠ V.ref D) (h : Blks K H z vs bs) : Blks K (upd H D (.lst ys)) z vs bs := by
  induction h with
  | nil => exact .nil
  | cons h1 h2 ih =>
    refine .cons ?_ (ih fun v hv' => hv v (List.mem_cons_of_mem _ hv'))
    obtain ⟨a, tvs, rfl, ha, ht⟩ := h1
    have na : a ≠ D := fun e => hv _ List.mem_cons_self (by rw [e])
    exact ⟨a, tvs, rfl, by rw [upd_ne na]; exact ha, Toks.keep KeepB.put (lst_lst hD) ht⟩
theorem textB_snoc : ∀ (bs : List (List (List V))) (b : List (List V)) (W : List Nat), textB (bs ++ [b]) W = textB bs W ++ [textA b (W ++ (textB bs W).flatten)]
  | [], b, W => by
    show [textA b W] = [] ++ [textA b (W ++ [])]
    rw [List.append_nil]; rfl
  | c :: bs, b, W => by
    show textA c W :: textB (bs ++ [b]) _ = textA c W :: textB bs _ ++ [textA b (W ++ (textA c W ++ (textB bs _).flatten))]
    rw [textB_snoc bs b, List.append_assoc]
    rfl
theorem badB_some {w : Nat} : ∀ (bs : List (List (List V))) (i kl : Nat) (b : List (List V)), bs[i]? = some b → badB w bs kl = none → badA w b (klB w (bs.take i) kl) = none ∧ badB w (bs.take i) kl = none
  | [], _, _, _, h, _ => by cases h
  | c :: bs, i, kl, b, h, hb => by
    have h0 : badA w c kl = none := by
      cases e : badA w c kl with
      | none => rfl
      | some x =>
        have : badB w (c :: bs) kl = some x := by show (match badA w c kl with | some b => some b | none => _) = _; rw [e]
        rw [this] at hb; cases hb
    have e1 : ∀ ds : List (List (List V)), badB w (c :: ds) kl = badB w ds (klA w c kl) := fun ds => by
      show (match badA w c kl with | some b => some b | none => badB w ds (klA w c kl)) = _
      rw [h0]
    cases i with
    | zero => cases h; exact ⟨h0, rfl⟩
    | succ i =>
      rw [e1] at hb
      have ih := badB_some (w := w) bs i (klA w c kl) b h hb
      refine ⟨ih.1, ?_⟩
      show badB w (c :: bs.take i) kl = none
      rw [e1]; exact ih.2
theorem textB_flat_len {z : Str} {w : Nat} : ∀ (bs : List (List (List V))) (W : List Nat), (∀ b ∈ bs, ∀ t ∈ b, TokW z w t) → ((textB bs W).flatten.length : Int) = (bs.map tsize).sum
  | [], _, _ => rfl
  | c :: bs, W, h => by
    have h1 := textA_len (z := z) c W fun t ht => ⟨(h c List.mem_cons_self t ht).ok, (h c List.mem_cons_self t ht).pl.1⟩
    have h2 := textB_flat_len (z := z) (w := w) bs (W ++ textA c W) fun b hb => h b (List.mem_cons_of_mem _ hb)
    show ((textA c W ++ (textB bs _).flatten).length : Int) = (tsize c :: bs.map tsize).sum
    rw [List.length_append, List.sum_cons, ← h2, ← h1]
    omega
theorem sum_le {bs : List (List (List V))} {m : Int} (h : ∀ b ∈ bs, tsize b ≤ m) (hm : 0 ≤ m) : (bs.map tsize).sum ≤ m * bs.length := by
  induction bs with
  | nil => simp
  | cons c bs ih =>
    have h1 := h c List.mem_cons_self
    have h2 := ih fun b hb => h b (List.mem_cons_of_mem _ hb)
    rw [List.map_cons, List.sum_cons, List.length_cons]
    have e : m * ((bs.length + 1 : Nat) : Int) = m * bs.length + m := by
      rw [Int.natCast_add, Int.mul_add]
      show _ + m * 1 = _
      rw [Int.mul_one]
    omega
theorem textB_len : ∀ (bs : List (List (List V))) (W : List Nat), (textB bs W).length = bs.length
  | [], _ => rfl
  | c :: bs, W => by
    show (textB bs _).length + 1 = _
    rw [textB_len bs, List.length_cons]
theorem backA_snoc (i : Int) : ∀ (ts : List (List V)) (t : List V) (p : Nat), backA i (ts ++ [t]) p = backA i ts p ++ backT i (p + (backA i ts p).length) t
  | [], t, p => by
    show backT i p t ++ [] = [] ++ backT i (p + 0) t
    rw [List.append_nil, List.nil_append, Nat.add_zero]
  | u :: ts, t, p => by
    show backT i p u ++ backA i (ts ++ [t]) _ = (backT i p u ++ backA i ts _) ++ _
    rw [backA_snoc i ts t, List.append_assoc]
    congr 3
    show _ = p + (backT i p u ++ backA i ts _).length
    rw [List.length_append, Nat.add_assoc]
theorem backB_snoc : ∀ (bs : List (List (List V))) (b : List (List V)) (i p : Nat), backB i (bs ++ [b]) p = backB i bs p ++ backA ((i + bs.length : Nat) : Int) b (p + (backB i bs p).length)
  | [], b, i, p => by
    show backA i b p ++ [] = [] ++ backA ((i + 0 : Nat) : Int) b (p + 0)
    rw [List.append_nil, List.nil_append, Nat.add_zero, Nat.add_zero]
  | c :: bs, b, i, p => by
    show backA i c p ++ backB (i + 1) (bs ++ [b]) _ = (backA i c p ++ backB (i + 1) bs _) ++ _
    rw [backB_snoc bs b, List.append_assoc]
    have e1 : i + 1 + bs.length = i + (c :: bs).length := by rw [List.length_cons]; omega
    have e2 : p + (backA (i : Int) c p).length + (backB (i + 1) bs (p + (backA (i : Int) c p).length)).length = p + (backB i (c :: bs) p).length := by
      show _ = p + (backA (i : Int) c p ++ backB (i + 1) bs (p + (backA (i : Int) c p).length)).length
      rw [List.length_append, Nat.add_assoc]
    rw [e1, e2]
theorem backT_le {z : Str} {w : Nat} {t : List V} {i : Int} {p : Nat} (h : TokW z w t) : ((backT i p t).length : Int) = sizeV t := by
  rw [backT_len (W := []) h]
  exact textT_len h.ok h.pl.1
theorem badA_cons {w : Nat} {t : List V} {ts : List (List V)} {kl : Nat} (hb : badA w (t :: ts) kl = none) : badT kl t = none ∧ badA w ts (klT w kl t) = none := by
  have hb0 : badT kl t = none := by
    cases e : badT kl t with
    | none => rfl
    | some b =>
      have : badA w (t :: ts) kl = some b := by show (match badT kl t with | some b => some b | none => _) = _; rw [e]
      rw [this] at hb; cases hb
  have : badA w (t :: ts) kl = badA w ts (klT w kl t) := by show (match badT kl t with | some b => some b | none => badA w ts (klT w kl t)) = _; rw [hb0]
  rw [this] at hb
  exact ⟨hb0, hb⟩
theorem badB_cons {w : Nat} {b : List (List V)} {bs : List (List (List V))} {kl : Nat} (hb : badB w (b :: bs) kl = none) : badA w b kl = none ∧ badB w bs (klA w b kl) = none := by
  have hb0 : badA w b kl = none := by
    cases e : badA w b kl with
    | none => rfl
    | some x =>
      have : badB w (b :: bs) kl = some x := by show (match badA w b kl with | some b => some b | none => _) = _; rw [e]
      rw [this] at hb; cases hb
  have : badB w (b :: bs) kl = badB w bs (klA w b kl) := by show (match badA w b kl with | some b => some b | none => badB w bs (klA w b kl)) = _; rw [hb0]
  rw [this] at hb
  exact ⟨hb0, hb⟩
theorem backA_lt {z : Str} {w : Nat} {i : Int} : ∀ (ts : List (List V)) (kl p k : Nat) (a : Int) (b : Nat), (∀ t ∈ ts, TokW z w t) → kl ≤ p → badA w ts kl = none → (backA i ts p)[k]? = some (a, some b) → b < p + k
  | [], _, _, _, _, _, _, _, _, e => by cases e
  | t :: ts, kl, p, k, a, b, h, hk, hb, e => by
    have ht := h t List.mem_cons_self
    obtain ⟨hb0, hb1⟩ := badA_cons hb
    have e' : (backT i p t ++ backA i ts (p + (backT i p t).length))[k]? = some (a, some b) := e
    rcases Nat.lt_or_ge k (backT i p t).length with hlt | hge
    · rw [List.getElem?_append_left hlt] at e'
      rcases ht.cases with rfl | ⟨y, rfl, _⟩ | ⟨d, n, rfl, h1, _⟩
      · cases e'
      · have e2 : (List.replicate y.length ((i, none) : Int × Option Nat))[k]? = some (a, some b) := e'
        obtain ⟨_, e3⟩ := List.getElem?_eq_some_iff.mp e2
        rw [List.getElem_replicate] at e3
        cases e3
      · have hd : d ≤ (kl : Int) := of_decide_eq_true (badT_ok.mpr hb0)
        have e2 : ((List.range n.toNat).map fun k => ((i, some (p + k - d.toNat)) : Int × Option Nat))[k]? = some (a, some b) := e'
        rw [List.getElem?_map] at e2
        have hlt' : k < n.toNat := by
          have : (backT i p [V.str "copy", V.int d, V.int n]).length = n.toNat := by
            show ((List.range n.toNat).map _).length = _
            rw [List.length_map, List.length_range]
          omega
        rw [List.getElem?_range hlt'] at e2
        cases e2
        omega
    · rw [List.getElem?_append_right hge] at e'
      have hkl := klT_line (w := w) (line := List.replicate p 0) ht.ok ht.pl.1 (by rw [List.length_replicate]; exact hk)
      rw [List.length_append, List.length_replicate, ← backT_len (i := i) (p := p) ht] at hkl
      have := backA_lt ts _ _ _ a b (fun u hu => h u (List.mem_cons_of_mem _ hu)) hkl hb1 e'
      omega
theorem back_lt {z : Str} {w : Nat} : ∀ (bs : List (List (List V))) (i kl p k : Nat) (a : Int) (b : Nat), (∀ b ∈ bs, ∀ t ∈ b, TokW z w t) → kl ≤ p → badB w bs kl = none → (backB i bs p)[k]? = some (a, some b) → b < p + k
  | [], _, _, _, _, _, _, _, _, _, e => by cases e
  | c :: bs, i, kl, p, k, a, b, h, hk, hb, e => by
    have hc := h c List.mem_cons_self
    obtain ⟨hb0, hb1⟩ := badB_cons hb
    have e' : (backA (i : Int) c p ++ backB (i + 1) bs (p + (backA (i : Int) c p).length))[k]? = some (a, some b) := e
    rcases Nat.lt_or_ge k (backA (i : Int) c p).length with hlt | hge
    · rw [List.getElem?_append_left hlt] at e'
      exact backA_lt c kl p k a b hc hk hb0 e'
    · rw [List.getElem?_append_right hge] at e'
      have hkl := klA_line (z := z) (w := w) c kl (List.replicate p 0) (fun t ht => ⟨(hc t ht).ok, (hc t ht).pl.1⟩) (by rw [List.length_replicate]; exact hk)
      rw [List.length_append, List.length_replicate, ← backA_len (i := (i : Int)) c p (List.replicate p 0) hc] at hkl
      have := back_lt bs (i + 1) _ _ _ a b (fun u hu => h u (List.mem_cons_of_mem _ hu)) hkl hb1 e'
      omega
/-! ### texts and blocks as plain data -/
def CodesOk (L : List Nat) : Prop := ∀ c ∈ L, c < 0x110000
theorem copyN_codes {line : List Nat} {d : Nat} (h : CodesOk line) : ∀ n, CodesOk (copyN line d n)
  | 0 => fun c hc => nomatch hc
  | n + 1 => fun c hc => by
    rcases List.mem_append.mp (show c ∈ copyN line d n ++ [_] from hc) with hc | hc
    · exact copyN_codes h n c hc
    · rw [List.mem_singleton.mp hc]
      rw [List.getD_eq_getElem?_getD]
      cases e : (line ++ copyN line d n)[line.length + n - d]? with
      | none => show 0 < _; decide
      | some x =>
        rcases List.mem_append.mp (List.mem_of_getElem? e) with hx | hx
        · exact h x hx
        · exact copyN_codes h n x hx
theorem textT_codes {z : Str} {t : List V} {W : List Nat} (hz : SignsOk z) (h : tokV z t = true) (hW : CodesOk W) : CodesOk (textT W t) := by
  obtain ⟨kd, rest, rfl, hk⟩ := tok_inv h
  have hcz := cln_iff.mp (clean_signs hz)
  rcases hk with ⟨rfl, rfl⟩ | ⟨y, rfl, rfl, h1, h2, h3⟩ | ⟨y, rfl, rfl, h1⟩ | ⟨d, n, hkd, rfl, h1, h2, h3, h4⟩
  · exact fun c hc => nomatch hc
  · exact cln_iff.mp (clean_over (clean_signs hz) h1)
  · have ho : overB z y = true := by
      unfold choiceB at h1
      simp only [Bool.and_eq_true] at h1
      exact h1.1.2
    exact cln_iff.mp (clean_over (clean_signs hz) ho)
  · exact copyN_codes hW _
theorem textA_codes {z : Str} (hz : SignsOk z) : ∀ (ts : List (List V)) (W : List Nat), (∀ t ∈ ts, tokV z t = true) → CodesOk W → CodesOk (textA ts W)
  | [], _, _, _ => fun c hc => nomatch hc
  | t :: ts, W, h, hW => fun c hc => by
    have h1 := textT_codes hz (h t List.mem_cons_self) hW
    rcases List.mem_append.mp (show c ∈ textT W t ++ textA ts _ from hc) with hc | hc
    · exact h1 c hc
    · exact textA_codes hz ts (W ++ textT W t) (fun u hu => h u (List.mem_cons_of_mem _ hu)) (fun x hx => (List.mem_append.mp hx).elim (hW x) (h1 x)) c hc
theorem textB_codes {z : Str} (hz : SignsOk z) : ∀ (bs : List (List (List V))) (W : List Nat), (∀ b ∈ bs, ∀ t ∈ b, tokV z t = true) → CodesOk W → ∀ x ∈ textB bs W, CodesOk x
  | [], _, _, _ => fun c hc => nomatch hc
  | b :: bs, W, h, hW => fun x hx => by
    have h1 := textA_codes hz b W (h b List.mem_cons_self) hW
    rcases List.mem_cons.mp (show x ∈ textA b W :: textB bs _ from hx) with rfl | hx
    · exact h1
    · exact textB_codes hz bs _ (fun u hu => h u (List.mem_cons_of_mem _ hu)) (fun y hy => (List.mem_append.mp hy).elim (hW y) (h1 y)) x hx
theorem mkL_codes {M : List Bool} {W : List Nat} (h : CodesOk W) : CodesOk (mkL M W) := by
  intro c hc
  unfold mkL at hc
  obtain ⟨i, hi⟩ := List.getElem?_of_mem hc
  rw [List.getElem?_zipWith] at hi
  cases e1 : M[i]? with
  | none => rw [e1] at hi; cases hi
  | some m =>
    cases e2 : W[i]? with
    | none => rw [e1, e2] at hi; cases hi
    | some w =>
      rw [e1, e2] at hi
      have hi : some (if m = true then 63 else w) = some c := hi
      cases hi
      split
      · decide
      · exact h w (List.mem_of_getElem? e2)
theorem splitB_codes : ∀ (ss : List Nat) (L : List Nat), CodesOk L → ∀ x ∈ splitB ss L, CodesOk x
  | [], _, _ => fun x hx => nomatch hx
  | s :: ss, L, h => fun x hx => by
    rcases List.mem_cons.mp (show x ∈ L.take s :: splitB ss (L.drop s) from hx) with rfl | hx
    · exact fun c hc => h c (List.mem_of_mem_take hc)
    · exact splitB_codes ss _ (fun c hc => h c (List.mem_of_mem_drop hc)) x hx
theorem splitB_le : ∀ (ss : List Nat) (L : List Nat) (m : Nat), (∀ s ∈ ss, s ≤ m) → ∀ x ∈ splitB ss L, x.length ≤ m
  | [], _, _, _ => fun x hx => nomatch hx
  | s :: ss, L, m, h => fun x hx => by
    rcases List.mem_cons.mp (show x ∈ L.take s :: splitB ss (L.drop s) from hx) with rfl | hx
    · rw [List.length_take]; have := h s List.mem_cons_self; omega
    · exact splitB_le ss _ m (fun s' hs' => h s' (List.mem_cons_of_mem _ hs')) x hx
/-- a list of texts as data -/
def txtsD (xs : List (List Nat)) : PyData := .list (xs.map fun x => .str (stL x))
theorem txts_dp {K : PySem.W.Frag} {H : Hp} {l : Addr} {xs : List (List Nat)} (h : H l = some (.lst (xs.map fun x => V.str (stL x)))) : Dp K H (.ref l) (txtsD xs) := by
  refine .lst (SqL.of h) ?_
  have e := dp_flats (K := K) (H := H) (vs := xs.map fun x => V.str (stL x)) (by rw [List.all_map]; exact List.all_eq_true.mpr fun _ _ => rfl)
  rw [List.map_map] at e
  exact e
theorem txts_pl {xs : List (List Nat)} {m : Nat} (h : ∀ x ∈ xs, CodesOk x) (hl : ∀ x ∈ xs, x.length ≤ m) : Pl 1 (xs.length * (m + 1)) (txtsD xs) := by
  have e := (PlAll.of (n := 0) (w := m) (ds := xs.map fun x => .str (stL x)) fun d hd => by
    obtain ⟨x, hx, rfl⟩ := List.mem_map.mp hd
    exact Pl.str (cln_iff.mpr (show Cln (stL x) from fun c hc => by rw [cl_stL] at hc; exact h x hx c hc)) (by rw [stL_len]; exact hl x hx)).list
  rw [List.length_map] at e
  exact e
/-- a list of blocks as data -/
def blksD (bs : List (List (List V))) : PyData := .list (bs.map fun b => .list (b.map tokD))
theorem blks_dps {K : PySem.W.Frag} {H : Hp} {z : Str} : ∀ {vs : List V} {bs : List (List (List V))}, Blks K H z vs bs → DpAll K H vs (bs.map fun b => .list (b.map tokD))
  | _, _, .nil => .nil
  | _, _, .cons h t => by
    obtain ⟨a, tvs, rfl, ha, hk⟩ := h
    exact .cons (.lst (SqL.of ha) hk.dps) (blks_dps t)
theorem blks_dp {K : PySem.W.Frag} {H : Hp} {z : Str} {l : Addr} {vs : List V} {bs : List (List (List V))} (hl : H l = some (.lst vs)) (h : Blks K H z vs bs) : Dp K H (.ref l) (blksD bs) := .lst (SqL.of hl) (blks_dps h)
theorem blks_pl {z : Str} {bs : List (List (List V))} (hz : SignsOk z) (h : ∀ b ∈ bs, (∀ t ∈ b, tokV z t = true) ∧ b.length ≤ 10) (hn : bs.length ≤ 40) : Pl 64 1000000 (blksD bs) := by
  have e := (PlAll.of (n := 2) (w := 1240) (ds := bs.map fun b => .list (b.map tokD)) fun d hd => by
    obtain ⟨b, hb, rfl⟩ := List.mem_map.mp hd
    have e1 := (PlAll.of (n := 1) (w := 3 * 41) (ds := b.map tokD) fun d hd => by
      obtain ⟨t, ht, rfl⟩ := List.mem_map.mp hd
      exact tok_pl hz ((h b hb).1 t ht)).list
    refine e1.mono (Nat.le_refl _) ?_
    rw [List.length_map]
    have := (h b hb).2
    calc b.length * (3 * 41 + 1) ≤ 10 * (3 * 41 + 1) := Nat.mul_le_mul_right _ this
      _ = 1240 := rfl).list
  refine e.mono (by decide) ?_
  rw [List.length_map]
  calc bs.length * (1240 + 1) ≤ 40 * (1240 + 1) := Nat.mul_le_mul_right _ hn
    _ ≤ 1000000 := by decide
/-- the long stream: twelve signs, then copies of them -/
def longB (y : Str) : List (List (List V)) := [[.str "text", .str y]] :: List.replicate 3 (List.replicate 6 [.str "copy", .int 12, .int 40])
theorem longB_ok {z y : Str} (ho : overB z y = true) (hy : y.length = 12) : (∀ x ∈ longB y, (∀ t ∈ x, TokW z 12 t) ∧ x.length ≤ 6 ∧ tsize x ≤ 240) ∧ badB 12 (longB y) 0 = none := by
  have hc : TokW z 12 [.str "copy", .int 12, .int 40] := TokW.copy (by decide) (by decide) (by decide) (by decide) (by decide)
  constructor
  · intro x hx
    rcases List.mem_cons.mp hx with rfl | hx
    · refine ⟨fun t ht => ?_, Nat.le_of_ble_eq_true rfl, ?_⟩
      · rw [List.mem_singleton.mp ht]; exact TokW.text ho (by omega) (by omega)
      · rw [tsize_one, sizeV_text]; omega
    · rw [List.eq_of_mem_replicate hx]
      exact ⟨fun t ht => by rw [List.eq_of_mem_replicate ht]; exact hc, by decide, by decide⟩
  · have h1 : badA 12 [[.str "text", .str y]] 0 = none := rfl
    have h2 : klA 12 [[.str "text", .str y]] 0 = 12 := by
      show min 12 (0 + y.length) = 12
      rw [hy]
      rfl
    have h3 : badB 12 (List.replicate 3 (List.replicate 6 [.str "copy", .int 12, .int 40])) 12 = none := by decide
    show (match badA 12 [[.str "text", .str y]] 0 with | some x => some x | none => badB 12 (List.replicate 3 (List.replicate 6 [.str "copy", .int 12, .int 40])) (klA 12 [[.str "text", .str y]] 0)) = none
    rw [h1, h2]
    exact h3
theorem long_text {z : Str} (hz : SignsOk z) : overB z (cutS (Txt.mul z 6) none (some 12)) = true ∧ (cutS (Txt.mul z 6) none (some 12)).length = 12 := by
  have hl := hz.len
  have e : z = stL (cl z) := (stL_cl z).symm
  have hcl := cl_len z
  have e1 : Txt.mul z 6 = stL (List.replicate 6 (cl z)).flatten := by
    have := mul_st (cs := cl z) (n := 6)
    rw [stL_cl] at this
    exact this
  rw [e1, cut_head (by decide)]
  refine ⟨?_, ?_⟩
  · refine over_of fun c hc => ?_
    have h1 := List.mem_of_mem_take hc
    obtain ⟨l, hl1, hl2⟩ := List.mem_flatten.mp h1
    rw [List.eq_of_mem_replicate hl1] at hl2
    exact hl2
  · rw [stL_len, List.length_take, flat_len]
    show min 12 (6 * (cl z).length) = 12
    omega
end KW

/-! Calls within a try. -/
namespace KW
open PySem PySem.Spec PyProof.Rows L2
/-- how a method's call is taken apart -/
abbrev MethTree (o : Expr) (m : Str) (apos pos : Pos) (pl : Sem Bool) (es : List Expr) (en : Env) : Prop := eval (.Call (.Attribute o m apos) es [] pos) en = (do
  let ov ← eval o en
  standAt apos.atName
  let (fn, slf) ← holding [ov] (getMethod ov m pl)
  callWith pos fn slf (backTo pos (starEach es en)) (backToKw pos (keywordEach [] en)))
/-- its reading: what it lets out is told of the slots as they stand -/
def tMethT (C : Addr) (m : Str) (sp : Sp) (E : L2.St → XK) (ta : TE) (t : TA) : TE := fun σ H Q => ta σ H fun x H1 => ∃ (a dx : Addr) (fs : List (Str × V)), x = .ref a ∧ H1 a = some (.ins C dx fs) ∧ fs.lookup m = none ∧ t σ H1 fun us H2 => sp (x :: us) H2 Q (E σ)
section
variable {X : Cx} {CX : CXT} {k : Nat} {f C : Addr} {fd : FuncData} {ps : List Str} {sp : Sp} {E : L2.St → XK} {m : Str} {pos apos : Pos} {e o : Expr} {es : List Expr} {ta : TE} {t : TA}
/-- o.m(e, ..), what it lets out is caught around it -/
theorem pe_methT {pl : Sem Bool} (ho : PE X o ta) (c : Cls X.K C) (hm : Meth X.K C m f) (F : FnOk X.prog X.w X.K X.mg X.base CX k f fd ps sp) (hr : Room k X.A) (hb : L2.Binds X.K fd ps []) (hx : ∀ σ, PassesAt CX X σ (E σ)) (hes : PA X (e :: es) t) (hst : starEach (e :: es) X.env = (false, eval e X.env) :: starEach es X.env := by rfl) (hpl : (backTo pos (starEach es X.env)).any (·.1) = false := by rfl) (ht : MethTree o m apos pos pl (e :: es) X.env := by rfl) : PE X (.Call (.Attribute o m apos) (e :: es) [] pos) (tMethT C m sp E ta t) := by
  refine ⟨fun pins s σ H Q I h => PySem.W.methodCall_KW (pl := pl) (thn (ho.run pins s σ H _ I h) fun u s1 ⟨x, H1, I1, rx, a, dx, fs, ex, ea, l, q⟩ => ?_) ht⟩
  subst ex
  obtain rfl : u = Value.ref a := rx
  exact getmeth_ok I1 ea c hm l (PySem.W.callWith_K (first := [.ref a]) (h₀ := X.base) I.ok.mod.kin hm.kp (thn (hes.run pos pins s1 σ H1 _ I1 q) fun us s2 ⟨vs, H2, I2, r, q2⟩ => ⟨I2.kIn, run_fnS (us := .ref a :: us) (vs := .ref a :: vs) F hr hb (hx σ) I2 (.cons rfl r) q2⟩) hst hpl)
end
end KW

/-! What blocks ask of what stands ahead of them. -/
namespace KW
open PySem L2
/-- the signs ahead that a token asks for, so many being asked behind it -/
def askT (q : Nat) : List V → Nat
  | [.str _, .str y] => q - y.length
  | [.str _, .int d, .int n] => max (q - n.toNat) d.toNat
  | _ => q
def askA : List (List V) → Nat → Nat
  | [], q => q
  | t :: ts, q => askT (askA ts q) t
def askB : List (List (List V)) → Nat
  | [] => 0
  | b :: bs => askA b (askB bs)
theorem askA_app : ∀ (ts us : List (List V)) (q : Nat), askA (ts ++ us) q = askA ts (askA us q)
  | [], _, _ => rfl
  | t :: ts, us, q => by
    show askT (askA (ts ++ us) q) t = askT (askA ts (askA us q)) t
    rw [askA_app ts us]
theorem klA_mono {w : Nat} : ∀ (ts : List (List V)) (kl kl' : Nat), kl ≤ kl' → klA w ts kl ≤ klA w ts kl'
  | [], _, _, h => h
  | t :: ts, kl, kl', h => klA_mono ts _ _ (klT_mono h)
theorem badA_cons_iff {w : Nat} {t : List V} {ts : List (List V)} {kl : Nat} : badA w (t :: ts) kl = none ↔ badT kl t = none ∧ badA w ts (klT w kl t) = none := by
  refine ⟨badA_cons, fun ⟨h1, h2⟩ => ?_⟩
  show (match badT kl t with | some b => some b | none => badA w ts (klT w kl t)) = none
  rw [h1]
  exact h2
theorem badB_cons_iff {w : Nat} {b : List (List V)} {bs : List (List (List V))} {kl : Nat} : badB w (b :: bs) kl = none ↔ badA w b kl = none ∧ badB w bs (klA w b kl) = none := by
  refine ⟨badB_cons, fun ⟨h1, h2⟩ => ?_⟩
  show (match badA w b kl with | some x => some x | none => badB w bs (klA w b kl)) = none
  rw [h1]
  exact h2
/-- where the whole can be read, less is enough just if it is no less than what is asked -/
theorem ask_ok {z : Str} {w : Nat} : ∀ (ts : List (List V)) (q kl kl' : Nat), (∀ t ∈ ts, TokW z w t) → kl' ≤ kl → kl ≤ w → q ≤ klA w ts kl → badA w ts kl = none →
    askA ts q ≤ kl ∧ (askA ts q ≤ kl' ↔ badA w ts kl' = none ∧ q ≤ klA w ts kl')
  | [], q, kl, kl', _, _, _, hq, _ => ⟨hq, ⟨fun h => ⟨rfl, h⟩, fun h => h.2⟩⟩
  | t :: ts, q, kl, kl', ht, h1, h2, hq, hb => by
    obtain ⟨hb1, hb2⟩ := badA_cons hb
    have htw := ht t List.mem_cons_self
    have ih := ask_ok ts q (klT w kl t) (klT w kl' t) (fun u hu => ht u (List.mem_cons_of_mem _ hu)) (klT_mono h1) (klT_le htw.ok h2) hq hb2
    obtain ⟨i1, i2⟩ := ih
    show askT (askA ts q) t ≤ kl ∧ (askT (askA ts q) t ≤ kl' ↔ badA w (t :: ts) kl' = none ∧ q ≤ klA w ts (klT w kl' t))
    rw [badA_cons_iff, and_assoc, ← i2]
    generalize askA ts q = a at *
    rcases htw.cases with rfl | ⟨y, rfl, _, y1, y2⟩ | ⟨d, n, rfl, d1, d2, n1, n2⟩
    · have e : a ≤ 0 := i1
      refine ⟨Nat.le_trans e (Nat.zero_le _), fun _ => ⟨rfl, e⟩, fun _ => Nat.le_trans e (Nat.zero_le _)⟩
    · have e : a ≤ min w (kl + y.length) := i1
      show a - y.length ≤ kl ∧ (a - y.length ≤ kl' ↔ none = none ∧ a ≤ min w (kl' + y.length))
      refine ⟨by omega, fun h => ⟨rfl, by omega⟩, fun h => by have := h.2; omega⟩
    · have e : a ≤ min w (kl + n.toNat) := i1
      have e1 : d ≤ (kl : Int) := Classical.byContradiction fun hn => by
        have : (if d ≤ (kl : Int) then none else some (d, kl)) = (none : Option (Int × Nat)) := hb1
        rw [if_neg hn] at this
        cases this
      show max (a - n.toNat) d.toNat ≤ kl ∧ (max (a - n.toNat) d.toNat ≤ kl' ↔ (if d ≤ (kl' : Int) then none else some (d, kl')) = none ∧ a ≤ min w (kl' + n.toNat))
      refine ⟨by omega, fun h => ⟨if_pos (by omega), by omega⟩, fun h => ?_⟩
      have h1 : d ≤ (kl' : Int) := Classical.byContradiction fun hn => by
        have := h.1
        rw [if_neg hn] at this
        cases this
      have := h.2
      omega
theorem askB_ok {z : Str} {w : Nat} : ∀ (bs : List (List (List V))) (kl kl' : Nat), (∀ b ∈ bs, ∀ t ∈ b, TokW z w t) → kl' ≤ kl → kl ≤ w → badB w bs kl = none → askB bs ≤ kl ∧ (askB bs ≤ kl' ↔ badB w bs kl' = none)
  | [], _, _, _, _, _, _ => ⟨Nat.zero_le _, ⟨fun _ => rfl, fun _ => Nat.zero_le _⟩⟩
  | b :: bs, kl, kl', ht, h1, h2, hb => by
    obtain ⟨hb1, hb2⟩ := badB_cons hb
    have htb := ht b List.mem_cons_self
    obtain ⟨i1, i2⟩ := askB_ok bs (klA w b kl) (klA w b kl') (fun u hu => ht u (List.mem_cons_of_mem _ hu)) (klA_mono b _ _ h1) (klA_le (z := z) b kl (fun t ht => (htb t ht).ok) h2) hb2
    obtain ⟨j1, j2⟩ := ask_ok b (askB bs) kl kl' htb h1 h2 i1 hb1
    refine ⟨j1, ?_⟩
    show askA b (askB bs) ≤ kl' ↔ _
    rw [j2, badB_cons_iff, i2]
theorem badB_drop {w : Nat} : ∀ (bs : List (List (List V))) (i kl : Nat), badB w bs kl = none → badB w (bs.drop i) (klB w (bs.take i) kl) = none
  | bs, 0, _, h => by cases bs <;> exact h
  | [], _ + 1, _, _ => rfl
  | b :: bs, i + 1, kl, h => badB_drop bs i (klA w b kl) (badB_cons h).2
/-- a suffix can be read alone just if it asks for nothing -/
theorem alone_ok {z : Str} {w : Nat} {bs : List (List (List V))} (ht : ∀ b ∈ bs, ∀ t ∈ b, TokW z w t) (hb : badB w bs 0 = none) (i : Nat) : askB (bs.drop i) = 0 ↔ badB w (bs.drop i) 0 = none := by
  have h := (askB_ok (z := z) (bs.drop i) (klB w (bs.take i) 0) 0 (fun b hb' => ht b (List.mem_of_mem_drop hb')) (Nat.zero_le _) (klB_le (z := z) _ _ (fun b hb' => ht b (List.mem_of_mem_take hb')) (Nat.zero_le _)) (badB_drop bs i 0 hb)).2
  rw [← h]
  omega
theorem askB_drop : ∀ (bs : List (List (List V))) (i : Nat) (b : List (List V)), bs[i]? = some b → askB (bs.drop i) = askA b (askB (bs.drop (i + 1)))
  | [], _, _, h => by cases h
  | c :: bs, 0, b, h => by cases h; rfl
  | c :: bs, i + 1, b, h => askB_drop bs i b h
/-- what stands further ahead than it is read tells nothing -/
theorem textT_front {z : Str} {w kl : Nat} {t : List V} {P W : List Nat} (h : TokW z w t) (hb : badT kl t = none) (hk : kl ≤ W.length) : textT (P ++ W) t = textT W t := by
  rcases h.cases with rfl | ⟨y, rfl, _⟩ | ⟨d, n, rfl, d1, d2, n1, n2⟩
  · rfl
  · rfl
  · have e1 : d ≤ (kl : Int) := Classical.byContradiction fun hn => by
      have : (if d ≤ (kl : Int) then none else some (d, kl)) = (none : Option (Int × Nat)) := hb
      rw [if_neg hn] at this
      cases this
    have e := copyN_tail (line := P ++ W) (d := d.toNat) (n := n.toNat) (k := W.length) (by omega) (by omega) (by rw [List.length_append]; omega)
    rw [List.length_append, Nat.add_sub_cancel, List.drop_left] at e
    exact e.symm
theorem textA_front {z : Str} {w : Nat} : ∀ (ts : List (List V)) (kl : Nat) (P W : List Nat), (∀ t ∈ ts, TokW z w t) → badA w ts kl = none → kl ≤ W.length → textA ts (P ++ W) = textA ts W
  | [], _, _, _, _, _, _ => rfl
  | t :: ts, kl, P, W, h, hb, hk => by
    obtain ⟨b1, b2⟩ := badA_cons hb
    have ht := h t List.mem_cons_self
    show textT (P ++ W) t ++ textA ts ((P ++ W) ++ textT (P ++ W) t) = textT W t ++ textA ts (W ++ textT W t)
    rw [textT_front ht b1 hk, List.append_assoc, textA_front ts _ P (W ++ textT W t) (fun u hu => h u (List.mem_cons_of_mem _ hu)) b2 (klT_line ht.ok ht.pl.1 hk)]
theorem textB_front {z : Str} {w : Nat} : ∀ (bs : List (List (List V))) (kl : Nat) (P W : List Nat), (∀ b ∈ bs, ∀ t ∈ b, TokW z w t) → badB w bs kl = none → kl ≤ W.length → textB bs (P ++ W) = textB bs W
  | [], _, _, _, _, _, _ => rfl
  | b :: bs, kl, P, W, h, hb, hk => by
    obtain ⟨b1, b2⟩ := badB_cons hb
    have ht := h b List.mem_cons_self
    show textA b (P ++ W) :: textB bs ((P ++ W) ++ textA b (P ++ W)) = textA b W :: textB bs (W ++ textA b W)
    rw [textA_front b kl P W ht b1 hk, List.append_assoc, textB_front bs _ P (W ++ textA b W) (fun u hu => h u (List.mem_cons_of_mem _ hu)) b2 (klA_line b kl W (fun t ht' => ⟨(ht t ht').ok, (ht t ht').pl.1⟩) hk)]
theorem textB_drop : ∀ (bs : List (List (List V))) (i : Nat) (W : List Nat), (textB bs W).drop i = textB (bs.drop i) (W ++ (textB (bs.take i) W).flatten)
  | bs, 0, W => by
    show textB bs W = textB bs (W ++ [])
    rw [List.append_nil]
  | [], _ + 1, _ => rfl
  | b :: bs, i + 1, W => by
    show (textB bs (W ++ textA b W)).drop i = textB (bs.drop i) (W ++ (textA b W ++ (textB (bs.take i) (W ++ textA b W)).flatten))
    rw [textB_drop bs i, List.append_assoc]
/-- what is read alone is what the whole says there -/
theorem textB_alone {z : Str} {w : Nat} {bs : List (List (List V))} (ht : ∀ b ∈ bs, ∀ t ∈ b, TokW z w t) {i : Nat} (hb : badB w (bs.drop i) 0 = none) : textB (bs.drop i) [] = (textB bs []).drop i := by
  rw [textB_drop, List.nil_append]
  have h := textB_front (z := z) (bs.drop i) 0 (textB (bs.take i) []).flatten [] (fun b hb' => ht b (List.mem_of_mem_drop hb')) hb (Nat.le_refl _)
  rw [List.append_nil] at h
  exact h.symm
theorem badB_more {w : Nat} : ∀ (bs : List (List (List V))) (i kl : Nat) (b : List (List V)) (x : Int × Nat), badB w (bs.take i) kl = none → bs[i]? = some b → badA w b (klB w (bs.take i) kl) = some x → badB w bs kl = some x
  | [], _, _, _, _, _, h, _ => by cases h
  | c :: bs, 0, kl, b, x, _, h, hx => by
    cases h
    show (match badA w c kl with | some x => some x | none => badB w bs (klA w c kl)) = some x
    rw [show badA w c kl = some x from hx]
  | c :: bs, i + 1, kl, b, x, h0, h, hx => by
    obtain ⟨h1, h2⟩ := badB_cons (b := c) (bs := bs.take i) h0
    show (match badA w c kl with | some x => some x | none => badB w bs (klA w c kl)) = some x
    rw [h1]
    exact badB_more bs i _ b x h2 h hx
theorem textB_take {bs : List (List (List V))} {i : Nat} {b : List (List V)} (h : bs[i]? = some b) : textB (bs.take (i + 1)) [] = textB (bs.take i) [] ++ [textA b (textB (bs.take i) []).flatten] := by
  rw [take_succ' h, textB_snoc, List.nil_append]
theorem textB_len_le {z : Str} {w : Nat} {bs : List (List (List V))} (h : ∀ b ∈ bs, (∀ t ∈ b, TokW z w t) ∧ tsize b ≤ 1000) (hn : bs.length ≤ 40) (i : Nat) : (textB (bs.take i) []).flatten.length ≤ 40000 := by
  have e := textB_flat_len (z := z) (w := w) (bs.take i) [] fun b hb => (h b (List.mem_of_mem_take hb)).1
  have e2 := sum_le (bs := bs.take i) (m := 1000) (fun b hb => (h b (List.mem_of_mem_take hb)).2) (by decide)
  rw [List.length_take] at e2
  omega
theorem klB_line0 {z : Str} {w : Nat} : ∀ (bs : List (List (List V))) (kl : Nat) (W : List Nat), (∀ b ∈ bs, ∀ t ∈ b, TokW z w t) → kl ≤ W.length → klB w bs kl ≤ (W ++ (textB bs W).flatten).length
  | [], kl, W, _, hk => by
    show kl ≤ (W ++ []).length
    rw [List.append_nil]
    exact hk
  | b :: bs, kl, W, h, hk => by
    have ht := h b List.mem_cons_self
    show klB w bs (klA w b kl) ≤ (W ++ (textA b W ++ (textB bs (W ++ textA b W)).flatten)).length
    rw [← List.append_assoc]
    exact klB_line0 bs _ _ (fun c hc => h c (List.mem_cons_of_mem _ hc)) (klA_line b kl W (fun t ht' => ⟨(ht t ht').ok, (ht t ht').pl.1⟩) hk)
theorem klB_line {z : Str} {w : Nat} (bs : List (List (List V))) (h : ∀ b ∈ bs, ∀ t ∈ b, TokW z w t) : klB w bs 0 ≤ (textB bs []).flatten.length := by
  have e := klB_line0 (z := z) (w := w) bs 0 [] h (Nat.le_refl _)
  rw [List.nil_append] at e
  exact e
theorem textB_n : ∀ (bs : List (List (List V))) (W : List Nat), (textB bs W).length = bs.length
  | [], _ => rfl
  | b :: bs, W => congrArg (· + 1) (textB_n bs _)
theorem sl_listK {X : Cx} {K : PySem.W.Frag} (h : X.K = K) : SlR X (rSlL K) := by subst h; exact sl_list
end KW

/-! Dicts that may hold None among their keys. -/
namespace KW
open PySem PySem.Spec PyProof.Rows L2
/-- the pairs of a dict, None among its keys or not -/
def DN (P : Program) (w : World) (a : Addr) (kvs : List (Option Key × V)) : HO := .ext fun h => kvs.length ≤ sizeLine ∧ (a == sysModules) = false ∧ ∃ vs, KV kvs vs ∧ h.DictOf (noneKind P w) a vs
def nkV : Option Key → V
  | none => .non
  | some k => kV k
theorem dn_ok {P : Program} {w : World} {H : Hp} {h : Heap} {a : Addr} {kvs : List (Option Key × V)} {vs : List (Option Key × Value)} (z : kvs.length ≤ sizeLine) (hd : (a == sysModules) = false) (rel : KV kvs vs) (dd : h.DictOf (noneKind P w) a vs) : ObjOk P w H h a (DN P w a kvs) := by
  have D0 := dd
  obtain ⟨o, es, ep, ho, r⟩ := dd
  exact ⟨⟨z, hd, vs, rel, D0⟩, ⟨o, ho⟩, fun h1 h2 p k => by
    obtain ⟨z1, hd1, vs1, rel1, o1, es1, ep1, ho1, r1⟩ := p
    exact ⟨z1, hd1, vs1, rel1, o1, es1, ep1, k _ ho1, r1⟩⟩
theorem dn_get {X : Cx} {pins : List (Addr × Obj)} {σ : L2.St} {H : Hp} {s : Shared} {a : Addr} {kvs : List (Option Key × V)} (I : Inv X pins σ H s) (ha : H a = some (DN X.prog X.w a kvs)) : kvs.length ≤ sizeLine ∧ (a == sysModules) = false ∧ ∃ vs, KV kvs vs ∧ s.heap.DictOf (noneKind X.prog X.w) a vs := by
  have x : ObjOk X.prog X.w H s.heap a (.ext fun h => kvs.length ≤ sizeLine ∧ (a == sysModules) = false ∧ ∃ vs, KV kvs vs ∧ h.DictOf (noneKind X.prog X.w) a vs) := I.hok a _ ha
  exact x.1
theorem nkV_is {P : Program} {w : World} {k : Option Key} {u : Value} (r : RelV (nkV k) u) : (noneKind P w).is k u = true := by
  cases k with
  | none =>
    obtain rfl : u = Value.none := r
    rfl
  | some k => exact kV_is (P := P) (w := w) r
/-- {}, to hold None too -/
def tDNewN (P : Program) (w : World) : TE := fun _ H Q => ∀ p, H p = none → Q (.ref p) (upd H p (DN P w p []))
section
variable {X : Cx} {o i value : Expr} {td ty tv : TE} {pos pos' : Pos}
theorem pe_dnewN : PE X (.Dict [] [] pos) (tDNewN X.prog X.w) := ⟨fun pins s σ H Q I h => by
  have new : ObjOk X.prog X.w (upd H s.heap.objs.size (DN X.prog X.w s.heap.objs.size [])) _ s.heap.objs.size (DN X.prog X.w s.heap.objs.size []) := dn_ok (Nat.zero_le _) (beq_eq_false_iff_ne.mpr (Ne.symm (Nat.ne_of_lt I.big))) .nil (Heap.DictOf.new s.heap)
  exact wpAny_Dict_empty ⟨.ref s.heap.objs.size, _, I.laid (t' := s.toks) (fun _ _ q => Heap.get?_push_of_some _ q) (Nat.le_refl _) new, rfl, h _ (I.hok.fresh (Nat.le_refl _))⟩⟩
/-- y in d -/
def tInDN (P : Program) (w : World) (ty td : TE) : TE := fun σ H Q => ty σ H fun y H1 => td σ H1 fun x H2 => ∃ (a : Addr) (kvs : List (Option Key × V)) (k : Option Key), x = .ref a ∧ H2 a = some (DN P w a kvs) ∧ y = nkV k ∧ Q (.bl (valV kvs k).isSome) H2
theorem pc_inDN (hi : PE X i ty) (ho : PE X o td) : PC X .In i o (tInDN X.prog X.w ty td) := by
  refine ⟨fun pins s σ H Q I h => thn (hi.run pins s σ H _ I h) fun iv s1 ⟨y, H1, I1, ry, q1⟩ => thn (ho.run pins s1 σ H1 _ I1 q1) fun u s2 ⟨x, H2, I2, rx, a, kvs, k, ex, ha, ey, q2⟩ => ?_⟩
  subst ex ey
  obtain rfl : u = Value.ref a := rx
  obtain ⟨z, hd, vs, rel, dd⟩ := dn_get I2 ha
  refine wpAny_in_of (nkV_is ry) hd dd.mapOf ?_
  rw [← (rel.val k).isSome_eq]
  exact ⟨.bl (valV kvs k).isSome, H2, I2.tok _, rfl, q2⟩
/-- d[y] = v -/
def sPutDN (P : Program) (w : World) (td ty tv : TE) : TS := fun D σ H => tv σ H fun v H1 => td σ H1 fun x H2 => ty σ H2 fun y H3 => ∃ (a : Addr) (kvs : List (Option Key × V)) (k : Option Key), x = .ref a ∧ H3 a = some (DN P w a kvs) ∧ y = nkV k ∧ kvs.length < sizeLine ∧ D.nx σ (upd H3 a (DN P w a (putK kvs k v)))
theorem ps_putDN (ho : PE X o td) (hi : PE X i ty) (hv : PE X value tv) (hs : swapsWith value (some (.Subscript o i pos')) pos.line X.env = pure false) : PS X (.Assign [.Subscript o i pos'] value pos) (sPutDN X.prog X.w td ty tv) := by
  refine ⟨fun pins s σ H D I h => wpAny_Assign_Subscript (thn (hv.run pins s σ H _ I h) fun r s1 ⟨v, H1, I1, rv, q1⟩ => thn (ho.run pins s1 σ H1 _ I1 q1) fun u s2 ⟨x, H2, I2, rx, q2⟩ => thn (hi.run pins s2 σ H2 _ I2 q2) fun iv s3 ⟨y, H3, I3, ry, a, kvs, k, ex, ha, ey, hl, q3⟩ => ?_) hs⟩
  subst ex ey
  obtain rfl : u = Value.ref a := rx
  obtain ⟨z, hd, vs, rel, dd⟩ := dn_get I3 ha
  have hz : vs.length ≤ sizeLine := by rw [← rel.length]; exact z
  have hl2 : (putK kvs k v).length ≤ sizeLine := by have := length_putK kvs k v; omega
  refine wpAny_setItem_pairs (hsz := hz) (nkV_is ry) dd fun h' dd' hs => ?_
  have he : ∃ q, h'.get? a = some q := let ⟨q, _, _, hq, _⟩ := dd'; ⟨q, hq⟩
  exact ⟨σ, _, d_write I3 (by rw [ha]; exact True.intro) hs he (dn_ok hl2 hd (rel.put k rv) dd'), q3⟩
end
end KW

/-! set(xs) of ints, told so that it can be sorted. -/
namespace KW
open PySem PySem.Spec PyProof.Rows L2
def seenI (val : Nat → Int) (i : Nat) (k : Int) : Bool := (List.range i).any fun j => decide (val j = k)
theorem seenI_succ (val : Nat → Int) (i : Nat) (k : Int) : seenI val (i + 1) k = (seenI val i k || decide (k = val i)) := by
  unfold seenI
  rw [List.range_succ, List.any_append]
  simp [eq_comm]
theorem filter_two {α : Type} (q : α → Bool) : ∀ l : List α, l.length = (l.filter q).length + (l.filter fun x => !q x).length
  | [] => rfl
  | x :: l => by
    have ih := filter_two q l
    rw [List.filter_cons, List.filter_cons]
    cases q x <;> simp <;> omega
/-- so many unlike ints below M are no more than M -/
theorem nodup_below : ∀ (M : Nat) (l : List Int), l.Nodup → (∀ k ∈ l, 0 ≤ k ∧ k < M) → l.length ≤ M
  | 0, l, _, h => by
    cases l with
    | nil => exact Nat.le_refl _
    | cons x l => have := h x List.mem_cons_self; omega
  | M + 1, l, hn, h => by
    have h1 := nodup_below M (l.filter fun k => decide (k ≠ (M : Int))) (hn.filter _) fun k hk => by
      obtain ⟨h2, h3⟩ := List.mem_filter.mp hk
      have h3 := of_decide_eq_true h3
      have := h k h2
      omega
    have h2 : (l.filter fun k => decide (k = (M : Int))).length ≤ 1 := by
      have e := hn.filter fun k => decide (k = (M : Int))
      generalize hf : l.filter (fun k => decide (k = (M : Int))) = f at e
      have hall : ∀ k ∈ f, k = (M : Int) := fun k hk => by
        rw [← hf] at hk
        exact of_decide_eq_true (List.mem_filter.mp hk).2
      match f, e, hall with
      | [], _, _ => exact Nat.zero_le _
      | [_], _, _ => exact Nat.le_refl _
      | x :: y :: r, e, hall =>
        have hx := hall x List.mem_cons_self
        have hy := hall y (List.mem_cons_of_mem _ List.mem_cons_self)
        exact absurd (show x ∈ y :: r by rw [hx, ← hy]; exact List.mem_cons_self) (List.nodup_cons.mp e).1
    have h3 := filter_two (fun k => decide (k = (M : Int))) l
    have h4 : (l.filter fun k => !decide (k = (M : Int))) = l.filter fun k => decide (k ≠ (M : Int)) := List.filter_congr fun x _ => by simp
    rw [h4] at h3
    omega
theorem setR_le {w : World} {h : Heap} {a : Addr} {S : Int → Bool} {n M : Nat} (R : SetR w h a S n) (hS : ∀ k, S k = true → 0 ≤ k ∧ k < M) : n ≤ M := by
  obtain ⟨o, es, ep, t, ho, hex, hd, g, nd, hm, hb, hf, hn, hr, hl⟩ := R
  have e := nodup_below M _ nd fun k hk => hS k ((hm k).mpr hk)
  rw [List.length_map, Array.length_toList] at e
  omega
section
variable {prog : Program} {w : World} {A : Around} {R : Result → Shared → Prop} {I : Addr} {fp wr : List Addr} {G : Array GenState → Array GenState → Prop} {n : Nat} {P : Nat → Value → Prop} {St : Nat → Shared → Prop}
/-- the loop of set(xs) over a set that can be sorted: all its ints lie below M -/
theorem upd_loopR (W : WalksS prog w A.in1 I fp wr G n P St) (S : Addr) (out : S ∉ fp) (val : Nat → Int) (hval : ∀ i v, P i v → ∃ t, v = .int (val i) t) {M : Nat} (hM : M + 1 < scanBound) (hin : ∀ i, i < n → 0 ≤ val i ∧ val i < M) : ∀ (k i : Nat) (s : Shared) (c : Nat), n - i = k → i ≤ n → St i s → SetR w s.heap S (seenI val i) c →
    (∀ s' c', Moved (S :: wr) G s s' → SetR w s'.heap S (seenI val n) c' → R (.ok (.ret .none)) s') → codeAny (model prog w) A (.builtin "set.update.loop" ⟨[.ref S, .ref I], []⟩) R s := by
  have nw : S ∉ wr := fun h => out (W.sub _ h)
  have wid : ∀ b ∈ wr, b ∈ S :: wr := fun b hb => List.mem_cons_of_mem _ hb
  intro k
  induction k with
  | zero =>
    intro i s c hk hi hst hS q
    have e : i = n := by omega
    subst e
    refine codeAny_builtin PyProof.Rows.F.entry_set_update_loop ?_
    rw [Around.under_plainId PyProof.Rows.F.plain_set_update_loop _]; show wpAny _ A.in1 (pyNext (.ref I) >>= _) _ _ s
    refine wpAny_bind (W.done s _ _ hst fun s1 mv => ?_)
    show wpAny _ A.in1 (ret Value.none) _ _ s1
    exact wpAny_pure (q s1 c (mv.mono wid) (hS.at fun o ho => mv.heap S o nw ho))
  | succ k ih =>
    intro i s c hk hi hst hS q
    have lt : i < n := by omega
    refine codeAny_builtin PyProof.Rows.F.entry_set_update_loop ?_
    rw [Around.under_plainId PyProof.Rows.F.plain_set_update_loop _]; show wpAny _ A.in1 (pyNext (.ref I) >>= _) _ _ s
    refine wpAny_bind (W.item i s _ _ lt hst fun v s1 pv st1 mv => ?_)
    obtain ⟨t, rfl⟩ := hval i v pv
    have S1 : SetR w s1.heap S (seenI val i) c := hS.at fun o ho => mv.heap S o nw ho
    have room : c + 1 < scanBound := by
      have := setR_le S1 (M := M) fun k hk => by
        unfold seenI at hk
        obtain ⟨j, hj, e⟩ := List.any_eq_true.mp hk
        have h1 := hin j (by have := List.mem_range.mp hj; omega)
        have h2 := of_decide_eq_true e
        omega
      omega
    show wpAny _ A.in1 (holding [Value.int (val i) t] (setAdd S (.int (val i) t)) >>= _) _ _ s1
    refine wpAny_bind (wpAny_holding ?_)
    unfold setAdd
    refine wpAny_holding (wpAny_bind ((intKind prog w).pyHash (k := val i) (intKind_is _ _ _ _) ?_))
    refine setR_add_hashed (P := prog) (s := { s1 with toks := s1.toks + 1 }) S1 room fun h2 sb S2 => ?_
    refine wpAny_pure ⟨plainId_quiet PyProof.Rows.F.plain_set_update_loop _, ih (i + 1) _ _ (by omega) lt (W.frame _ s1 _ _ st1 (Nat.le_succ _) fun b hb o e => ?_) (S2.congr fun k => by rw [seenI_succ]) fun s2 c2 mv2 S3 => ?_⟩
    · rw [sb.2 b fun h : b = S => out (by rw [← h]; exact hb)]
      exact e
    · refine q s2 c2 (Moved.trans W.gtrans ((mv.mono wid).then_heap (Nat.le_succ _) fun b o hb e => ?_) mv2) S3
      rw [sb.2 b fun h : b = S => hb (by rw [h]; exact List.mem_cons_self)]
      exact e
end
section
variable {prog : Program} {w : World} {A : Around} {E : Value → Shared → Prop} {s : Shared}
/-- the bare set that set(xs) begins with -/
abbrev bareSet (w : World) : Obj := { cls := .type "set", dict := none, data := .set #[] 0 (.fresh 0 0 (!w.params.followText "set-order")) }
theorem new_led (a : Value) {Q₁ : Value → Shared → Prop} (h : Q₁ (.ref s.heap.objs.size) { s with heap := s.heap.push (bareSet w) }) : codeAny (model prog w) A (.call (.builtin "set.__new__") ⟨[.type "set", a], []⟩) (wants Q₁ E) s := by
  refine codeAny_of_tree (show wpAny _ A.in1 (do checkBuiltinCall "set.__new__" ⟨[.type "set", a], []⟩; again (.builtin "set.__new__" ⟨[.type "set", a], []⟩)) _ _ s from ?_)
  refine wpAny_bind (wpAny_of_eq (PySem.F.newCall_set_1 a) (wpAny_pure ⟨plainId_quiet PySem.F.plain_set_new _, codeAny_builtin PySem.F.entry_set_new ?_⟩))
  rw [Around.under_plainId PySem.F.plain_set_new _]; unfold Builtin.«set.__new__» Builtin.Frozenset.newClass
  have hsub := PySem.sub_set_self
  obtain ⟨hp, g, d, tk, os⟩ := s
  dsimp only
  wp_walk
  refine wpAny_askSetting (wpAny_pure ?_)
  dsimp only
  simp only [newObj]
  exact wpAny_bind (wpAny_alloc (wpAny_pure (wpAny_pure h)))
theorem call_setR {l : Addr} {items : Array Value} {ns : List Int} {M : Nat} {Q : Value → Shared → Prop} (hh : A.handled = none) (hl : s.heap.IsList l items) (hi : PyProof.Rows.IntsAre items.toList ns) (hM : M + 1 < scanBound) (hin : ∀ i, i < items.size → 0 ≤ ns.getD i 0 ∧ ns.getD i 0 < M)
    (h : ∀ (h' : Heap) (tk c : Nat), SetR w h' s.heap.objs.size (seenI (fun i => ns.getD i 0) items.size) c → (∀ b o, b < s.heap.objs.size → s.heap.get? b = some o → h'.get? b = some o) → Q (.ref s.heap.objs.size) { s with heap := h', toks := tk }) : wpAny (model prog w) A (call (.type "set") [.ref l]) Q E s := by
  obtain ⟨c0, tl, hmro⟩ := PySem.F.called_set.mro
  have hmade := PySem.F.called_set.made; have hsub := PySem.F.called_set.sub
  refine wpAny_call (codeAny_of_tree (show wpAny _ _ (callAny (.type "set") _) _ _ _ from wpAny_pure ⟨Code.quiet_builtin _ (by decide +kernel), codeAny_builtin PySem.F.entry_type_call ?_⟩))
  rw [Around.under_plain (weight_type_call_type "set" [.ref l] []) rfl]
  have h1 := PySem.F.called_set.notType; have h2 := PySem.F.called_set.canCreate; have hct := PySem.F.typeCall_set_1 (.ref l)
  repeat (any_goals (first | assumption | wp_step))
  refine codeAny_mono (new_led (.ref l) (E := E) (Q₁ := fun obj s₁ => obj = .ref s.heap.objs.size ∧ s₁ = { s with heap := s.heap.push (bareSet w) }) ⟨rfl, rfl⟩) fun r s₁ hr => ?_
  cases r with
  | error e => exact hr
  | ok fl =>
    cases fl with
    | ret obj =>
      obtain ⟨rfl, rfl⟩ := hr
      have hS : (s.heap.push (bareSet w)).get? s.heap.objs.size = some (bareSet w) := Heap.get?_push_size _ rfl
      have hT : Shared.TypeIs { s with heap := s.heap.push (bareSet w) } (.ref s.heap.objs.size) "set" := ⟨_, hS, rfl⟩
      have hli := PySem.F.called_set.init.lookup; have hbi := PySem.F.called_set.init.bind (.ref s.heap.objs.size)
      repeat (any_goals (first | assumption | wp_step))
      refine codeAny_mono (codeAny_call_builtin (R := wants (fun r s₂ => r = .none ∧ ∃ (h' : Heap) (tk c : Nat), s₂ = { s with heap := h', toks := tk } ∧ SetR w h' s.heap.objs.size (seenI (fun i => ns.getD i 0) items.size) c ∧ ∀ b o, b < s.heap.objs.size → s.heap.get? b = some o → h'.get? b = some o) E) PySem.F.called_set.init.plain PySem.F.entry_set_init (PySem.check_set_init_1 hT ?_)) fun r₂ s₂ hr₂ => ?_
      · obtain ⟨ol, hol, hcl, nl, hdl⟩ := hl
        obtain ⟨ocls, odict, odata, oslots⟩ := ol
        dsimp only at hcl hdl
        subst hcl hdl
        have hol1 : (s.heap.push (bareSet w)).get? l = some { cls := .type "list", dict := odict, data := .seq items nl, slots := oslots } := Heap.get?_push_of_some _ hol
        have hl1 : (s.heap.push (bareSet w)).IsList l items := ⟨_, hol1, rfl, nl, rfl⟩
        have n1 := PySem.F.sub_list_set; have n2 := PySem.F.sub_list_frozenset
        have n3 : (Value.type "list" == Value.type "dict") = false := by decide
        have hol' := hol1
        unfold bareSet at hol'
        unfold Builtin.«set.__init__» noKeywords Builtin.Frozenset.updateFrom; generalize hPI : pyIter = PI
        wp_walk
        subst hPI
        refine wpAny_pyIter_list hl1 (wpAny_bind (wpAny_runValue ?_))
        have hlS : l < s.heap.objs.size := Heap.lt_size hol
        have apart : l ≠ (s.heap.push (bareSet w)).objs.size := by rw [Heap.size_push]; exact Nat.ne_of_lt (Nat.lt_succ_of_lt hlS)
        have away : s.heap.objs.size ∉ [(s.heap.push (bareSet w)).objs.size, l] := by
          rw [Heap.size_push]
          intro hm
          rcases List.mem_cons.mp hm with e | hm
          · omega
          · exact Nat.ne_of_gt hlS (List.mem_singleton.mp hm)
        refine upd_loopR ((Walks.list (show A.in1.in1.in1.handled = none by simp [hh]) _ l apart items).toS) s.heap.objs.size away (fun i => ns.getD i 0) (fun i v hv => PyProof.Rows.IntsAre.int_at hi i v (by rw [Array.getElem?_toList]; exact hv)) hM hin (items.size - 0) 0 _ 0 (by omega) (Nat.zero_le _) ⟨⟨_, Heap.get?_push_size _ rfl, rfl, rfl⟩, hl1.push _⟩ ?fresh ?rest
        case fresh => exact ((setR_fresh (h := s.heap) w).at fun o e => Heap.get?_push_of_some _ e).congr fun k => rfl
        case rest =>
          intro s3 c3 mv S3
          obtain ⟨h3, g3, d3, tk3, os3⟩ := s3
          obtain rfl : g3 = s.gens := mv.gens
          obtain rfl : d3 = s.drawn := mv.drawn
          obtain rfl : os3 = s.os := mv.os
          refine wpAny_pure (show wpAny _ _ (ret Value.none) _ _ _ from wpAny_pure ⟨rfl, h3, tk3, c3, rfl, S3, fun b o hb e => ?_⟩)
          refine mv.heap b o (fun hm => ?_) (Heap.get?_push_of_some _ (Heap.get?_push_of_some _ e))
          rcases List.mem_cons.mp hm with e | hm
          · exact Nat.ne_of_lt hb e
          · have e := List.mem_singleton.mp hm
            rw [Heap.size_push] at e
            exact Nat.ne_of_lt (Nat.lt_succ_of_lt hb) e
      · cases r₂ with
        | error e => exact hr₂
        | ok fl₂ =>
          cases fl₂ with
          | ret r =>
            obtain ⟨rfl, h', tk, c, rfl, hS', hk'⟩ := hr₂
            repeat (any_goals (first | assumption | wp_step))
            exact h _ _ _ hS' hk'
          | _ => exact hr₂.elim
    | _ => exact hr.elim
end
theorem seenI_is (ns : List Int) (k : Int) : seenI (fun i => ns.getD i 0) ns.length k = decide (k ∈ ns) := by
  unfold seenI
  rw [Bool.eq_iff_iff, List.any_eq_true, decide_eq_true_iff]
  constructor
  · rintro ⟨j, hj, e⟩
    have hj := List.mem_range.mp hj
    have e := of_decide_eq_true e
    rw [← e]
    show ns.getD j 0 ∈ ns
    rw [List.getD_eq_getElem?_getD, List.getElem?_eq_getElem hj]
    exact List.getElem_mem hj
  · intro h
    obtain ⟨j, hj, e⟩ := List.mem_iff_getElem.mp h
    refine ⟨j, List.mem_range.mpr hj, decide_eq_true ?_⟩
    show ns.getD j 0 = k
    rw [List.getD_eq_getElem?_getD, List.getElem?_eq_getElem hj]
    exact e
section
variable {X : Cx}
/-- set(xs), all of them below M: it can be asked and sorted -/
def rSetO (K : PySem.W.Frag) (w : World) : List V → Hp → VK → Prop := fun xs H Q => ∃ (a : Addr) (ns : List Int) (M : Nat), xs = [.ref a] ∧ SqL K H a (ns.map V.int) ∧ M ≤ 4000 ∧ (∀ k ∈ ns, 0 ≤ k ∧ k < M) ∧ ∀ (p : Addr) (n : Nat), n ≤ M → H p = none → Q (.ref p) (upd H p (SetO w p (fun k => decide (k ∈ ns)) n))
theorem call_setO (hc : X.calm = true) : CallR X (.type "set") (rSetO X.K X.w) := by
  intro pins s σ H xs us Q I r h
  obtain ⟨a, ns, M, rfl, ha, hM, hin, q⟩ := h
  obtain ⟨u, rfl, rx⟩ := vals1 r
  obtain rfl : u = Value.ref a := rx
  obtain ⟨its, r', pl, hz⟩ := I.list ha
  have hsz : its.toArray.size = ns.length := by
    have := r'.length
    rw [List.length_map] at this
    rw [List.size_toArray]; omega
  refine call_setR (ns := ns) (M := M) (I.ok.hd hc) pl.isList (ints_of_vals r') (by unfold scanBound; omega) (fun i hi => ?_) fun h' tk c R k => ?_
  · rw [hsz] at hi
    show 0 ≤ ns.getD i 0 ∧ ns.getD i 0 < (M : Int)
    rw [List.getD_eq_getElem?_getD, List.getElem?_eq_getElem hi]
    exact hin _ (List.getElem_mem hi)
  · rw [hsz] at R
    have R1 := R.congr (S' := fun k => decide (k ∈ ns)) fun k => (seenI_is ns k).symm
    exact ⟨.ref s.heap.objs.size, _, I.laid (fun b o e => k b o (Heap.lt_size e) e) (Nat.le_refl _) (setO_new R1), rfl, q _ c (setR_le R1 fun k hk => hin k (of_decide_eq_true hk)) (I.hok.fresh (Nat.le_refl _))⟩
end
end KW

/-! The signs that a block's signs were copied from, and from whom. -/
namespace KW
open PySem L2
/-- where a sign was copied from, as it is told -/
def srcV (e : Int × Option Nat) : V := match e.2 with | some b => .int b | none => .non
/-- p is a sign of block ix, or one that such a sign was copied from, however often -/
inductive Rch (E : List (Int × Option Nat)) (ix : Int) : Nat → Prop
  | own {p : Nat} {b : Option Nat} (h : E[p]? = some (ix, b)) : Rch E ix p
  | back {p q : Nat} {a : Int} (r : Rch E ix p) (h : E[p]? = some (a, some q)) : Rch E ix q
/-- the blocks that block ix needs -/
def Needs (E : List (Int × Option Nat)) (ix k : Int) : Prop := k = ix ∨ ∃ (p : Nat) (b : Option Nat), Rch E ix p ∧ E[p]? = some (k, b)
theorem Rch.lt {E : List (Int × Option Nat)} {ix : Int} (hb : ∀ (p : Nat) (a : Int) (q : Nat), E[p]? = some (a, some q) → q < p) {p : Nat} (r : Rch E ix p) : p < E.length := by
  induction r with
  | own h => exact (List.getElem?_eq_some_iff.mp h).1
  | back r h ih => exact Nat.lt_trans (hb _ _ _ h) (List.getElem?_eq_some_iff.mp h).1
/-- a sign is reached just if its block is ix or a later reached sign was copied from it -/
theorem rch_iff {E : List (Int × Option Nat)} {ix : Int} (hb : ∀ (p : Nat) (a : Int) (q : Nat), E[p]? = some (a, some q) → q < p) {p : Nat} {a : Int} {b : Option Nat} (h : E[p]? = some (a, b)) : Rch E ix p ↔ a = ix ∨ ∃ (p' : Nat) (a' : Int), p + 1 ≤ p' ∧ Rch E ix p' ∧ E[p']? = some (a', some p) := by
  constructor
  · intro r
    cases r with
    | own h' =>
      rw [h] at h'
      exact .inl (congrArg Prod.fst (Option.some.inj h'))
    | back r h' => exact .inr ⟨_, _, hb _ _ _ h', r, h'⟩
  · rintro (rfl | ⟨p', a', _, r, h'⟩)
    · exact .own h
    · exact .back r h'
/-- marks: a sign is lost if its block is, or if what it was copied from is -/
def Marks (E : List (Int × Option Nat)) (gone : List Int) (M : List Bool) : Prop := ∀ (p : Nat) (a : Int) (b : Option Nat), E[p]? = some (a, b) → (M.getD p false = true ↔ a ∈ gone ∨ ∃ q, b = some q ∧ M.getD q false = true)
theorem marks_none {E : List (Int × Option Nat)} {gone : List Int} {M : List Bool} {ix : Int} (hm : Marks E gone M) (hb : ∀ (p : Nat) (a : Int) (q : Nat), E[p]? = some (a, some q) → q < p) (hg : ∀ k ∈ gone, ¬ Needs E ix k) : ∀ (n p : Nat), p < n → Rch E ix p → M.getD p false = false
  | 0, _, h, _ => absurd h (Nat.not_lt_zero _)
  | n + 1, p, hp, r => by
    have hl := r.lt hb
    obtain ⟨⟨a, b⟩, he⟩ : ∃ e, E[p]? = some e := ⟨_, List.getElem?_eq_getElem hl⟩
    cases hM : M.getD p false with
    | false => rfl
    | true =>
      rcases (hm p a b he).mp hM with h | ⟨q, rfl, hq⟩
      · exact absurd (.inr ⟨p, b, r, he⟩) (hg a h)
      · have h1 := marks_none hm hb hg n q (by have := hb p a q he; omega) (.back r he)
        rw [h1] at hq
        cases hq
theorem marks_some {E : List (Int × Option Nat)} {gone : List Int} {M : List Bool} {ix : Int} (hm : Marks E gone M) {q : Nat} (r : Rch E ix q) (hq : M.getD q false = true) : ∃ (p : Nat) (b : Option Nat), E[p]? = some (ix, b) ∧ M.getD p false = true := by
  induction r with
  | own h => exact ⟨_, _, h, hq⟩
  | back r h ih => exact ih ((hm _ _ _ h).mpr (.inr ⟨_, rfl, hq⟩))
end KW

/-! What is lost of one block. -/
namespace KW
open PySem L2
theorem splitB_ext : ∀ (ss : List Nat) (L L' : List Nat) (j : Nat), L.length = L'.length → (∀ p, p < ss.sum → ownr ss p = j → L[p]? = L'[p]?) → (splitB ss L)[j]? = (splitB ss L')[j]?
  | [], _, _, _, _, _ => rfl
  | s :: ss, L, L', 0, hl, h => by
    show some (L.take s) = some (L'.take s)
    congr 1
    refine List.ext_getElem? fun p => ?_
    rw [List.getElem?_take, List.getElem?_take]
    by_cases hp : p < s
    · rw [if_pos hp, if_pos hp]
      exact h p (by rw [List.sum_cons]; omega) (by unfold ownr; rw [if_pos hp])
    · rw [if_neg hp, if_neg hp]
  | s :: ss, L, L', j + 1, hl, h => by
    show (splitB ss (L.drop s))[j]? = (splitB ss (L'.drop s))[j]?
    refine splitB_ext ss _ _ j (by rw [List.length_drop, List.length_drop, hl]) fun p hp ho => ?_
    rw [List.getElem?_drop, List.getElem?_drop]
    refine h (s + p) (by rw [List.sum_cons]; omega) ?_
    unfold ownr
    rw [if_neg (by omega), Nat.add_sub_cancel_left, ho]
theorem splitB_mem : ∀ (ss : List Nat) (L : List Nat) (p x : Nat), p < ss.sum → L[p]? = some x → ∃ g, (splitB ss L)[ownr ss p]? = some g ∧ x ∈ g
  | [], _, _, _, h, _ => by simp at h
  | s :: ss, L, p, x, h, hx => by
    rw [List.sum_cons] at h
    unfold ownr
    by_cases hp : p < s
    · rw [if_pos hp]
      refine ⟨L.take s, rfl, List.mem_of_getElem? (i := p) ?_⟩
      rw [List.getElem?_take, if_pos hp]
      exact hx
    · rw [if_neg hp]
      exact splitB_mem ss (L.drop s) (p - s) x (by omega) (by rw [List.getElem?_drop, show s + (p - s) = p from by omega]; exact hx)
theorem splitB_flat {z : Str} {w : Nat} : ∀ (bs : List (List (List V))) (W : List Nat), (∀ b ∈ bs, ∀ t ∈ b, TokW z w t) → splitB (sizesB bs) (textB bs W).flatten = textB bs W
  | [], _, _ => rfl
  | b :: bs, W, h => by
    have ht := h b List.mem_cons_self
    have e := textA_len (z := z) b W fun t ht' => ⟨(ht t ht').ok, (ht t ht').pl.1⟩
    show splitB ((tsize b).toNat :: sizesB bs) (textA b W ++ (textB bs (W ++ textA b W)).flatten) = _
    rw [show (tsize b).toNat = (textA b W).length from by omega, splitB_app, splitB_flat bs _ fun c hc => h c (List.mem_cons_of_mem _ hc)]
    rfl
theorem ownr_there : ∀ (ss : List Nat) (j s : Nat), ss[j]? = some s → 0 < s → ∃ p, p < ss.sum ∧ ownr ss p = j
  | [], _, _, h, _ => by cases h
  | s :: ss, 0, t, h, h0 => by
    cases h
    exact ⟨0, by rw [List.sum_cons]; omega, by unfold ownr; rw [if_pos h0]⟩
  | s :: ss, j + 1, t, h, h0 => by
    obtain ⟨p, h1, h2⟩ := ownr_there ss j t h h0
    refine ⟨s + p, by rw [List.sum_cons]; omega, ?_⟩
    unfold ownr
    rw [if_neg (by omega), Nat.add_sub_cancel_left, h2]
section
variable {z : Str} {w : Nat} {bs : List (List (List V))}
theorem marks_of (h : ∀ b ∈ bs, ∀ t ∈ b, TokW z w t) (hb : badB w bs 0 = none) (gone : List Int) : Marks (backB 0 bs 0) gone (markB gone 0 bs []) := by
  have t := (told_blocks (z := z) (gone := gone) bs 0 0 [] h (Nat.le_refl _) hb).1
  intro p a b e
  have e1 := t p a b e
  rw [List.nil_append, List.length_nil, Nat.zero_add] at e1
  rw [e1, Bool.or_eq_true, decide_eq_true_iff]
  refine or_congr Iff.rfl ?_
  cases b with
  | none => exact ⟨fun h => (nomatch h), fun ⟨q, h, _⟩ => (nomatch h)⟩
  | some q => exact ⟨fun h => ⟨q, rfl, h⟩, fun ⟨q', h, h'⟩ => by cases h; exact h'⟩
theorem back_below (h : ∀ b ∈ bs, ∀ t ∈ b, TokW z w t) (hb : badB w bs 0 = none) : ∀ (p : Nat) (a : Int) (q : Nat), (backB 0 bs 0)[p]? = some (a, some q) → q < p := fun p a q e => by
  have := back_lt bs 0 0 0 p a q h (Nat.le_refl _) hb e
  omega
/-- what stands at p, and who wrote it -/
theorem back_there (h : ∀ b ∈ bs, ∀ t ∈ b, TokW z w t) {p : Nat} (hp : p < (sizesB bs).sum) : ∃ b, (backB 0 bs 0)[p]? = some (((ownr (sizesB bs) p : Nat) : Int), b) := by
  obtain ⟨⟨a, b⟩, e⟩ : ∃ e, (backB 0 bs 0)[p]? = some e := ⟨_, List.getElem?_eq_getElem (by rw [back_len bs 0 0 h]; exact hp)⟩
  have e1 := back_own bs 0 0 p a b h e
  refine ⟨b, ?_⟩
  rw [e, e1]
  simp
/-- the blocks that ix doesn't need may be lost -/
theorem loss_none (h : ∀ b ∈ bs, ∀ t ∈ b, TokW z w t) (hb : badB w bs 0 = none) {gone : List Int} {ix : Nat} (hg : ∀ k ∈ gone, ¬ Needs (backB 0 bs 0) ix k) : (lossT gone 0 bs [] [])[ix]? = (textB bs [])[ix]? := by
  obtain ⟨e, e2, e3⟩ := lossT_split (gone := gone) bs 0 0 [] [] h rfl (Nat.le_refl _) hb
  rw [e]
  conv => rhs; rw [← splitB_flat (z := z) (w := w) bs [] h]
  refine splitB_ext _ _ _ ix (mkL_len e2) fun p hp ho => ?_
  obtain ⟨b, hat⟩ := back_there h hp
  rw [ho] at hat
  have hm := marks_none (marks_of h hb gone) (back_below h hb) hg (p + 1) p (Nat.lt_succ_self p) (Rch.own hat)
  have hpl : p < (textB bs []).flatten.length := by rw [e3]; exact hp
  have hml : p < (mkL (markB gone 0 bs []) (textB bs []).flatten).length := by rw [mkL_len e2]; exact hpl
  have hg2 := mkL_get e2 hpl
  rw [hm, if_neg Bool.false_ne_true, List.getD_eq_getElem?_getD, List.getD_eq_getElem?_getD, List.getElem?_eq_getElem hml, List.getElem?_eq_getElem hpl] at hg2
  rw [List.getElem?_eq_getElem hml, List.getElem?_eq_getElem hpl]
  exact congrArg some hg2
/-- of a block that ix needs no sign may be missed, where ix has signs -/
theorem loss_some (h : ∀ b ∈ bs, ∀ t ∈ b, TokW z w t) (hb : badB w bs 0 = none) {ix : Nat} {b : List (List V)} (hix : bs[ix]? = some b) (h0 : 0 < tsize b) {k : Int} (hk : Needs (backB 0 bs 0) ix k) : ∃ g, (lossT [k] 0 bs [] [])[ix]? = some g ∧ 63 ∈ g := by
  obtain ⟨e, e2, e3⟩ := lossT_split (gone := [k]) bs 0 0 [] [] h rfl (Nat.le_refl _) hb
  have hmk := marks_of h hb [k]
  have there : ∃ (p : Nat) (c : Option Nat), (backB 0 bs 0)[p]? = some ((ix : Int), c) ∧ (markB [k] 0 bs []).getD p false = true := by
    rcases hk with rfl | ⟨q, c, r, hq⟩
    · obtain ⟨p, hp, ho⟩ := ownr_there (sizesB bs) ix (tsize b).toNat (by rw [List.getElem?_map, hix]; rfl) (by omega)
      obtain ⟨c, hat⟩ := back_there h hp
      rw [ho] at hat
      exact ⟨p, c, hat, (hmk p _ c hat).mpr (.inl (List.mem_singleton.mpr rfl))⟩
    · exact marks_some hmk r ((hmk q _ c hq).mpr (.inl (List.mem_singleton.mpr rfl)))
  obtain ⟨p, c, hat, hM⟩ := there
  have hp : p < (sizesB bs).sum := by rw [← back_len bs 0 0 h]; exact (List.getElem?_eq_some_iff.mp hat).1
  have ho : ownr (sizesB bs) p = ix := by
    have := back_own bs 0 0 p _ c h hat
    omega
  have hpl : p < (textB bs []).flatten.length := by rw [e3]; exact hp
  have hml : p < (mkL (markB [k] 0 bs []) (textB bs []).flatten).length := by rw [mkL_len e2]; exact hpl
  have hg2 := mkL_get e2 hpl
  rw [hM, if_pos rfl, List.getD_eq_getElem?_getD, List.getElem?_eq_getElem hml] at hg2
  obtain ⟨g, h1, h2⟩ := splitB_mem (sizesB bs) (mkL (markB [k] 0 bs []) (textB bs []).flatten) p 63 hp (by rw [List.getElem?_eq_getElem hml]; exact congrArg some hg2)
  rw [ho] at h1
  exact ⟨g, by rw [e]; exact h1, h2⟩
end
end KW

/-! A reader over plain tokens, told by places and by where the flushes stand; what is needed ahead. -/
namespace KW
open PySem L2
/-- a place of plain tokens -/
def PlainP (w : Nat) (p : List V) : Prop := (∃ c : Nat, p = [.str "sign", .str (sg c)]) ∨ ∃ d : Int, p = [.str "copy", .int d] ∧ 1 ≤ d ∧ d ≤ (w : Int)
def stepR (w : Nat) (p : List V) (line : List Nat) (kl : Nat) : Option (List Nat × Nat) :=
  match p with
  | [.str _, .str y] => some (line ++ cl y, min w (kl + 1))
  | [.str _, .int d] => if d ≤ (kl : Int) then some (line ++ [line.getD (line.length - d.toNat) 0], min w (kl + 1)) else none
  | _ => none
def readP (w : Nat) (f : Int → Bool) : List (List V) → List Nat → Nat → Int → Option (List Nat × Nat)
  | [], line, kl, i => some (line, if f i = true then 0 else kl)
  | p :: ps, line, kl, i => match stepR w p line (if f i = true then 0 else kl) with
    | none => none
    | some s => readP w f ps s.1 s.2 (i + 1)
def readT (w : Nat) : List (List V) → List Nat → Nat → Option (List Nat × Nat)
  | [], line, kl => some (line, kl)
  | t :: ts, line, kl => match badT kl t with
    | some _ => none
    | none => readT w ts (line ++ textT line t) (klT w kl t)
theorem readT_is {w : Nat} : ∀ (ts : List (List V)) (line : List Nat) (kl : Nat), readT w ts line kl = if badA w ts kl = none then some (line ++ textA ts line, klA w ts kl) else none
  | [], line, kl => by
    show some (line, kl) = if (none : Option (Int × Nat)) = none then some (line ++ [], kl) else none
    rw [if_pos rfl, List.append_nil]
  | t :: ts, line, kl => by
    unfold readT badA
    cases badT kl t with
    | some b => rw [if_neg (by intro e; cases e)]
    | none =>
      show readT w ts _ _ = if badA w ts _ = none then some (line ++ (textT line t ++ textA ts (line ++ textT line t)), klA w ts (klT w kl t)) else none
      rw [readT_is ts, List.append_assoc]
theorem readP_ext {w : Nat} {f g : Int → Bool} : ∀ (ps : List (List V)) (line : List Nat) (kl : Nat) (i : Int), (∀ k, i ≤ k → f k = g k) → readP w f ps line kl i = readP w g ps line kl i
  | [], line, kl, i, h => by unfold readP; rw [h i (Int.le_refl _)]
  | p :: ps, line, kl, i, h => by
    unfold readP
    rw [h i (Int.le_refl _)]
    cases stepR w p line (if g i = true then 0 else kl) with
    | none => rfl
    | some s => exact readP_ext ps _ _ (i + 1) fun k hk => h k (by omega)
theorem readP_here {w : Nat} {f g : Int → Bool} {ps : List (List V)} {line : List Nat} {kl kl' : Nat} {i : Int} (h : ∀ k, i < k → f k = g k) (e : (if f i = true then 0 else kl) = (if g i = true then 0 else kl')) : readP w f ps line kl i = readP w g ps line kl' i := by
  cases ps with
  | nil => unfold readP; rw [e]
  | cons p ps =>
    unfold readP
    rw [e]
    cases stepR w p line (if g i = true then 0 else kl') with
    | none => rfl
    | some s => exact readP_ext ps _ _ (i + 1) fun k hk => h k (by omega)
theorem cl_sg {c : Nat} : cl (sg c) = [c] := rfl
theorem readP_signs {w : Nat} {f : Int → Bool} {ps : List (List V)} : ∀ (cs : List Nat) (line : List Nat) (kl : Nat) (i : Int), kl ≤ w → (∀ k, i ≤ k → k < i + cs.length → f k = false) →
    readP w f ((cs.map fun c => [V.str "sign", V.str (sg c)]) ++ ps) line kl i = readP w f ps (line ++ cs) (min w (kl + cs.length)) (i + cs.length)
  | [], line, kl, i, hk, _ => by
    show readP w f ps line kl i = readP w f ps (line ++ []) (min w (kl + 0)) (i + ((0 : Nat) : Int))
    rw [List.append_nil, show i + ((0 : Nat) : Int) = i by omega, show min w (kl + 0) = kl by omega]
  | c :: cs, line, kl, i, hk, hf => by
    have h0 : f i = false := hf i (Int.le_refl _) (by rw [List.length_cons]; omega)
    have e : (if f i = true then 0 else kl) = kl := by rw [h0]; rfl
    show (match stepR w [V.str "sign", V.str (sg c)] line (if f i = true then 0 else kl) with | none => none | some s => readP w f ((cs.map fun c => [V.str "sign", V.str (sg c)]) ++ ps) s.1 s.2 (i + 1)) = _
    rw [e]
    show readP w f ((cs.map fun c => [V.str "sign", V.str (sg c)]) ++ ps) (line ++ cl (sg c)) (min w (kl + 1)) (i + 1) = _
    rw [readP_signs cs _ _ (i + 1) (Nat.min_le_left _ _) (fun k h1 h2 => hf k (by omega) (by rw [List.length_cons]; omega)), cl_sg, List.append_assoc, List.length_cons]
    rw [show i + 1 + (cs.length : Int) = i + ((cs.length + 1 : Nat) : Int) by omega, show min w (min w (kl + 1) + cs.length) = min w (kl + (cs.length + 1)) by omega]
    rfl
theorem copyN_cons {line : List Nat} {d : Nat} : ∀ n, copyN line d (n + 1) = line.getD (line.length - d) 0 :: copyN (line ++ [line.getD (line.length - d) 0]) d n
  | 0 => by
    show [] ++ [(line ++ []).getD (line.length + 0 - d) 0] = _
    rw [List.append_nil]
    rfl
  | n + 1 => by
    obtain ⟨x, hx⟩ : ∃ x, x = line.getD (line.length - d) 0 := ⟨_, rfl⟩
    have ih := copyN_cons (line := line) (d := d) n
    rw [← hx] at ih ⊢
    show copyN line d (n + 1) ++ [(line ++ copyN line d (n + 1)).getD (line.length + (n + 1) - d) 0] = x :: (copyN (line ++ [x]) d n ++ [((line ++ [x]) ++ copyN (line ++ [x]) d n).getD ((line ++ [x]).length + n - d) 0])
    rw [ih, List.cons_append, List.append_assoc, List.length_append, List.length_singleton, show line.length + 1 + n - d = line.length + (n + 1) - d by omega]
    rfl
theorem readP_copies {w : Nat} {f : Int → Bool} {ps : List (List V)} {d : Int} (h1 : 1 ≤ d) (hw : d ≤ (w : Int)) : ∀ (n : Nat) (line : List Nat) (kl : Nat) (i : Int), kl ≤ w → d ≤ (kl : Int) → (∀ k, i ≤ k → k < i + n → f k = false) →
    readP w f (List.replicate n [V.str "copy", V.int d] ++ ps) line kl i = readP w f ps (line ++ copyN line d.toNat n) (min w (kl + n)) (i + n)
  | 0, line, kl, i, hk, _, _ => by
    show readP w f ps line kl i = readP w f ps (line ++ []) (min w (kl + 0)) (i + ((0 : Nat) : Int))
    rw [List.append_nil, show i + ((0 : Nat) : Int) = i by omega, show min w (kl + 0) = kl by omega]
  | n + 1, line, kl, i, hk, hd, hf => by
    have h0 : f i = false := hf i (Int.le_refl _) (by omega)
    have e : (if f i = true then 0 else kl) = kl := by rw [h0]; rfl
    show (match stepR w [V.str "copy", V.int d] line (if f i = true then 0 else kl) with | none => none | some s => readP w f (List.replicate n [V.str "copy", V.int d] ++ ps) s.1 s.2 (i + 1)) = _
    rw [e]
    show (match (if d ≤ (kl : Int) then some (line ++ [line.getD (line.length - d.toNat) 0], min w (kl + 1)) else none) with | none => none | some s => readP w f (List.replicate n [V.str "copy", V.int d] ++ ps) s.1 s.2 (i + 1)) = _
    rw [if_pos hd]
    show readP w f (List.replicate n [V.str "copy", V.int d] ++ ps) (line ++ [line.getD (line.length - d.toNat) 0]) (min w (kl + 1)) (i + 1) = _
    rw [readP_copies h1 hw n _ _ (i + 1) (Nat.min_le_left _ _) (by omega) (fun k h1 h2 => hf k (by omega) (by omega)), copyN_cons, List.append_assoc]
    rw [show i + 1 + (n : Int) = i + ((n + 1 : Nat) : Int) by omega, show min w (min w (kl + 1) + n) = min w (kl + (n + 1)) by omega]
    rfl
open Classical in
theorem read_places {z : Str} {w : Nat} : ∀ (ts : List (List V)) (line : List Nat) (kl : Nat) (i : Int), (∀ t ∈ ts, TokW z w t) → kl ≤ w → readT w ts line kl = readP w (fun k => decide (flAt ts (k - i))) (placesL ts) line kl i
  | [], line, kl, i, _, _ => by
    have e : decide (flAt [] (i - i)) = false := decide_eq_false fun h => h
    show some (line, kl) = some (line, if decide (flAt [] (i - i)) = true then 0 else kl)
    rw [e]
    rfl
  | t :: ts, line, kl, i, h, hk => by
    have ht := h t List.mem_cons_self
    have hr : ∀ u ∈ ts, TokW z w u := fun u hu => h u (List.mem_cons_of_mem _ hu)
    have hro : ∀ u ∈ ts, tokV z u = true := fun u hu => (hr u hu).ok
    have hneg : ∀ k, k < 0 → ¬ flAt ts k := fun k hk hc => by
      have := flAt_nn ts k hro hc
      omega
    have hpl : placesL (t :: ts) = placeT t ++ placesL ts := rfl
    rw [hpl]
    rcases ht.cases with rfl | ⟨y, rfl, hy, y1, y2⟩ | ⟨d, n, rfl, d1, d2, n1, n2⟩
    · show readT w ts (line ++ []) 0 = readP w _ (placesL ts) line kl i
      rw [List.append_nil, read_places ts line 0 i hr (Nat.zero_le _)]
      refine readP_here (fun k hk => decide_eq_decide.mpr ?_) ?_
      · show flAt ts (k - i) ↔ (k - i = 0 ∨ flAt ts (k - i))
        constructor
        · exact .inr
        · rintro (h1 | h1)
          · omega
          · exact h1
      · have e2 : decide (flAt ([.str "flush"] :: ts) (i - i)) = true := decide_eq_true (Or.inl (by omega) : i - i = 0 ∨ flAt ts (i - i))
        simp only [e2, if_true]
        split <;> rfl
    · have hsz : sizeV [.str "text", .str y] = y.length := sizeV_text y
      have hcl := cl_len y
      show readT w ts (line ++ cl y) (min w (kl + y.length)) = _
      rw [place_text, readP_signs (cl y) line kl i hk, hcl, read_places ts _ _ (i + y.length) hr (Nat.min_le_left _ _)]
      · refine readP_ext _ _ _ _ fun k _ => decide_eq_decide.mpr ?_
        rw [flAt_two, hsz, show k - (i + (y.length : Int)) = k - i - (y.length : Int) by omega]
      · intro k h1 h2
        refine decide_eq_false ?_
        rw [flAt_two, hsz]
        exact hneg _ (by omega)
    · have hsz : sizeV [.str "copy", .int d, .int n] = n := rfl
      have hpt : placeT [.str "copy", .int d, .int n] = List.replicate n.toNat [.str "copy", .int d] := rfl
      have hno : ∀ k, i ≤ k → k < i + (n.toNat : Int) → decide (flAt ([.str "copy", .int d, .int n] :: ts) (k - i)) = false := fun k _ h2 => by
        refine decide_eq_false ?_
        rw [flAt_two, hsz]
        exact hneg _ (by omega)
      rw [hpt]
      show (match (if d ≤ (kl : Int) then none else some (d, kl)) with | some _ => none | none => readT w ts (line ++ copyN line d.toNat n.toNat) (min w (kl + n.toNat))) = _
      by_cases hd : d ≤ (kl : Int)
      · rw [if_pos hd]
        show readT w ts (line ++ copyN line d.toNat n.toNat) (min w (kl + n.toNat)) = _
        rw [readP_copies d1 d2 n.toNat line kl i hk hd hno, read_places ts _ _ (i + n.toNat) hr (Nat.min_le_left _ _)]
        refine readP_ext _ _ _ _ fun k _ => decide_eq_decide.mpr ?_
        rw [flAt_two, hsz, show k - (i + (n.toNat : Int)) = k - i - n by omega]
      · rw [if_neg hd]
        show none = _
        obtain ⟨m, hm⟩ : ∃ m, n.toNat = m + 1 := ⟨n.toNat - 1, by omega⟩
        have h0 := hno i (Int.le_refl _) (by omega)
        rw [hm, List.replicate_succ, List.cons_append]
        show none = (match stepR w [V.str "copy", V.int d] line (if decide (flAt ([.str "copy", .int d, .int n] :: ts) (i - i)) = true then 0 else kl) with | none => none | some s => readP w _ (List.replicate m [V.str "copy", V.int d] ++ placesL ts) s.1 s.2 (i + 1))
        rw [h0]
        show none = (match (if d ≤ (kl : Int) then some (line ++ [line.getD (line.length - d.toNat) 0], min w (kl + 1)) else none) with | none => none | some s => readP w _ (List.replicate m [V.str "copy", V.int d] ++ placesL ts) s.1 s.2 (i + 1))
        rw [if_neg hd]
/-- tokens with the same places and flushes are read alike -/
theorem read_of {z : Str} {w : Nat} {ts us : List (List V)} {line : List Nat} {kl : Nat} (h : ∀ t ∈ ts, TokW z w t) (h' : ∀ t ∈ us, TokW z w t) (hk : kl ≤ w) (hp : placesL us = placesL ts) (hf : ∀ m, m ∈ flushA us 0 [] ↔ m ∈ flushA ts 0 []) : readT w us line kl = readT w ts line kl := by
  rw [read_places us line kl 0 h' hk, read_places ts line kl 0 h hk, hp]
  refine readP_ext _ _ _ _ fun k _ => decide_eq_decide.mpr ?_
  rw [Int.sub_zero, ← mem_flush0 (fun t ht => (h t ht).ok), ← mem_flush0 (fun t ht => (h' t ht).ok)]
  exact hf k
theorem plainP_of {z : Str} {w : Nat} {ts : List (List V)} (h : ∀ t ∈ ts, TokW z w t) : ∀ p ∈ placesL ts, PlainP w p := by
  intro p hp
  unfold placesL at hp
  obtain ⟨t, ht, hp⟩ := List.mem_flatMap.mp hp
  rcases (h t ht).cases with rfl | ⟨y, rfl, hy, y1, y2⟩ | ⟨d, n, rfl, d1, d2, n1, n2⟩
  · exact nomatch (show p ∈ ([] : List (List V)) from hp)
  · rw [place_text] at hp
    obtain ⟨c, _, rfl⟩ := List.mem_map.mp hp
    exact .inl ⟨c, rfl⟩
  · have hp : p ∈ List.replicate n.toNat [V.str "copy", V.int d] := hp
    rw [List.eq_of_mem_replicate hp]
    exact .inr ⟨d, rfl, d1, d2⟩
theorem tokW_of {z : Str} {w : Nat} {us : List (List V)} (h : ∀ t ∈ us, tokV z t = true) (hp : ∀ p ∈ placesL us, PlainP w p) : ∀ t ∈ us, TokW z w t := by
  intro t ht
  have hok := h t ht
  have hin : ∀ p ∈ placeT t, PlainP w p := fun p hpt => hp p (List.mem_flatMap.mpr ⟨t, ht, hpt⟩)
  obtain ⟨kd, rest, rfl, hk⟩ := tok_inv hok
  rcases hk with ⟨rfl, rfl⟩ | ⟨y, rfl, rfl, h1, h2, h3⟩ | ⟨y, rfl, rfl, h1⟩ | ⟨d, n, hkd, rfl, h1, h2, h3, h4⟩
  · exact TokW.flush
  · exact TokW.text h1 (by omega) (by omega)
  · rw [place_any] at hin
    rcases hin _ (List.mem_singleton.mpr rfl) with ⟨c, e⟩ | ⟨d, e, _⟩
    · injection e with e _
      injection e with e
      exact absurd e (by decide +kernel)
    · injection e with _ e
      injection e with e _
      cases e
  · have hm : [V.str kd, V.int d] ∈ placeT [V.str kd, V.int d, V.int n] := by
      show _ ∈ List.replicate n.toNat [V.str kd, V.int d]
      exact List.mem_replicate.mpr ⟨by omega, rfl⟩
    rcases hin _ hm with ⟨c, e⟩ | ⟨d', e, e1, e2⟩
    · injection e with _ e
      injection e with e _
      cases e
    · injection e with ea eb
      injection ea with ea
      injection eb with eb _
      injection eb with eb
      subst ea eb
      exact ⟨hok, plain_copy, fun d' n' e' => by cases e'; exact e2⟩
theorem needsP_mono {f : Int → Bool} : ∀ (ps : List (List V)) (fl : Option Int) (m i : Int), needsP f ps fl m i = .non ∨ ∃ n, needsP f ps fl m i = .int n ∧ m ≤ n
  | [], fl, m, i => .inr ⟨m, rfl, Int.le_refl _⟩
  | p :: ps, fl, m, i => by
    unfold needsP
    cases e : stepP p (if f i = true then some i else fl) m i with
    | none => exact .inl rfl
    | some m' =>
      have hm : m ≤ m' := by
        unfold stepP at e
        split at e
        · split at e
          · split at e
            · cases e
              split <;> omega
            · split at e
              · cases e
              · cases e; omega
          · cases e; omega
        · cases e; omega
      rcases needsP_mono ps (if f i = true then some i else fl) m' (i + 1) with h | ⟨n, h1, h2⟩
      · exact .inl h
      · exact .inr ⟨n, h1, by omega⟩
/-- what is kept behind so many signs, and behind a flush -/
def KeptAt (w kl0 kl : Nat) (i : Int) : Option Int → Prop
  | none => (kl : Int) = min (w : Int) (kl0 + i)
  | some x => (kl : Int) = min (w : Int) (i - x)
/-- a reader that keeps so many signs is refused just where more is needed -/
theorem read_needs {w : Nat} {f : Int → Bool} {kl0 : Nat} (hk0 : kl0 ≤ w) : ∀ (ps : List (List V)) (fl : Option Int) (m i : Int) (line : List Nat) (kl : Nat), (∀ p ∈ ps, PlainP w p) → 0 ≤ i → m ≤ (kl0 : Int) →
    KeptAt w kl0 kl i fl →
    (readP w f ps line kl i = none ↔ (needsP f ps fl m i = .non ∨ ∃ n, needsP f ps fl m i = .int n ∧ (kl0 : Int) < n))
  | [], fl, m, i, line, kl, _, _, hm, _ => by
    show some _ = none ↔ (V.int m = .non ∨ ∃ n, V.int m = .int n ∧ (kl0 : Int) < n)
    constructor
    · intro e; cases e
    · rintro (e | ⟨n, e, h⟩)
      · cases e
      · cases e
        omega
  | p :: ps, fl, m, i, line, kl, hp, hi, hm, hkl => by
    have hr : ∀ q ∈ ps, PlainP w q := fun q hq => hp q (List.mem_cons_of_mem _ hq)
    unfold readP needsP
    have hkl' : KeptAt w kl0 (if f i = true then 0 else kl) i (if f i = true then some i else fl) := by
      by_cases hf : f i = true
      · rw [if_pos hf, if_pos hf]
        show ((0 : Nat) : Int) = min (w : Int) (i - i)
        omega
      · rw [if_neg hf, if_neg hf]
        exact hkl
    generalize (if f i = true then some i else fl) = fl' at hkl'
    generalize (if f i = true then 0 else kl) = kl' at hkl'
    have nx : KeptAt w kl0 (min w (kl' + 1)) (i + 1) fl' := by
      cases fl' with
      | none =>
        have hkl' : (kl' : Int) = min (w : Int) (kl0 + i) := hkl'
        show ((min w (kl' + 1) : Nat) : Int) = min (w : Int) (kl0 + (i + 1))
        omega
      | some x =>
        have hkl' : (kl' : Int) = min (w : Int) (i - x) := hkl'
        show ((min w (kl' + 1) : Nat) : Int) = min (w : Int) ((i + 1) - x)
        omega
    rcases hp p List.mem_cons_self with ⟨c, rfl⟩ | ⟨d, rfl, d1, d2⟩
    · have e1 : stepP [V.str "sign", V.str (sg c)] fl' m i = some m := rfl
      rw [e1]
      exact read_needs hk0 ps fl' m (i + 1) _ _ hr (by omega) hm nx
    · have e2 : stepR w [V.str "copy", V.int d] line kl' = if d ≤ (kl' : Int) then some (line ++ [line.getD (line.length - d.toNat) 0], min w (kl' + 1)) else none := rfl
      rw [e2]
      cases fl' with
      | none =>
        have hkl' : (kl' : Int) = min (w : Int) (kl0 + i) := hkl'
        have e1 : stepP [V.str "copy", V.int d] none m i = some (if d - i > m then d - i else m) := by
          simp only [stepP, if_true]
          try (split <;> rfl)
        rw [e1]
        by_cases hd : d ≤ (kl' : Int)
        · rw [if_pos hd]
          exact read_needs hk0 ps none _ (i + 1) _ _ hr (by omega) (by split <;> omega) nx
        · rw [if_neg hd]
          have hn : d - i > m := by omega
          rw [if_pos hn]
          show none = none ↔ _
          refine ⟨fun _ => ?_, fun _ => rfl⟩
          rcases needsP_mono (f := f) ps none (d - i) (i + 1) with h | ⟨n, h1, h2⟩
          · exact .inl h
          · exact .inr ⟨n, h1, by omega⟩
      | some x =>
        have hkl' : (kl' : Int) = min (w : Int) (i - x) := hkl'
        have e1 : stepP [V.str "copy", V.int d] (some x) m i = if i - x < d then none else some m := by
          simp only [stepP, if_true]
        rw [e1]
        by_cases hd : d ≤ (kl' : Int)
        · rw [if_pos hd, if_neg (by omega)]
          exact read_needs hk0 ps (some x) m (i + 1) _ _ hr (by omega) hm nx
        · rw [if_neg hd, if_pos (by omega)]
          exact ⟨fun _ => .inl rfl, fun _ => rfl⟩
/-- the same, of tokens -/
theorem bad_needs {z : Str} {w : Nat} {ts : List (List V)} {kl : Nat} (h : ∀ t ∈ ts, TokW z w t) (hk : kl ≤ w) : badA w ts kl ≠ none ↔ (needsL ts none 0 0 = .non ∨ ∃ n, needsL ts none 0 0 = .int n ∧ (kl : Int) < n) := by
  classical
  have e := readT_is (w := w) ts [] kl
  rw [read_places ts [] kl 0 h hk] at e
  rw [needs_places ts (fun t ht => (h t ht).ok), ← read_needs hk (placesL ts) none 0 0 [] kl (plainP_of h) (by decide) (by omega) (by show (kl : Int) = min (w : Int) (kl + 0); omega), e]
  constructor
  · intro hb; rw [if_neg hb]
  · intro hn hb; rw [if_pos hb] at hn; cases hn
/-- each copied sign is the one so far back, each sign its own -/
theorem read_right {w : Nat} {f : Int → Bool} : ∀ (ps : List (List V)) (line : List Nat) (kl : Nat) (i : Int) (L : List Nat) (k : Nat), (∀ p ∈ ps, PlainP w p) → kl ≤ line.length → readP w f ps line kl i = some (L, k) →
    L.length = line.length + ps.length ∧ (∀ j, j < line.length → L[j]? = line[j]?) ∧ ∀ (j : Nat) (p : List V), ps[j]? = some p → ∃ c, L[line.length + j]? = some c ∧ ((p = [.str "sign", .str (sg c)]) ∨ ∃ d : Int, p = [.str "copy", .int d] ∧ 1 ≤ d ∧ d ≤ ((line.length + j : Nat) : Int) ∧ L[line.length + j - d.toNat]? = some c)
  | [], line, kl, i, L, k, _, _, e => by
    cases e
    exact ⟨rfl, fun _ _ => rfl, fun j p h => nomatch h⟩
  | p :: ps, line, kl, i, L, k, hp, hkl, e => by
    have hr : ∀ q ∈ ps, PlainP w q := fun q hq => hp q (List.mem_cons_of_mem _ hq)
    unfold readP at e
    have hkl' : (if f i = true then 0 else kl) ≤ line.length := by split <;> omega
    generalize (if f i = true then 0 else kl) = kl' at e hkl'
    have main : ∀ c, readP w f ps (line ++ [c]) (min w (kl' + 1)) (i + 1) = some (L, k) → ((p = [.str "sign", .str (sg c)]) ∨ ∃ d : Int, p = [.str "copy", .int d] ∧ 1 ≤ d ∧ d ≤ ((line.length : Nat) : Int) ∧ line[line.length - d.toNat]? = some c) →
        L.length = line.length + (p :: ps).length ∧ (∀ j, j < line.length → L[j]? = line[j]?) ∧ ∀ (j : Nat) (q : List V), (p :: ps)[j]? = some q → ∃ c, L[line.length + j]? = some c ∧ ((q = [.str "sign", .str (sg c)]) ∨ ∃ d : Int, q = [.str "copy", .int d] ∧ 1 ≤ d ∧ d ≤ ((line.length + j : Nat) : Int) ∧ L[line.length + j - d.toNat]? = some c) := by
      intro c e1 hc
      have hl1 : (line ++ [c]).length = line.length + 1 := by rw [List.length_append]; rfl
      obtain ⟨h1, h2, h3⟩ := read_right ps (line ++ [c]) (min w (kl' + 1)) (i + 1) L k hr (by rw [hl1]; omega) e1
      rw [hl1] at h1 h2 h3
      refine ⟨by rw [h1, List.length_cons]; omega, fun j hj => by rw [h2 j (by omega), List.getElem?_append_left hj], fun j q hq => ?_⟩
      cases j with
      | zero =>
        cases hq
        have hLc : L[line.length]? = some c := by
          rw [h2 line.length (by omega), List.getElem?_append_right (Nat.le_refl _), Nat.sub_self]
          rfl
        refine ⟨c, hLc, ?_⟩
        rcases hc with h | ⟨d, h, hd1, hd2, hd3⟩
        · exact .inl h
        · refine .inr ⟨d, h, hd1, hd2, ?_⟩
          show L[line.length - d.toNat]? = some c
          rw [h2 _ (by omega), List.getElem?_append_left (by omega), hd3]
      | succ j =>
        have hq : ps[j]? = some q := hq
        have := h3 j q hq
        rw [show line.length + 1 + j = line.length + (j + 1) by omega] at this
        exact this
    rcases hp p List.mem_cons_self with ⟨c, rfl⟩ | ⟨d, rfl, d1, d2⟩
    · exact main c e (.inl rfl)
    · have e2 : stepR w [V.str "copy", V.int d] line kl' = if d ≤ (kl' : Int) then some (line ++ [line.getD (line.length - d.toNat) 0], min w (kl' + 1)) else none := rfl
      rw [e2] at e
      by_cases hd : d ≤ (kl' : Int)
      · rw [if_pos hd] at e
        refine main _ e (.inr ⟨d, rfl, d1, by omega, ?_⟩)
        rw [List.getD_eq_getElem?_getD, List.getElem?_eq_getElem (by omega)]
        rfl
      · rw [if_neg hd] at e
        cases e
end KW

/-! A piece read part by part. -/
namespace KW
open PySem L2
theorem chunk_in {len n : Int} {i : Nat} (n0 : 1 ≤ n) (hi : (i : Int) < (len + n - 1) / n) : 0 ≤ (i : Int) * n ∧ (i : Int) * n < len := by
  have h2 : ((i : Int) + 1) * n ≤ len + n - 1 := (Int.le_ediv_iff_mul_le (by omega)).mp (by omega)
  rw [Int.add_mul, Int.one_mul] at h2
  exact ⟨Int.mul_nonneg (by omega) (by omega), by omega⟩
def chunkT (ts : List (List V)) (n : Int) (i : Nat) : List (List V) := partT ts (i * n) (if tsize ts < i * n + n then tsize ts else i * n + n)
/-- the first so many parts, one behind the other -/
def chunksT (ts : List (List V)) (n : Int) (i : Nat) : List (List (List V)) := (List.range i).map (chunkT ts n)
theorem chunks_upto {z : Str} {ts : List (List V)} {n : Int} (h : ∀ t ∈ ts, tokV z t = true) (hs0 : 1 ≤ tsize ts) (hs : tsize ts ≤ 40) (n0 : 1 ≤ n) : ∀ i : Nat, (i : Int) ≤ (tsize ts + n - 1) / n →
    ∃ e : Int, (e = if tsize ts < i * n then tsize ts else i * n) ∧ 0 ≤ e ∧ e ≤ tsize ts ∧ (∀ t ∈ (chunksT ts n i).flatten, tokV z t = true) ∧ placesL (chunksT ts n i).flatten = (placesL ts).take e.toNat ∧ tsize (chunksT ts n i).flatten = e ∧
      ∀ m, m ∈ flushA (chunksT ts n i).flatten 0 [] ↔ (m ∈ flushA ts 0 [] ∧ (m < e ∨ (m = e ∧ e = tsize ts)))
  | 0, _ => by
    refine ⟨0, ?_, Int.le_refl _, by omega, (fun t ht => nomatch ht), rfl, rfl, fun m => ?_⟩
    · show (0 : Int) = if tsize ts < ((0 : Nat) : Int) * n then tsize ts else ((0 : Nat) : Int) * n
      rw [show ((0 : Nat) : Int) * n = 0 from Int.zero_mul n, if_neg (by omega)]
    · show m ∈ ([] : List Int) ↔ _
      constructor
      · intro e; cases e
      · rintro ⟨h1, h2⟩
        have := flushA_in ts z 0 [] h (by decide) (fun _ h => nomatch h) m h1
        omega
  | i + 1, hi => by
    obtain ⟨e, he, e0, e1, hok, hpl, hsz, hfl⟩ := chunks_upto h hs0 hs n0 i (by omega)
    obtain ⟨i0, i1⟩ := chunk_in (len := tsize ts) (i := i) n0 (by omega)
    rw [if_neg (by omega)] at he
    have hm : ((i + 1 : Nat) : Int) * n = i * n + n := by
      rw [Int.natCast_add, Int.add_mul]
      show _ + 1 * n = _
      rw [Int.one_mul]
    obtain ⟨e', he'⟩ : ∃ e' : Int, e' = if tsize ts < i * n + n then tsize ts else i * n + n := ⟨_, rfl⟩
    have hlt : e < e' ∧ e' ≤ tsize ts := by rw [he', he]; split <;> omega
    have hct : chunkT ts n i = partT ts e e' := by unfold chunkT; rw [← he', ← he]
    have g := part_grown h hs e0 hlt.1 hlt.2
    have pf := fun m => part_flush (m := m) h hs e0 hlt.1 hlt.2
    have ps := part_size h hs e0 hlt.1 hlt.2
    have hfl2 : (chunksT ts n (i + 1)).flatten = (chunksT ts n i).flatten ++ partT ts e e' := by
      unfold chunksT
      rw [List.range_succ, List.map_append, List.flatten_append, ← hct]
      simp
    have hlen := places_len h
    refine ⟨e', by rw [hm]; exact he', by omega, hlt.2, ?_, ?_, ?_, fun m => ?_⟩
    · intro t ht
      rw [hfl2] at ht
      rcases List.mem_append.mp ht with h1 | h1
      · exact hok t h1
      · exact g.ok t h1
    · rw [hfl2, places_app, hpl, g.places, show e'.toNat = e.toNat + (e' - e).toNat by omega, List.take_add]
    · rw [hfl2, tsize_app, hsz, ps]; omega
    · rw [hfl2, mem_flush_app hok g.ok, hsz, hfl, pf, show m - e + e = m by omega]
      constructor
      · rintro (⟨h1, h2⟩ | ⟨h1, h2, h3⟩)
        · exact ⟨h1, by omega⟩
        · exact ⟨h1, h3⟩
      · rintro ⟨h1, h2⟩
        by_cases hm : m < e
        · exact .inl ⟨h1, .inl hm⟩
        · exact .inr ⟨h1, by omega, h2⟩
theorem chunks_read {z : Str} {w : Nat} {ts : List (List V)} {n : Int} {N : Nat} {line : List Nat} {kl : Nat} (h : ∀ t ∈ ts, TokW z w t) (hs0 : 1 ≤ tsize ts) (hs : tsize ts ≤ 40) (n0 : 1 ≤ n) (hN : (N : Int) = (tsize ts + n - 1) / n) (hk : kl ≤ w) :
    (∀ us ∈ chunksT ts n N, (∀ t ∈ us, TokW z w t)) ∧ tsize (chunksT ts n N).flatten = tsize ts ∧ (if badA w (chunksT ts n N).flatten kl = none then V.str (stL (textA (chunksT ts n N).flatten line)) else V.non) = (if badA w ts kl = none then V.str (stL (textA ts line)) else V.non) := by
  have hok : ∀ t ∈ ts, tokV z t = true := fun t ht => (h t ht).ok
  obtain ⟨e, he, e0, e1, hok', hpl, hsz, hfl⟩ := chunks_upto hok hs0 hs n0 N (by omega)
  have hlen := places_len hok
  have h1 : tsize ts ≤ N * n := by
    have a1 := Int.mul_ediv_add_emod (tsize ts + n - 1) n
    have a2 := Int.emod_lt_of_pos (tsize ts + n - 1) (show 0 < n by omega)
    rw [← hN, Int.mul_comm] at a1
    omega
  have ee : e = tsize ts := by
    rw [he]
    split <;> omega
  subst ee
  rw [show (tsize ts).toNat = (placesL ts).length by omega, List.take_length] at hpl
  have hTW : ∀ t ∈ (chunksT ts n N).flatten, TokW z w t := tokW_of hok' (by rw [hpl]; exact plainP_of h)
  refine ⟨fun us hu t ht => hTW t (List.mem_flatten.mpr ⟨us, hu, ht⟩), hsz, ?_⟩
  have q := read_of (line := line) (kl := kl) h hTW hk hpl fun m => by
    rw [hfl]
    constructor
    · exact fun h => h.1
    · intro hm
      have := flushA_in ts z 0 [] hok (by decide) (fun _ h => nomatch h) m hm
      exact ⟨hm, by omega⟩
  rw [readT_is, readT_is] at q
  split at q
  · rename_i hb
    split at q
    · rename_i hb2
      rw [if_pos hb, if_pos hb2]
      injection q with q
      have q2 := congrArg Prod.fst q
      have q2 : line ++ textA (chunksT ts n N).flatten line = line ++ textA ts line := q2
      rw [List.append_cancel_left q2]
    · cases q
  · rename_i hb
    split at q
    · cases q
    · rename_i hb2
      rw [if_neg hb, if_neg hb2]
end KW

/-! The greedy writer: longest copies, the steps, the tokens, what a reader makes of them. -/
namespace KW
open PySem L2
/-- the last flush at or ahead of so many signs -/
def kb (f : Int → Bool) : Nat → Nat
  | 0 => 0
  | n + 1 => if f ((n + 1 : Nat) : Int) = true then n + 1 else kb f n
theorem kb_le (f : Int → Bool) : ∀ n, kb f n ≤ n
  | 0 => Nat.le_refl _
  | n + 1 => by
    unfold kb
    have := kb_le f n
    split <;> omega
theorem kb_at {f : Int → Bool} {n : Nat} (h : f n = true) : kb f n = n := by
  cases n with
  | zero => rfl
  | succ n => unfold kb; rw [if_pos h]
theorem kb_not {f : Int → Bool} {n : Nat} (h : ¬ f n = true) : kb f n = kb f (n - 1) := by
  cases n with
  | zero => rfl
  | succ n => show (if f ((n + 1 : Nat) : Int) = true then n + 1 else kb f n) = _; rw [if_neg h]; rfl
theorem kb_max {f : Int → Bool} : ∀ (n m : Nat), f m = true → m ≤ n → m ≤ kb f n
  | 0, m, _, h => by omega
  | n + 1, m, hm, h => by
    unfold kb
    split
    · exact h
    · rename_i h2
      rcases Nat.lt_or_ge n m with h3 | h3
      · have e : m = n + 1 := by omega
        subst e
        exact absurd hm h2
      · exact kb_max n m hm h3
theorem kb_in {f : Int → Bool} : ∀ (n : Nat), kb f n = 0 ∨ f (kb f n : Nat) = true
  | 0 => .inl rfl
  | n + 1 => by
    unfold kb
    split
    · rename_i h; exact .inr h
    · exact kb_in n
def good (L : List Nat) (f : Int → Bool) (d k : Nat) : Bool := decide (k < L.length) && (decide (kb f k + d ≤ k) && decide (L.getD k 0 = L.getD (k - d) 0))
theorem good_iff {L : List Nat} {f : Int → Bool} {d k : Nat} : good L f d k = true ↔ k < L.length ∧ kb f k + d ≤ k ∧ L.getD k 0 = L.getD (k - d) 0 := by
  unfold good
  simp
/-- how many signs from k on are copies from d back, 40 at most -/
def runF (L : List Nat) (f : Int → Bool) (d : Nat) : Nat → Nat → Nat
  | 0, _ => 0
  | m + 1, k => if good L f d k = true then runF L f d m (k + 1) + 1 else 0
theorem runF_le (L : List Nat) (f : Int → Bool) (d : Nat) : ∀ m k, runF L f d m k ≤ m
  | 0, _ => Nat.le_refl _
  | m + 1, k => by
    unfold runF
    have := runF_le L f d m (k + 1)
    split <;> omega
theorem runF_good {L : List Nat} {f : Int → Bool} {d : Nat} : ∀ (m k i : Nat), i < runF L f d m k → good L f d (k + i) = true
  | 0, _, _, h => by simp [runF] at h
  | m + 1, k, i, h => by
    unfold runF at h
    split at h
    · rename_i hg
      cases i with
      | zero => exact hg
      | succ i =>
        have := runF_good (L := L) (f := f) (d := d) m (k + 1) i (by omega)
        rw [show k + 1 + i = k + (i + 1) by omega] at this
        exact this
    · omega
/-- what a count comes to -/
theorem runF_is {L : List Nat} {f : Int → Bool} {d : Nat} : ∀ (m k j : Nat), j ≤ m → (∀ i, i < j → good L f d (k + i) = true) → (j = m ∨ ¬ good L f d (k + j) = true) → runF L f d m k = j
  | 0, _, j, h, _, _ => by
    have e : j = 0 := by omega
    subst e
    rfl
  | m + 1, k, j, h, hg, hs => by
    unfold runF
    cases j with
    | zero =>
      rcases hs with h | h
      · omega
      · rw [if_neg (show ¬ good L f d k = true from h)]
    | succ j =>
      rw [if_pos (show good L f d k = true from hg 0 (by omega))]
      have := runF_is (d := d) m (k + 1) j (by omega) (fun i hi => by have := hg (i + 1) (by omega); rw [show k + (i + 1) = k + 1 + i by omega] at this; exact this) (by
        rcases hs with h | h
        · exact .inl (by omega)
        · exact .inr (by rw [show k + 1 + j = k + (j + 1) by omega]; exact h))
      rw [this]
/-- the longest of the distances up to D, the least of these -/
def bestUp (L : List Nat) (f : Int → Bool) (k : Nat) : Nat → Nat × Nat
  | 0 => (0, 0)
  | D + 1 => if (bestUp L f k D).1 < runF L f (D + 1) 40 k then (runF L f (D + 1) 40 k, D + 1) else bestUp L f k D
theorem best_is {L : List Nat} {f : Int → Bool} {k : Nat} : ∀ D, (bestUp L f k D).1 ≤ 40 ∧ ((bestUp L f k D) = (0, 0) ∨ (1 ≤ (bestUp L f k D).2 ∧ (bestUp L f k D).2 ≤ D ∧ runF L f (bestUp L f k D).2 40 k = (bestUp L f k D).1))
  | 0 => ⟨Nat.zero_le _, .inl rfl⟩
  | D + 1 => by
    obtain ⟨h1, h2⟩ := best_is (L := L) (f := f) (k := k) D
    have h3 := runF_le L f (D + 1) 40 k
    unfold bestUp
    split
    · exact ⟨h3, .inr ⟨by show 1 ≤ D + 1; omega, Nat.le_refl _, rfl⟩⟩
    · refine ⟨h1, ?_⟩
      rcases h2 with h | ⟨a, b, c⟩
      · exact .inl h
      · exact .inr ⟨a, by omega, c⟩
theorem run_far {L : List Nat} {f : Int → Bool} {d k : Nat} (h : k < kb f k + d) : runF L f d 40 k = 0 := by
  refine runF_is 40 k 0 (by decide) (fun i hi => by omega) (.inr fun hg => ?_)
  rw [Nat.add_zero] at hg
  have := (good_iff.mp hg).2.1
  omega
/-- distances behind the last flush add nothing -/
theorem best_near {L : List Nat} {f : Int → Bool} {k : Nat} : ∀ D, bestUp L f k D = bestUp L f k (min D (k - kb f k))
  | 0 => by rw [Nat.zero_min]
  | D + 1 => by
    rcases Nat.lt_or_ge (k - kb f k) (D + 1) with h | h
    · have e : bestUp L f k (D + 1) = bestUp L f k D := by
        have hk := kb_le f k
        have e0 := run_far (L := L) (f := f) (d := D + 1) (k := k) (by omega)
        show (if (bestUp L f k D).1 < runF L f (D + 1) 40 k then (runF L f (D + 1) 40 k, D + 1) else bestUp L f k D) = _
        rw [e0, if_neg (by omega)]
      rw [e, best_near D]
      congr 1
      omega
    · rw [Nat.min_eq_left h]
def stepAt (L : List Nat) (f : Int → Bool) (w k : Nat) : Nat × Nat := if (bestUp L f k w).1 < 2 then (1, 0) else bestUp L f k w
theorem stepAt_is {L : List Nat} {f : Int → Bool} {w k : Nat} : stepAt L f w k = (1, 0) ∨ (2 ≤ (stepAt L f w k).1 ∧ (stepAt L f w k).1 ≤ 40 ∧ 1 ≤ (stepAt L f w k).2 ∧ (stepAt L f w k).2 ≤ w ∧ runF L f (stepAt L f w k).2 40 k = (stepAt L f w k).1) := by
  obtain ⟨h1, h2⟩ := best_is (L := L) (f := f) (k := k) w
  unfold stepAt
  split
  · exact .inl rfl
  · rename_i h
    rcases h2 with h2 | ⟨a, b, c⟩
    · rw [h2] at h
      exact absurd (by decide) h
    · exact .inr ⟨by omega, h1, a, b, c⟩
theorem step_pos {L : List Nat} {f : Int → Bool} {w k : Nat} : 1 ≤ (stepAt L f w k).1 ∧ (stepAt L f w k).1 ≤ 40 := by
  rcases stepAt_is (L := L) (f := f) (w := w) (k := k) with h | h
  · rw [h]; decide
  · omega
theorem step_in {L : List Nat} {f : Int → Bool} {w k : Nat} (hk : k < L.length) : k + (stepAt L f w k).1 ≤ L.length := by
  rcases stepAt_is (L := L) (f := f) (w := w) (k := k) with h | ⟨h1, h2, h3, h4, h5⟩
  · rw [h]; exact hk
  · have hg := runF_good (L := L) (f := f) (d := (stepAt L f w k).2) 40 k ((stepAt L f w k).1 - 1) (by omega)
    have := (good_iff.mp hg).1
    omega
/-- the steps from k on -/
def stepsF (L : List Nat) (f : Int → Bool) (w : Nat) : Nat → Nat → List (Nat × Nat × Nat)
  | 0, _ => []
  | m + 1, k => if k < L.length then (k, stepAt L f w k) :: stepsF L f w m (k + (stepAt L f w k).1) else []
theorem stepsF_more {L : List Nat} {f : Int → Bool} {w : Nat} : ∀ (m m' k : Nat), L.length - k ≤ m → m ≤ m' → stepsF L f w m' k = stepsF L f w m k
  | 0, 0, _, _, _ => rfl
  | 0, m' + 1, k, h, _ => by
    show (if k < L.length then _ else _) = []
    rw [if_neg (by omega)]
  | m + 1, 0, k, _, h2 => by omega
  | m + 1, m' + 1, k, h, h2 => by
    unfold stepsF
    have := (step_pos (L := L) (f := f) (w := w) (k := k)).1
    split
    · rw [stepsF_more m m' _ (by omega) (by omega)]
    · rfl
/-- the steps from k on, told without a count -/
def stepsK (L : List Nat) (f : Int → Bool) (w k : Nat) : List (Nat × Nat × Nat) := stepsF L f w (L.length - k) k
theorem stepsK_cons {L : List Nat} {f : Int → Bool} {w k : Nat} (h : k < L.length) : stepsK L f w k = (k, stepAt L f w k) :: stepsK L f w (k + (stepAt L f w k).1) := by
  unfold stepsK
  obtain ⟨m, hm⟩ : ∃ m, L.length - k = m + 1 := ⟨L.length - k - 1, by omega⟩
  have := (step_pos (L := L) (f := f) (w := w) (k := k)).1
  rw [hm]
  show (if k < L.length then _ else _) = _
  rw [if_pos h, stepsF_more (L.length - (k + (stepAt L f w k).1)) m _ (Nat.le_refl _) (by omega)]
theorem stepsK_end {L : List Nat} {f : Int → Bool} {w k : Nat} (h : ¬ k < L.length) : stepsK L f w k = [] := by
  unfold stepsK
  rw [show L.length - k = 0 by omega]
  rfl
theorem stepsK_len {L : List Nat} {f : Int → Bool} {w : Nat} : ∀ (m k : Nat), (stepsF L f w m k).length ≤ m
  | 0, _ => Nat.le_refl _
  | m + 1, k => by
    unfold stepsF
    split
    · rw [List.length_cons]
      have := stepsK_len (L := L) (f := f) (w := w) m (k + (stepAt L f w k).1)
      omega
    · exact Nat.zero_le _
/-- a text in tokens of 40 signs -/
def cutT (p : List Nat) : List (List V) := (List.range ((p.length + 39) / 40)).map fun i => [.str "text", .str (stL ((p.drop (40 * i)).take 40))]
theorem cutT_nil : cutT [] = [] := rfl
def stT (L : List Nat) (f : Int → Bool) (S : List (List V) × List Nat) (x : Nat × Nat × Nat) : List (List V) × List Nat :=
  let S1 := if f (x.1 : Nat) = true ∨ 0 < x.2.2 then (S.1 ++ cutT S.2, []) else S
  let F2 := if f (x.1 : Nat) = true then S1.1 ++ [flT] else S1.1
  if 0 < x.2.2 then (F2 ++ [[.str "copy", .int x.2.2, .int x.2.1]], S1.2) else (F2, S1.2 ++ [L.getD x.1 0])
def endT (L : List Nat) (f : Int → Bool) (S : List (List V) × List Nat) : List (List V) := S.1 ++ cutT S.2 ++ (if f (L.length : Nat) = true then [flT] else [])
def greedyT (L : List Nat) (f : Int → Bool) (w : Nat) : List (List V) := endT L f ((stepsK L f w 0).foldl (stT L f) ([], []))
/-! ### what a reader makes of it -/
theorem readT_app {w : Nat} : ∀ (ts us : List (List V)) (line : List Nat) (kl : Nat), readT w (ts ++ us) line kl = match readT w ts line kl with | none => none | some s => readT w us s.1 s.2
  | [], _, _, _ => rfl
  | t :: ts, us, line, kl => by
    show (match badT kl t with | some _ => none | none => readT w (ts ++ us) (line ++ textT line t) (klT w kl t)) = match (match badT kl t with | some _ => none | none => readT w ts (line ++ textT line t) (klT w kl t)) with | none => none | some s => readT w us s.1 s.2
    cases badT kl t with
    | some b => rfl
    | none => exact readT_app ts us _ _
theorem cutT_get (p : List Nat) (i : Nat) : p.drop (40 * i) = (p.drop (40 * i)).take 40 ++ p.drop (40 * (i + 1)) := by
  rw [show 40 * (i + 1) = 40 * i + 40 by omega, ← List.drop_drop, List.take_append_drop]
theorem cut_read {w : Nat} {p : List Nat} : ∀ (m i : Nat) (line : List Nat) (kl : Nat), i + m = (p.length + 39) / 40 → kl ≤ w → readT w ((List.range' i m).map fun i => [V.str "text", V.str (stL ((p.drop (40 * i)).take 40))]) line kl = some (line ++ p.drop (40 * i), min w (kl + (p.length - 40 * i)))
  | 0, i, line, kl, h, hk => by
    show some (line, kl) = _
    rw [List.drop_eq_nil_of_le (by omega), List.append_nil, show min w (kl + (p.length - 40 * i)) = kl by omega]
  | m + 1, i, line, kl, h, hk => by
    rw [List.range'_succ, List.map_cons]
    show readT w ((List.range' (i + 1) m).map fun i => [V.str "text", V.str (stL ((p.drop (40 * i)).take 40))]) (line ++ cl (stL ((p.drop (40 * i)).take 40))) (min w (kl + (stL ((p.drop (40 * i)).take 40)).length)) = _
    rw [cl_stL, stL_len, cut_read m (i + 1) _ _ (by omega) (Nat.min_le_left _ _), List.append_assoc, ← cutT_get, List.length_take, List.length_drop]
    congr 2
    omega
theorem cutT_read {w : Nat} {p line : List Nat} {kl : Nat} (hk : kl ≤ w) : readT w (cutT p) line kl = some (line ++ p, min w (kl + p.length)) := by
  unfold cutT
  rw [List.range_eq_range', cut_read ((p.length + 39) / 40) 0 line kl (by omega) hk]
  simp
theorem cutT_ok {z : Str} {w : Nat} {p : List Nat} (h : ∀ c ∈ p, c ∈ cl z) : ∀ t ∈ cutT p, TokW z w t := by
  intro t ht
  unfold cutT at ht
  obtain ⟨i, hi, rfl⟩ := List.mem_map.mp ht
  have hi := List.mem_range.mp hi
  have hm : ∀ c ∈ (p.drop (40 * i)).take 40, c ∈ cl z := fun c hc => h c (List.mem_of_mem_drop (List.mem_of_mem_take hc))
  refine TokW.text (over_of (z := z) hm) ?_ ?_
  · rw [stL_len, List.length_take, List.length_drop]; omega
  · rw [stL_len, List.length_take, List.length_drop]; omega
theorem cutT_size {p : List Nat} {z : Str} (h : ∀ c ∈ p, c ∈ cl z) : tsize (cutT p) = p.length := by
  have e := cutT_read (w := 0) (p := p) (line := []) (kl := 0) (Nat.le_refl _)
  rw [readT_is] at e
  split at e
  · injection e with e
    have e := congrArg Prod.fst e
    have hl := textA_len (z := z) (cutT p) [] fun t ht => ⟨(cutT_ok (w := 12) h t ht).ok, (cutT_ok (w := 12) h t ht).pl.1⟩
    rw [show textA (cutT p) [] = p by simpa using e] at hl
    omega
  · cases e
/-- where flushes stand, one behind the other -/
def posA : List (List V) → Int → List Int
  | [], _ => []
  | t :: ts, n => (match t with | [.str _] => [n] | _ => []) ++ posA ts (n + sizeV t)
theorem posA_app : ∀ (ts us : List (List V)) (n : Int), posA (ts ++ us) n = posA ts n ++ posA us (n + tsize ts)
  | [], us, n => by show posA us n = [] ++ posA us (n + 0); rw [Int.add_zero]; rfl
  | t :: ts, us, n => by
    show _ ++ posA (ts ++ us) _ = (_ ++ posA ts _) ++ posA us (n + tsize (t :: ts))
    rw [posA_app ts us, List.append_assoc, show n + tsize (t :: ts) = n + sizeV t + tsize ts from by
      have : tsize (t :: ts) = sizeV t + tsize ts := by rw [show t :: ts = [t] ++ ts from rfl, tsize_app, tsize_one]
      omega]
theorem posA_cut (p : List Nat) (n : Int) : posA (cutT p) n = [] := by
  unfold cutT
  generalize List.range ((p.length + 39) / 40) = r
  induction r generalizing n with
  | nil => rfl
  | cons i r ih =>
    show [] ++ posA (r.map fun i => [V.str "text", V.str (stL ((p.drop (40 * i)).take 40))]) _ = []
    rw [ih]
    rfl
/-- what stands written behind k signs: tokens and a text that is not yet one; q the last flush, all flushes ahead of e are told -/
structure Wr (z : Str) (L : List Nat) (f : Int → Bool) (w k q : Nat) (e : Int) (S : List (List V) × List Nat) : Prop where
  ok : ∀ t ∈ S.1, TokW z w t
  pin : ∀ c ∈ S.2, c ∈ cl z
  le : S.2.length ≤ k
  plain : L.take (k - S.2.length) ++ S.2 = L.take k
  read : readT w S.1 [] 0 = some (L.take (k - S.2.length), min w (k - S.2.length - q))
  back : q ≤ k - S.2.length
  size : tsize S.1 = ((k - S.2.length : Nat) : Int)
  asc : (posA S.1 0).Pairwise (· < ·)
  pos : ∀ m, m ∈ posA S.1 0 ↔ (f m = true ∧ 0 ≤ m ∧ m < e)
theorem Wr.start {z : Str} {L : List Nat} {f : Int → Bool} {w : Nat} : Wr z L f w 0 0 0 ([], []) := by
  refine ⟨(fun _ h => nomatch h), (fun _ h => nomatch h), Nat.le_refl _, rfl, ?_, Nat.le_refl _, rfl, List.Pairwise.nil, fun m => ?_⟩
  · show some ([], 0) = some (L.take 0, min w 0)
    rw [Nat.min_zero]
    rfl
  · constructor
    · intro h; cases h
    · rintro ⟨_, h1, h2⟩; omega
section
variable {z : Str} {L : List Nat} {f : Int → Bool} {w k q : Nat} {e : Int} {S : List (List V) × List Nat}
theorem Wr.cut (W : Wr z L f w k q e S) : Wr z L f w k q e (S.1 ++ cutT S.2, []) := by
  have hq := W.back
  have hl := W.le
  refine ⟨fun t ht => ?_, (fun _ h => nomatch h), Nat.zero_le _, ?_, ?_, ?_, ?_, ?_, fun m => ?_⟩
  · rcases List.mem_append.mp ht with h | h
    · exact W.ok t h
    · exact cutT_ok W.pin t h
  · show L.take (k - 0) ++ [] = L.take k
    rw [List.append_nil]; rfl
  · show readT w (S.1 ++ cutT S.2) [] 0 = some (L.take (k - 0), min w (k - 0 - q))
    rw [readT_app, W.read]
    show readT w (cutT S.2) (L.take (k - S.2.length)) (min w (k - S.2.length - q)) = _
    rw [cutT_read (Nat.min_le_left _ _), W.plain, show min w (min w (k - S.2.length - q) + S.2.length) = min w (k - 0 - q) by omega]
    rfl
  · show q ≤ k - 0; omega
  · show tsize (S.1 ++ cutT S.2) = ((k - 0 : Nat) : Int)
    rw [tsize_app, W.size, cutT_size W.pin]; omega
  · show (posA (S.1 ++ cutT S.2) 0).Pairwise _
    rw [posA_app, posA_cut, List.append_nil]; exact W.asc
  · show m ∈ posA (S.1 ++ cutT S.2) 0 ↔ _
    rw [posA_app, posA_cut, List.append_nil]; exact W.pos m
theorem Wr.flush {F : List (List V)} (W : Wr z L f w k q k (F, [])) (hf : f (k : Nat) = true) : Wr z L f w k k ((k : Int) + 1) (F ++ [flT], []) := by
  have hs : tsize F = (k : Int) := W.size
  have hp : posA (F ++ [flT]) 0 = posA F 0 ++ [(k : Int)] := by
    rw [posA_app, hs]
    show _ ++ ([0 + (k : Int)] ++ []) = _
    rw [Int.zero_add]; rfl
  refine ⟨fun t ht => ?_, (fun _ h => nomatch h), Nat.zero_le _, W.plain, ?_, Nat.le_refl _, ?_, ?_, fun m => ?_⟩
  · rcases List.mem_append.mp ht with h | h
    · exact W.ok t h
    · rw [List.mem_singleton.mp h]; exact TokW.flush
  · show readT w (F ++ [flT]) [] 0 = some (L.take (k - 0), min w (k - 0 - k))
    have r := W.read
    have r : readT w F [] 0 = some (L.take (k - 0), min w (k - 0 - q)) := r
    rw [readT_app, r]
    show some (L.take (k - 0) ++ [], 0) = _
    rw [List.append_nil, show min w (k - 0 - k) = 0 by omega]
  · show tsize (F ++ [flT]) = ((k - 0 : Nat) : Int)
    rw [tsize_app, hs, tsize_one]
    show (k : Int) + 0 = _
    omega
  · show (posA (F ++ [flT]) 0).Pairwise _
    rw [hp, List.pairwise_append]
    refine ⟨W.asc, List.pairwise_singleton _ _, fun a ha b hb => ?_⟩
    have := ((W.pos a).mp ha).2.2
    rw [List.mem_singleton.mp hb]
    exact this
  · show m ∈ posA (F ++ [flT]) 0 ↔ _
    rw [hp, List.mem_append, List.mem_singleton]
    have := W.pos m
    have this : m ∈ posA F 0 ↔ _ := this
    rw [this]
    constructor
    · rintro (⟨h1, h2, h3⟩ | rfl)
      · exact ⟨h1, h2, by omega⟩
      · exact ⟨hf, by omega, by omega⟩
    · rintro ⟨h1, h2, h3⟩
      by_cases h : m < k
      · exact .inl ⟨h1, h2, h⟩
      · exact .inr (by omega)
theorem Wr.grow {e' : Int} (W : Wr z L f w k q e S) (h : ∀ m : Int, f m = true → 0 ≤ m → (m < e ↔ m < e')) : Wr z L f w k q e' S :=
  ⟨W.ok, W.pin, W.le, W.plain, W.read, W.back, W.size, W.asc, fun m => by
    rw [W.pos]
    constructor
    · rintro ⟨h1, h2, h3⟩; exact ⟨h1, h2, (h m h1 h2).mp h3⟩
    · rintro ⟨h1, h2, h3⟩; exact ⟨h1, h2, (h m h1 h2).mpr h3⟩⟩
theorem Wr.sign {p : List Nat} {F : List (List V)} (W : Wr z L f w k q e (F, p)) (hL : ∀ c ∈ L, c ∈ cl z) (hk : k < L.length) : Wr z L f w (k + 1) q e (F, p ++ [L.getD k 0]) := by
  have hl : p.length ≤ k := W.le
  have hg : L.getD k 0 = L[k] := by simp [hk]
  have e1 : k + 1 - (p ++ [L.getD k 0]).length = k - p.length := by rw [List.length_append]; show k + 1 - (p.length + 1) = _; omega
  refine ⟨W.ok, fun c hc => ?_, ?_, ?_, ?_, ?_, ?_, W.asc, W.pos⟩
  · rcases List.mem_append.mp hc with h | h
    · exact W.pin c h
    · rw [List.mem_singleton.mp h, hg]; exact hL _ (List.getElem_mem hk)
  · show (p ++ [_]).length ≤ k + 1
    rw [List.length_append]; show p.length + 1 ≤ _; omega
  · show L.take (k + 1 - (p ++ [L.getD k 0]).length) ++ (p ++ [L.getD k 0]) = L.take (k + 1)
    have h : L.take (k - p.length) ++ p = L.take k := W.plain
    rw [e1, ← List.append_assoc, h, hg, List.take_append_getElem]
  · show readT w F [] 0 = some (L.take (k + 1 - (p ++ [L.getD k 0]).length), min w (k + 1 - (p ++ [L.getD k 0]).length - q))
    rw [e1]; exact W.read
  · show q ≤ k + 1 - (p ++ [L.getD k 0]).length
    rw [e1]; exact W.back
  · show tsize F = ((k + 1 - (p ++ [L.getD k 0]).length : Nat) : Int)
    rw [e1]; exact W.size
theorem Wr.copy {F : List (List V)} {n d : Nat} (W : Wr z L f w k q e (F, [])) (hk : k + n ≤ L.length) (hw : w ≤ 12) (n1 : 1 ≤ n) (n2 : n ≤ 40) (d1 : 1 ≤ d) (d2 : d ≤ w) (hd : q + d ≤ k) (hc : ∀ i, i < n → L.getD (k + i) 0 = L.getD (k + i - d) 0) :
    Wr z L f w (k + n) q e (F ++ [[.str "copy", .int d, .int n]], []) := by
  have hs : tsize F = (k : Int) := W.size
  have hsz : sizeV [.str "copy", .int d, .int n] = (n : Int) := rfl
  have hp : posA (F ++ [[.str "copy", .int d, .int n]]) 0 = posA F 0 := by
    rw [posA_app]
    show _ ++ ([] ++ []) = _
    rw [List.append_nil, List.append_nil]
  refine ⟨fun t ht => ?_, (fun _ h => nomatch h), Nat.zero_le _, ?_, ?_, ?_, ?_, ?_, fun m => ?_⟩
  · rcases List.mem_append.mp ht with h | h
    · exact W.ok t h
    · rw [List.mem_singleton.mp h]; exact TokW.copy (by omega) (by omega) hw (by omega) (by omega)
  · show L.take (k + n - 0) ++ [] = L.take (k + n)
    rw [List.append_nil]; rfl
  · show readT w (F ++ [[.str "copy", .int d, .int n]]) [] 0 = some (L.take (k + n - 0), min w (k + n - 0 - q))
    have r : readT w F [] 0 = some (L.take (k - 0), min w (k - 0 - q)) := W.read
    rw [readT_app, r]
    show (match (if (d : Int) ≤ ((min w (k - 0 - q) : Nat) : Int) then none else some ((d : Int), min w (k - 0 - q))) with | some _ => none | none => some (L.take (k - 0) ++ copyN (L.take (k - 0)) (d : Int).toNat (n : Int).toNat, min w (min w (k - 0 - q) + (n : Int).toNat))) = _
    rw [if_pos (by omega), Int.toNat_natCast, Int.toNat_natCast]
    show some (L.take k ++ copyN (L.take k) d n, min w (min w (k - 0 - q) + n)) = some (L.take (k + n), min w (k + n - 0 - q))
    rw [copyN_is d1 (by omega) n hk hc, show min w (min w (k - 0 - q) + n) = min w (k + n - 0 - q) by omega]
  · show q ≤ k + n - 0
    have : q ≤ k - 0 := W.back
    omega
  · show tsize (F ++ [_]) = ((k + n - 0 : Nat) : Int)
    rw [tsize_app, hs, tsize_one, hsz]; omega
  · show (posA (F ++ [_]) 0).Pairwise _
    rw [hp]; exact W.asc
  · show m ∈ posA (F ++ [_]) 0 ↔ _
    rw [hp]; exact W.pos m
end
theorem kb_run {L : List Nat} {f : Int → Bool} {d k : Nat} (d1 : 1 ≤ d) : ∀ n, (∀ i, i < n → good L f d (k + i) = true) → ∀ i, i < n → kb f (k + i) = kb f k
  | 0, _, i, h => by omega
  | n + 1, hg, i, h => by
    cases i with
    | zero => rfl
    | succ i =>
      have hgi := (good_iff.mp (hg (i + 1) h)).2.1
      have hn : ¬ f ((k + (i + 1) : Nat) : Int) = true := fun hf => by
        rw [kb_at hf] at hgi
        omega
      rw [kb_not hn, show k + (i + 1) - 1 = k + i by omega]
      exact kb_run d1 n (fun j hj => hg j (by omega)) i (by omega)
theorem wrote_step {z : Str} {L : List Nat} {f : Int → Bool} {w k : Nat} {S : List (List V) × List Nat} (hL : ∀ c ∈ L, c ∈ cl z) (hw : w ≤ 12) (hk : k < L.length) (W : Wr z L f w k (kb f (k - 1)) k S) :
    Wr z L f w (k + (stepAt L f w k).1) (kb f (k + (stepAt L f w k).1 - 1)) ((k + (stepAt L f w k).1 : Nat) : Int) (stT L f S (k, stepAt L f w k)) := by
  obtain ⟨F, p⟩ := S
  -- behind the flush, if there is one
  have mid : ∀ {G : List (List V)} {r : List Nat}, Wr z L f w k (kb f k) ((k : Int) + 1) (G, r) → (r = [] ∨ (stepAt L f w k).2 = 0) →
      Wr z L f w (k + (stepAt L f w k).1) (kb f (k + (stepAt L f w k).1 - 1)) ((k + (stepAt L f w k).1 : Nat) : Int) (if 0 < (stepAt L f w k).2 then (G ++ [[.str "copy", .int (stepAt L f w k).2, .int (stepAt L f w k).1]], r) else (G, r ++ [L.getD k 0])) := by
    intro G r W1 hr
    have hin := step_in (L := L) (f := f) (w := w) hk
    rcases stepAt_is (L := L) (f := f) (w := w) (k := k) with h | ⟨h1, h2, h3, h4, h5⟩
    · rw [h, if_neg (by decide)]
      exact W1.sign hL hk
    · generalize stepAt L f w k = s at h1 h2 h3 h4 h5 hin hr
      obtain ⟨n, d⟩ := s
      have h1 : 2 ≤ n := h1
      have h3 : 1 ≤ d := h3
      have h4 : d ≤ w := h4
      have h5 : runF L f d 40 k = n := h5
      have hg : ∀ i, i < n → good L f d (k + i) = true := fun i hi => runF_good 40 k i (by omega)
      have hkb := kb_run (L := L) (f := f) (k := k) h3 n hg
      rcases hr with rfl | hr
      · rw [if_pos (show 0 < ((n, d) : Nat × Nat).2 from h3)]
        have g0 := (good_iff.mp (hg 0 (by omega))).2.1
        rw [Nat.add_zero] at g0
        have q : kb f (k + n - 1) = kb f k := by
          have := hkb (n - 1) (by omega)
          rw [show k + (n - 1) = k + n - 1 by omega] at this
          exact this
        show Wr z L f w (k + n) (kb f (k + n - 1)) ((k + n : Nat) : Int) _
        rw [q]
        refine Wr.grow (e := (k : Int) + 1) (Wr.copy W1 hin hw (by omega) h2 h3 h4 g0 fun i hi => (good_iff.mp (hg i hi)).2.2) fun m hm h0 => ?_
        constructor
        · intro h; omega
        · intro h
          by_cases hmk : m < (k : Int) + 1
          · exact hmk
          · obtain ⟨i, hi⟩ : ∃ i : Nat, m = ((k + i : Nat) : Int) := ⟨(m - k).toNat, by omega⟩
            subst hi
            have hi0 : 1 ≤ i := by omega
            have := hkb i (by omega)
            rw [kb_at hm] at this
            have := kb_le f k
            omega
      · have hr : d = 0 := hr
        omega
  by_cases hf : f (k : Nat) = true
  · have e : stT L f (F, p) (k, stepAt L f w k) = (if 0 < (stepAt L f w k).2 then (F ++ cutT p ++ [flT] ++ [[.str "copy", .int (stepAt L f w k).2, .int (stepAt L f w k).1]], []) else (F ++ cutT p ++ [flT], [] ++ [L.getD k 0])) := by
      unfold stT
      simp only [hf, true_or, if_true]
    rw [e]
    refine mid ?_ (.inl rfl)
    rw [kb_at hf]
    exact Wr.flush W.cut hf
  · have W1 : ∀ {S}, Wr z L f w k (kb f (k - 1)) k S → Wr z L f w k (kb f k) ((k : Int) + 1) S := fun W => by
      rw [kb_not hf]
      refine W.grow fun m hm h0 => ?_
      constructor
      · intro h; omega
      · intro h
        by_cases hmk : m < (k : Int)
        · exact hmk
        · have e : m = k := by omega
          subst e
          exact absurd hm hf
    by_cases hd : 0 < (stepAt L f w k).2
    · have e : stT L f (F, p) (k, stepAt L f w k) = (if 0 < (stepAt L f w k).2 then (F ++ cutT p ++ [[.str "copy", .int (stepAt L f w k).2, .int (stepAt L f w k).1]], []) else (F ++ cutT p, [] ++ [L.getD k 0])) := by
        unfold stT
        simp only [hf, hd, or_true, if_true, Bool.false_eq_true, if_false]
      rw [e]
      exact mid (W1 W.cut) (.inl rfl)
    · have e : stT L f (F, p) (k, stepAt L f w k) = (if 0 < (stepAt L f w k).2 then (F ++ [[.str "copy", .int (stepAt L f w k).2, .int (stepAt L f w k).1]], p) else (F, p ++ [L.getD k 0])) := by
        unfold stT
        simp only [hf, hd, or_false, Bool.false_eq_true, if_false]
      rw [e]
      exact mid (W1 W) (.inr (by omega))
theorem wrote_all {z : Str} {L : List Nat} {f : Int → Bool} {w : Nat} (hL : ∀ c ∈ L, c ∈ cl z) (hw : w ≤ 12) : ∀ (m k : Nat) (S : List (List V) × List Nat), L.length - k ≤ m → k ≤ L.length → Wr z L f w k (kb f (k - 1)) k S → Wr z L f w L.length (kb f (L.length - 1)) L.length ((stepsK L f w k).foldl (stT L f) S)
  | 0, k, S, h, hk, W => by
    have e : k = L.length := by omega
    subst e
    rw [stepsK_end (by omega)]
    exact W
  | m + 1, k, S, h, hk, W => by
    by_cases hlt : k < L.length
    · rw [stepsK_cons hlt, List.foldl_cons]
      have hp := (step_pos (L := L) (f := f) (w := w) (k := k)).1
      exact wrote_all hL hw m _ _ (by omega) (step_in hlt) (wrote_step hL hw hlt W)
    · have e : k = L.length := by omega
      subst e
      rw [stepsK_end (by omega)]
      exact W
/-- the greedy tokens: plain ones, read back to the text, their flushes in order -/
theorem greedy_ok {z : Str} {L : List Nat} {f : Int → Bool} {w : Nat} (hL : ∀ c ∈ L, c ∈ cl z) (hw : w ≤ 12) :
    (∀ t ∈ greedyT L f w, TokW z w t) ∧ (∃ kl, readT w (greedyT L f w) [] 0 = some (L, kl)) ∧ (posA (greedyT L f w) 0).Pairwise (· < ·) ∧ ∀ m, m ∈ posA (greedyT L f w) 0 ↔ (f m = true ∧ 0 ≤ m ∧ m ≤ (L.length : Int)) := by
  have W := wrote_all (f := f) (w := w) hL hw L.length 0 ([], []) (by omega) (Nat.zero_le _) Wr.start
  have W1 := W.cut
  unfold greedyT endT
  generalize (stepsK L f w 0).foldl (stT L f) ([], []) = S at W1
  have r1 : readT w (S.1 ++ cutT S.2) [] 0 = some (L.take (L.length - 0), min w (L.length - 0 - kb f (L.length - 1))) := W1.read
  rw [show L.length - 0 = L.length from rfl, List.take_length] at r1
  by_cases hf : f (L.length : Nat) = true
  · rw [if_pos hf]
    have W2 := Wr.flush W1 hf
    refine ⟨W2.ok, ⟨min w (L.length - 0 - L.length), ?_⟩, W2.asc, fun m => ?_⟩
    · have r := W2.read
      have r : readT w (S.1 ++ cutT S.2 ++ [flT]) [] 0 = some (L.take (L.length - 0), _) := r
      rw [show L.length - 0 = L.length from rfl, List.take_length] at r
      exact r
    · have p := W2.pos m
      have p : m ∈ posA (S.1 ++ cutT S.2 ++ [flT]) 0 ↔ _ := p
      rw [p]
      constructor
      · rintro ⟨a, b, c⟩; exact ⟨a, b, by omega⟩
      · rintro ⟨a, b, c⟩; exact ⟨a, b, by omega⟩
  · rw [if_neg hf, List.append_nil]
    refine ⟨W1.ok, ⟨_, r1⟩, W1.asc, fun m => ?_⟩
    have p := W1.pos m
    have p : m ∈ posA (S.1 ++ cutT S.2) 0 ↔ _ := p
    rw [p]
    constructor
    · rintro ⟨a, b, c⟩; exact ⟨a, b, by omega⟩
    · rintro ⟨a, b, c⟩
      refine ⟨a, b, ?_⟩
      by_cases h : m = L.length
      · subst h; exact absurd a hf
      · omega
end KW
namespace KW
open PySem L2
/-- a tuple of two numbers -/
def PairAt (K : PySem.W.Frag) (H : Hp) (v : V) (x : Nat × Nat) : Prop := TupAt K H v [.int (x.1 : Nat), .int (x.2 : Nat)]
theorem PairAt.same {K : PySem.W.Frag} {H H' : Hp} {v : V} {x : Nat × Nat} (s : Same H H') (h : PairAt K H v x) : PairAt K H' v x := TupAt.same s h
abbrev Pairs (K : PySem.W.Frag) (H : Hp) : List V → List (Nat × Nat) → Prop := Paired (PairAt K H)
theorem Pairs.same {K : PySem.W.Frag} {H H' : Hp} {vs : List V} {xs : List (Nat × Nat)} (s : Same H H') (h : Pairs K H vs xs) : Pairs K H' vs xs := paired_mono h fun _ _ h => h.same s
theorem PairAt.put {K : PySem.W.Frag} {H : Hp} {D : Addr} {xs ys : List V} {v : V} {x : Nat × Nat} (hD : H D = some (.lst xs)) (h : PairAt K H v x) : PairAt K (upd H D (.lst ys)) v x := TupAt.put hD h
theorem Pairs.put {K : PySem.W.Frag} {H : Hp} {D : Addr} {xs ys : List V} {vs : List V} {ps : List (Nat × Nat)} (hD : H D = some (.lst xs)) (h : Pairs K H vs ps) : Pairs K (upd H D (.lst ys)) vs ps := paired_mono h fun _ _ h => h.put hD
theorem paired_set {α β : Type} {F : α → β → Prop} : ∀ {l : List α} {m : List β} {i : Nat} {a : α} {b : β}, Paired F l m → F a b → Paired F (l.set i a) (m.set i b)
  | _, _, _, _, _, .nil, _ => .nil
  | _, _, 0, _, _, .cons _ t, h => .cons h t
  | _, _, i + 1, _, _, .cons h t, hx => .cons h (paired_set t hx)
theorem ixN_nat {n i : Nat} (h : i < n) : ixN n (i : Int) = some i := by
  unfold ixN
  rw [if_pos (by omega), if_pos (by omega)]
  rfl
/-- the runs of one distance over a text, the last sign first -/
theorem run_next {L : List Nat} {f : Int → Bool} {d k : Nat} : runF L f d 40 k = if good L f d k = true then min (runF L f d 40 (k + 1) + 1) 40 else 0 := by
  have cap : ∀ (m M k : Nat), m ≤ M → runF L f d m k = min m (runF L f d M k) := by
    intro m
    induction m with
    | zero => intro M k _; rw [Nat.zero_min]; rfl
    | succ m ih =>
      intro M k h
      cases M with
      | zero => omega
      | succ M =>
        show (if good L f d k = true then runF L f d m (k + 1) + 1 else 0) = min (m + 1) (if good L f d k = true then runF L f d M (k + 1) + 1 else 0)
        rw [ih M (k + 1) (by omega)]
        split
        · omega
        · omega
  show (if good L f d k = true then runF L f d 39 (k + 1) + 1 else 0) = _
  rw [cap 39 40 (k + 1) (by decide)]
  split
  · omega
  · rfl
theorem run_end {L : List Nat} {f : Int → Bool} {d : Nat} : runF L f d 40 L.length = 0 := by
  rw [run_next, if_neg]
  intro h
  have := (good_iff.mp h).1
  omega
/-- the best pairs while distance D + 1 is tried, from place n on -/
def bestMid (L : List Nat) (f : Int → Bool) (D n : Nat) : List (Nat × Nat) := (List.range L.length).map fun i => if n ≤ i then bestUp L f i (D + 1) else bestUp L f i D
theorem bestMid_len {L : List Nat} {f : Int → Bool} {D n : Nat} : (bestMid L f D n).length = L.length := by unfold bestMid; rw [List.length_map, List.length_range]
theorem bestMid_get {L : List Nat} {f : Int → Bool} {D n i : Nat} (h : i < L.length) : (bestMid L f D n)[i]? = some (if n ≤ i then bestUp L f i (D + 1) else bestUp L f i D) := by
  unfold bestMid
  rw [List.getElem?_map, List.getElem?_range h]
  rfl
theorem bestMid_step {L : List Nat} {f : Int → Bool} {D n : Nat} (h : n < L.length) : bestMid L f D n = (bestMid L f D (n + 1)).set n (bestUp L f n (D + 1)) := by
  refine List.ext_getElem? fun i => ?_
  rw [List.getElem?_set]
  by_cases hi : i < L.length
  · rw [bestMid_get hi, bestMid_get hi, bestMid_len]
    by_cases e : n = i
    · subst e
      rw [if_pos (Nat.le_refl _), if_pos rfl, if_pos h]
    · rw [if_neg e]
      congr 1
      by_cases h2 : n ≤ i
      · rw [if_pos h2, if_pos (by omega)]
      · rw [if_neg h2, if_neg (by omega)]
  · rw [List.getElem?_eq_none (by rw [bestMid_len]; omega), List.getElem?_eq_none (by rw [bestMid_len]; omega)]
    split
    · rename_i e; omega
    · rfl
theorem bestMid_all {L : List Nat} {f : Int → Bool} {D : Nat} : bestMid L f D 0 = bestMid L f (D + 1) L.length := by
  unfold bestMid
  refine List.map_congr_left fun i hi => ?_
  have := List.mem_range.mp hi
  rw [if_pos (Nat.zero_le _), if_neg (by omega)]
theorem bestMid_none {L : List Nat} {f : Int → Bool} : bestMid L f 0 L.length = List.replicate L.length (0, 0) := by
  unfold bestMid
  refine List.ext_getElem (by simp) fun i h1 h2 => ?_
  have hi : i < L.length := by simpa using h1
  simp only [List.getElem_map, List.getElem_range, List.getElem_replicate]
  rw [if_neg (by omega)]
  rfl
end KW
namespace KW
open PySem L2
theorem sg_inj {c d : Nat} (h : sg c = sg d) : c = d := by
  have := congrArg cl h
  rw [cl_sg, cl_sg] at this
  exact List.head_eq_of_cons_eq this
theorem paired_getR {α β : Type} {F : α → β → Prop} : ∀ {l : List α} {m : List β} {i : Nat} {y : β}, Paired F l m → m[i]? = some y → ∃ x, l[i]? = some x ∧ F x y
  | _, _, _, _, .nil, h => by cases h
  | _, _, 0, _, .cons h _, e => by cases e; exact ⟨_, rfl, h⟩
  | _, _, i + 1, _, .cons _ t, e => paired_getR (i := i) t e
end KW
namespace KW
open PySem L2
/-- a tuple of three numbers -/
def TripAt (K : PySem.W.Frag) (H : Hp) (v : V) (x : Nat × Nat × Nat) : Prop := TupAt K H v [.int (x.1 : Nat), .int (x.2.1 : Nat), .int (x.2.2 : Nat)]
theorem TripAt.same {K : PySem.W.Frag} {H H' : Hp} {v : V} {x : Nat × Nat × Nat} (s : Same H H') (h : TripAt K H v x) : TripAt K H' v x := TupAt.same s h
abbrev Trips (K : PySem.W.Frag) (H : Hp) : List V → List (Nat × Nat × Nat) → Prop := Paired (TripAt K H)
theorem Trips.same {K : PySem.W.Frag} {H H' : Hp} {vs : List V} {xs : List (Nat × Nat × Nat)} (s : Same H H') (h : Trips K H vs xs) : Trips K H' vs xs := paired_mono h fun _ _ h => h.same s
theorem TripAt.put {K : PySem.W.Frag} {H : Hp} {D : Addr} {xs ys : List V} {v : V} {x : Nat × Nat × Nat} (hD : H D = some (.lst xs)) (h : TripAt K H v x) : TripAt K (upd H D (.lst ys)) v x := TupAt.put hD h
theorem Trips.put {K : PySem.W.Frag} {H : Hp} {D : Addr} {xs ys : List V} {vs : List V} {ps : List (Nat × Nat × Nat)} (hD : H D = some (.lst xs)) (h : Trips K H vs ps) : Trips K (upd H D (.lst ys)) vs ps := paired_mono h fun _ _ h => h.put hD
/-- behind the text that a flush or a copy ends -/
def st1 (f : Int → Bool) (S : List (List V) × List Nat) (x : Nat × Nat × Nat) : List (List V) × List Nat := if f (x.1 : Nat) = true ∨ 0 < x.2.2 then (S.1 ++ cutT S.2, []) else S
def st2 (f : Int → Bool) (S : List (List V) × List Nat) (x : Nat × Nat × Nat) : List (List V) := if f (x.1 : Nat) = true then (st1 f S x).1 ++ [flT] else (st1 f S x).1
theorem stT_is {L : List Nat} {f : Int → Bool} {S : List (List V) × List Nat} {x : Nat × Nat × Nat} : stT L f S x = if 0 < x.2.2 then (st2 f S x ++ [[.str "copy", .int x.2.2, .int x.2.1]], (st1 f S x).2) else (st2 f S x, (st1 f S x).2 ++ [L.getD x.1 0]) := rfl
/-- single signs joined -/
theorem join_sgs (p : List Nat) : p.map (fun c => V.str (sg c)) = ((p.map fun c => [c]).map stL).map V.str ∧ (p.map fun c => [c]).flatten = p := by
  constructor
  · rw [List.map_map, List.map_map]; rfl
  · induction p with
    | nil => rfl
    | cons c cs ih => rw [List.map_cons, List.flatten_cons, ih]; rfl
end KW
namespace KW
open PySem L2
theorem kb_still {f : Int → Bool} {a : Nat} : ∀ n : Nat, (∀ m : Int, f m = true → (a : Int) < m → ((a + n : Nat) : Int) < m) → kb f (a + n) = kb f a
  | 0, _ => rfl
  | n + 1, h => by
    have hn : ¬ f ((a + (n + 1) : Nat) : Int) = true := fun hf => by
      have := h _ hf (by omega)
      omega
    rw [kb_not hn, show a + (n + 1) - 1 = a + n by omega]
    exact kb_still n fun m hm hlt => by have := h m hm hlt; omega
theorem kb_zero {f : Int → Bool} {n m : Int} {k : Nat} (h : m = (kb f k : Nat)) (hn : n = m) : n = (kb f k : Nat) := by omega
/-- a comprehension over a list of ints, with one test -/
theorem filt_len {q : Int → Bool} {fs : List Int} {i : Nat} : (((fs.take i).filter q).map fun m => V.int (id m)).length ≤ fs.length := by
  rw [List.length_map]
  have h1 := List.length_filter_le q (fs.take i)
  rw [List.length_take] at h1
  omega
theorem ints_get {fs : List Int} {i : Nat} {v : V} (h : (fs.map V.int)[i]? = some v) : ∃ n, fs[i]? = some n ∧ v = V.int n := by
  rw [List.getElem?_map] at h
  cases e : fs[i]? with
  | none => rw [e] at h; cases h
  | some n => rw [e] at h; cases h; exact ⟨n, rfl, rfl⟩
end KW
namespace KW
open PySem L2
theorem rg_up40 {len n : Int} (h0 : 0 ≤ len) (h1 : len ≤ 1000) (n0 : 1 ≤ n) (n1 : n ≤ 1000) : L2.RgC 0 len n ((len + n - 1) / n).toNat ∧ (((len + n - 1) / n).toNat : Int) = (len + n - 1) / n ∧ (len + n - 1) / n ≤ 1001 := by
  have hn2 : (0 : Int) ≤ (len + n - 1) / n := Int.ediv_nonneg (by omega) (by omega)
  have hn3 : (len + n - 1) / n < 1002 := Int.ediv_lt_of_lt_mul (by omega) (by omega)
  have hN : (((len + n - 1) / n).toNat : Int) = (len + n - 1) / n := Int.toNat_of_nonneg hn2
  have hrs : PySem.Builtin.Range.rangeSize 0 len n = (((len + n - 1) / n).toNat : Int) := by
    rw [hN]
    unfold PySem.Builtin.Range.rangeSize
    rw [if_pos (by omega)]
    split
    · have e : len + n - 1 = (len - 0 - 1) + 1 * n := by omega
      rw [e, Int.add_mul_ediv_right _ _ (by omega)]
    · have e0 : len = 0 := by omega
      subst e0
      rw [Int.ediv_eq_zero_of_lt (by omega) (by omega)]
  refine ⟨⟨by omega, by omega, ?_, hrs⟩, hN, by omega⟩
  unfold PySem.Builtin.Range.small
  rw [hrs]
  generalize (len + n - 1) / n = q at hn2 hn3 hN
  simp only [PySem.Builtin.Range.rangeFitsLong, Bool.and_eq_true, Bool.or_eq_true, decide_eq_true_eq, beq_iff_eq]
  refine ⟨⟨⟨⟨by omega, by omega⟩, by omega⟩, by omega⟩, ?_⟩
  right
  rw [if_pos (by omega)]
  rw [Bool.and_eq_true, decide_eq_true_eq, decide_eq_true_eq]
  omega
theorem chunks_rg {n : Nat} (h : n ≤ 1000) : L2.RgC 0 n 40 ((n + 39) / 40) := by
  have e := (rg_up40 (len := (n : Int)) (n := 40) (by omega) (by omega) (by decide) (by decide)).1
  rw [show (((n : Int) + 40 - 1) / 40).toNat = (n + 39) / 40 by omega] at e
  exact e
theorem cutS_mid {p : List Nat} {i : Nat} (h : 40 * i < p.length) : cutS (stL p) (some ((i : Int) * 40)) (some ((i : Int) * 40 + 40)) = stL ((p.drop (40 * i)).take 40) := by
  rw [cut_st]
  have h0 : HT.sIx p.length 0 (some ((i : Int) * 40)) = 40 * i := by
    show (if (i : Int) * 40 < 0 then ((i : Int) * 40 + (p.length : Int)).toNat else min ((i : Int) * 40).toNat p.length) = _
    rw [if_neg (by omega)]
    omega
  have h1 : HT.sIx p.length p.length (some ((i : Int) * 40 + 40)) = min (40 * i + 40) p.length := by
    show (if (i : Int) * 40 + 40 < 0 then ((i : Int) * 40 + 40 + (p.length : Int)).toNat else min ((i : Int) * 40 + 40).toNat p.length) = _
    rw [if_neg (by omega)]
    omega
  rw [h0, h1]
  refine congrArg stL ?_
  rw [List.take_eq_take_iff, List.length_drop]
  omega
end KW

/-! set(xs) of few ints, told so that it can be sorted. -/
namespace KW
open PySem PySem.Spec PyProof.Rows L2
theorem nodup_sub {α : Type} [BEq α] [LawfulBEq α] : ∀ (l m : List α), l.Nodup → (∀ x ∈ l, x ∈ m) → l.length ≤ m.length
  | [], _, _, _ => Nat.zero_le _
  | x :: l, m, hn, h => by
    have hx := h x List.mem_cons_self
    obtain ⟨h1, h2⟩ := List.nodup_cons.mp hn
    have ih := nodup_sub l (m.erase x) h2 fun y hy => (List.mem_erase_of_ne (fun e => by subst e; exact h1 hy)).mpr (h y (List.mem_cons_of_mem _ hy))
    rw [List.length_erase_of_mem hx] at ih
    have : 0 < m.length := List.length_pos_of_mem hx
    rw [List.length_cons]
    omega
theorem setR_few {w : World} {h : Heap} {a : Addr} {S : Int → Bool} {n : Nat} {ns : List Int} (R : SetR w h a S n) (hS : ∀ k, S k = true → k ∈ ns) : n ≤ ns.length := by
  obtain ⟨o, es, ep, t, ho, hex, hd, g, nd, hm, hb, hf, hn, hr, hl⟩ := R
  have e := nodup_sub _ ns nd fun k hk => hS k ((hm k).mpr hk)
  rw [List.length_map, Array.length_toList] at e
  omega
section
variable {X : Cx}
/-- set(xs), all of them below M: it can be asked and sorted -/
def rSetF (K : PySem.W.Frag) (w : World) : List V → Hp → VK → Prop := fun xs H Q => ∃ (a : Addr) (ns : List Int) (M : Nat), xs = [.ref a] ∧ SqL K H a (ns.map V.int) ∧ M ≤ 4000 ∧ (∀ k ∈ ns, 0 ≤ k ∧ k < M) ∧ ∀ (p : Addr) (n : Nat), n ≤ ns.length → H p = none → Q (.ref p) (upd H p (SetO w p (fun k => decide (k ∈ ns)) n))
theorem call_setF (hc : X.calm = true) : CallR X (.type "set") (rSetF X.K X.w) := by
  intro pins s σ H xs us Q I r h
  obtain ⟨a, ns, M, rfl, ha, hM, hin, q⟩ := h
  obtain ⟨u, rfl, rx⟩ := vals1 r
  obtain rfl : u = Value.ref a := rx
  obtain ⟨its, r', pl, hz⟩ := I.list ha
  have hsz : its.toArray.size = ns.length := by
    have := r'.length
    rw [List.length_map] at this
    rw [List.size_toArray]; omega
  refine call_setR (ns := ns) (M := M) (I.ok.hd hc) pl.isList (ints_of_vals r') (by unfold scanBound; omega) (fun i hi => ?_) fun h' tk c R k => ?_
  · rw [hsz] at hi
    show 0 ≤ ns.getD i 0 ∧ ns.getD i 0 < (M : Int)
    rw [List.getD_eq_getElem?_getD, List.getElem?_eq_getElem hi]
    exact hin _ (List.getElem_mem hi)
  · rw [hsz] at R
    have R1 := R.congr (S' := fun k => decide (k ∈ ns)) fun k => (seenI_is ns k).symm
    exact ⟨.ref s.heap.objs.size, _, I.laid (fun b o e => k b o (Heap.lt_size e) e) (Nat.le_refl _) (setO_new R1), rfl, q _ c (setR_few R1 fun k hk => of_decide_eq_true hk) (I.hok.fresh (Nat.le_refl _))⟩
end
/-- xs[:1] -/
theorem cut_first {xs : List V} : cutV xs none (some 1) = xs.take 1 := by
  unfold cutV
  have e0 : HT.sIx xs.length 0 none = 0 := rfl
  have e1 : HT.sIx xs.length xs.length (some 1) = min 1 xs.length := by
    show (if (1 : Int) < 0 then ((1 : Int) + (xs.length : Int)).toNat else min (1 : Int).toNat xs.length) = _
    rw [if_neg (by decide)]
    rfl
  rw [e0, e1, List.drop_zero, Nat.sub_zero, List.take_eq_take_iff]
  omega
theorem greedyT_len {L : List Nat} {f : Int → Bool} {w : Nat} (hw : w ≤ 12) : (greedyT L f w).length ≤ 3 * L.length + 1 := by
  have key : ∀ (S : List (Nat × Nat × Nat)) (st : List (List V) × List Nat), (S.foldl (stT L f) st).1.length + (S.foldl (stT L f) st).2.length ≤ st.1.length + st.2.length + 2 * S.length := by
    intro S
    induction S with
    | nil => intro st; exact Nat.le_refl _
    | cons x S ih =>
      intro st
      rw [List.foldl_cons, List.length_cons]
      have h := ih (stT L f st x)
      have h1 : (stT L f st x).1.length + (stT L f st x).2.length ≤ st.1.length + st.2.length + 2 := by
        have hc : (cutT st.2).length ≤ st.2.length := by unfold cutT; rw [List.length_map, List.length_range]; omega
        rw [stT_is]
        have e1 : (st1 f st x).1.length + (st1 f st x).2.length ≤ st.1.length + st.2.length := by
          unfold st1
          split
          · show (st.1 ++ cutT st.2).length + 0 ≤ _
            rw [List.length_append]; omega
          · exact Nat.le_refl _
        have e2 : (st2 f st x).length ≤ (st1 f st x).1.length + 1 := by
          unfold st2
          split
          · rw [List.length_append]; exact Nat.le_refl _
          · omega
        split
        · show (st2 f st x ++ [[V.str "copy", V.int x.2.2, V.int x.2.1]]).length + (st1 f st x).2.length ≤ _
          rw [List.length_append, List.length_singleton]; omega
        · show (st2 f st x).length + ((st1 f st x).2 ++ [L.getD x.1 0]).length ≤ _
          rw [List.length_append, List.length_singleton]; omega
      omega
  have h := key (stepsK L f w 0) ([], [])
  have hl : (stepsK L f w 0).length ≤ L.length := stepsK_len (L.length - 0) 0
  unfold greedyT endT
  generalize (stepsK L f w 0).foldl (stT L f) ([], []) = S at h
  have h : S.1.length + S.2.length ≤ 0 + 0 + 2 * _ := h
  have hc : (cutT S.2).length ≤ S.2.length := by unfold cutT; rw [List.length_map, List.length_range]; omega
  rw [List.length_append, List.length_append]
  have : (if f (L.length : Nat) = true then [flT] else []).length ≤ 1 := by split <;> simp
  omega
end KW

/-! Keyword-only parameters; data with great ints. -/
namespace KW
open PySem PySem.Spec PyProof.Rows L2
section
variable {P : Program} {w : World} {K : PySem.W.Frag} {mg : Str → Option Value} {base : Heap} {x qual : Str} {params : Arguments} {body : List Stmt} {scope : Scope} {dvs : List V} {kws : List (Str × V)} {f : Addr} {fd : FuncData}
theorem _root_.L2.FunD.ok0 {N ps : List Str} {k : Nat} {sp : Sp} (F : FunD K x qual params body scope dvs kws f fd) (S : FnScope N ps scope) (len : ∀ vs H Q E, sp vs H Q E → vs.length = ps.length)
    (hbody : ∀ (cdv : Value) (A : Around) (outer : List Env) (s : Shared) (H : Hp) (vs : List V) (Q : VK) (E : XK), Room k (A.deeper (envOfC qual scope s.heap.objs.size f cdv)) → sp vs H Q E →
      ∃ t, PSs (cxOf CX0 P w K mg base N qual scope f cdv A outer s H E).nox body t ∧ t { nx := fun _ H' => Q .non H', rt := Q } (L2.start N vs) H) : FnOk P w K mg base CX0 (k + 1) f fd ps sp := by
  obtain ⟨oc, od, dV, kV, doc, pm, an, cdv, ct, osl, rfl, lk, hcd, _, _⟩ := F.ex
  refine fn_of lk hcd S len fun A outer s H vs Q E hr hsp => ?_
  obtain ⟨t, h, q⟩ := hbody cdv A outer s H vs Q E hr hsp
  exact ⟨t, h.nox, q⟩
theorem funD_mk {oc : Value} {od an : Option Addr} {osl : Array (Option Value)} {kd : Addr} {doc pm cdv ct : Value} (l : K.lookup f = some ⟨oc, od, .func (PySem.W.fnOf x qual params body scope .none (.ref kd) doc pm an cdv ct), osl⟩)
    (e : PySem.W.codeIn K cdv qual = true) (k : PySem.W.keepIn K (.ref f) = true) (h : ∀ q ∈ kws, ∃ u, PySem.W.nsIn K kd q.1 = some (some u) ∧ RelV q.2 u) : FunD K x qual params body scope [] kws f (PySem.W.fnOf x qual params body scope .none (.ref kd) doc pm an cdv ct) :=
  ⟨⟨oc, od, .none, .ref kd, doc, pm, an, cdv, ct, osl, rfl, l, e, .inl ⟨rfl, rfl⟩, .inr ⟨kd, rfl, h⟩⟩, k⟩
end
end KW
namespace KW
open PySem PySem.Spec PyProof.Rows L2
/-- data whose repr fits -/
structure ReprD (d : PyData) : Prop where
  lay : d.canLay0 = true
  deep : d.depth ≤ 64
  told : d.showable = true
  fit : d.shown.length ≤ sizeLine
theorem ReprD.shaped {d : PyData} (h : ReprD d) : SeqAt.shaped d = true := by
  unfold SeqAt.shaped
  rw [h.lay, decide_eq_true h.deep]
  rfl
theorem ReprD.noDict {d : PyData} (h : ReprD d) : d.hasDict = false := PyData.hasDict_of_canLay d h.lay
theorem Pl.reprD {d : PyData} (h : Pl 64 1000000 d) : ReprD d := ⟨h.lay, h.deep, h.told, h.fit⟩
section
variable {X : Cx}
theorem call_reprB (free : X.A.guards = some []) (room : X.A.units + 100 < cLine) : CallR X (.builtin "repr") (fun xs H Q => ∃ x d, xs = [x] ∧ Dp X.K H x d ∧ ReprD d ∧ Q (.str d.shown) H) := by
  intro pins s σ H xs us Q I r h
  obtain ⟨x, d, rfl, dp, pl, q⟩ := h
  obtain ⟨u, rfl, ru⟩ := vals1 r
  obtain ⟨as, rd⟩ := Dp.reads I d x u dp ru
  have fin : ∀ h' t tk, (∀ b o, s.heap.get? b = some o → h'.get? b = some o) → EP X pins σ Q (.str d.shown t) { s with heap := h', toks := tk } := fun h' t tk k => ⟨.str d.shown, H, I.kept k, ⟨_, rfl⟩, q⟩
  have fit := pl.fit
  cases rd with
  | none => exact PySem.P.repr_of_none (fin _ _ _ fun _ _ e => e)
  | bool b => exact PySem.P.repr_of_bool (fin _ _ _ fun _ _ e => e)
  | int i t => exact PySem.P.repr_of_int (by simpa [PyData.showable] using pl.told) (fin _ _ _ fun _ _ e => e)
  | str y t => exact PySem.P.repr_of_str (fin _ _ _ fun _ _ e => e) fit
  | list h1 h2 h3 h4 => exact repr_of_reads' (.list h1 h2 h3 h4) pl.told (fun e => by rw [pl.noDict] at e; cases e) free (by have := pl.deep; omega) (fun _ _ e => e) (fun h' u tk k => fin h' u tk k) fit
  | tuple h1 h2 h3 h4 => exact repr_of_reads' (.tuple h1 h2 h3 h4) pl.told (fun e => by rw [pl.noDict] at e; cases e) free (by have := pl.deep; omega) (fun _ _ e => e) (fun h' u tk k => fin h' u tk k) fit
  | dict h1 h2 h3 h4 h5 => have := pl.noDict; cases this
/-- x in a tuple of data -/
def rInDT (K : PySem.W.Frag) : R2 := fun x y H Q => ∃ d ds, Dp K H x d ∧ Dp K H y (.tuple ds) ∧ SeqAt.shaped d = true ∧ SeqAt.shaped (.list ds) = true ∧ Q (.bl (ds.any fun z => PyData.eqv z d)) H
theorem op_inDT (hu : X.A.units + 65 < cLine) : OpR X (compareOp .In) (rInDT X.K) := by
  intro pins s σ H x y v u Q I rx ry h
  obtain ⟨d, ds, hd, he, sd, se, q⟩ := h
  obtain ⟨as, r1⟩ := Dp.reads I d x v hd rx
  obtain ⟨bs, r2⟩ := Dp.reads I (.tuple ds) y u he ry
  exact SeqAt.in_tuple_reads r2 r1 (SeqAt.canLay_of_shaped se) (SeqAt.canLay_of_shaped sd) (room_in_shaped sd hu) ⟨.bl _, H, I, rfl, q⟩
end
/-- a list of ints, great ones among them -/
theorem great_one {i : Int} (h0 : 0 ≤ i) (h1 : i < 10 ^ 24) : (PyData.shown (.int i)).length ≤ 25 ∧ PyData.weight (.int i) ≤ 80 ∧ PyData.showable (.int i) = true := by
  have hn : i.natAbs < 10 ^ 24 := by omega
  have hl : i.natAbs.log2 < 80 := by
    by_cases e : i.natAbs = 0
    · rw [e]; decide
    · exact (Nat.log2_lt e).mpr (by omega)
  refine ⟨?_, ?_, ?_⟩
  · have e := int_text_length_le10 (k := 24) (by decide) hn
    show (Str.ofString (toString i)).length ≤ 25
    rw [PySem.ofString_length]; exact e
  · show (if i == 0 then 0 else i.natAbs.log2 + 1) ≤ 80
    split <;> omega
  · simp only [PyData.showable, decide_eq_true_eq]
    show i.natAbs.log2 < 1920
    omega
theorem great_list {ns : List Int} (h : ∀ n ∈ ns, 0 ≤ n ∧ n < 10 ^ 24) : PyData.canLayAll0 (ns.map .int) = true ∧ PyData.depthAll (ns.map .int) = 0 ∧ PyData.weightAll (ns.map .int) ≤ 81 * ns.length ∧ PyData.showableAll (ns.map .int) = true ∧ PyData.intsShortAll 25 (ns.map .int) = true := by
  induction ns with
  | nil => exact ⟨rfl, rfl, Nat.le_refl _, rfl, rfl⟩
  | cons n r ih =>
    obtain ⟨a, b, c, d, e⟩ := ih fun m hm => h m (List.mem_cons_of_mem _ hm)
    have hn := h n List.mem_cons_self
    obtain ⟨g1, g2, g3⟩ := great_one hn.1 hn.2
    rw [List.map_cons]
    refine ⟨?_, ?_, ?_, ?_, ?_⟩
    · simp only [PyData.canLayAll0, PyData.canLay0, a, Bool.and_self]
    · simp only [PyData.depthAll, PyData.depth, b]; rfl
    · simp only [PyData.weightAll, List.length_cons]; omega
    · simp only [PyData.showableAll, g3, d, Bool.and_self]
    · simp only [PyData.intsShortAll, PyData.intsShort, e, decide_eq_true g1, Bool.and_self]
theorem great_pair {p : Int} {ns : List Int} (hp : 0 ≤ p ∧ p < 10 ^ 24) (h : ∀ n ∈ ns, 0 ≤ n ∧ n < 10 ^ 24) (hl : ns.length ≤ 401) : ReprD (.list [.int p, .list (ns.map .int)]) := by
  obtain ⟨a, b, c, d, e⟩ := great_list h
  obtain ⟨g1, g2, g3⟩ := great_one hp.1 hp.2
  have hlay : PyData.canLay0 (.list [.int p, .list (ns.map .int)]) = true := by simp only [PyData.canLay0, PyData.canLayAll0, a, Bool.and_self]
  have hsm : PyData.intsShort 25 (.list [.int p, .list (ns.map .int)]) = true := by simp only [PyData.intsShort, PyData.intsShortAll, e, decide_eq_true g1, Bool.and_self]
  have hw : PyData.weight (.list [.int p, .list (ns.map .int)]) ≤ 33000 := by
    simp only [PyData.weight, PyData.weightAll]
    have g2' : (if (p == 0) = true then 0 else p.natAbs.log2 + 1) ≤ 80 := g2
    omega
  refine ⟨hlay, ?_, ?_, ?_⟩
  · simp only [PyData.depth, PyData.depthAll, b]; decide
  · simp only [PyData.showable, PyData.showableAll] at *
    simp only [g3, d, Bool.and_self]
  · have e2 := PyData.shown_le 25 (by decide) _ (PyData.leavesShort_of_canLay0 25 _ hlay hsm)
    refine szl ?_
    omega
end KW
namespace KW
open PySem L2
theorem uE65 {A : Around} {k : Nat} (hr : Room k A) : A.units + 65 < cLine := by have := hr.un; omega
end KW

/-! Streams of any steps: what they write, what they cost; least numbers. -/
namespace KW
open PySem L2
/-- a step that may be taken: one sign, or a copy -/
def StepOk (L : List Nat) (f : Int → Bool) (w k n d : Nat) : Prop := (n = 1 ∧ d = 0 ∧ k < L.length) ∨ (1 ≤ d ∧ d ≤ w ∧ 1 ≤ n ∧ n ≤ runF L f d 40 k)
inductive Chain (L : List Nat) (f : Int → Bool) (w : Nat) : Nat → List (Nat × Nat × Nat) → Nat → Prop where
  | nil {k : Nat} : Chain L f w k [] k
  | cons {k n d e : Nat} {S : List (Nat × Nat × Nat)} : StepOk L f w k n d → Chain L f w (k + n) S e → Chain L f w k ((k, n, d) :: S) e
theorem StepOk.inside {L : List Nat} {f : Int → Bool} {w k n d : Nat} (h : StepOk L f w k n d) : k < L.length ∧ k + n ≤ L.length ∧ 1 ≤ n ∧ n ≤ 40 ∧ d ≤ max w 0 := by
  rcases h with ⟨rfl, rfl, h⟩ | ⟨h1, h2, h3, h4⟩
  · omega
  · have hg := runF_good (L := L) (f := f) (d := d) 40 k (n - 1) (by omega)
    have := (good_iff.mp hg).1
    have := runF_le L f d 40 k
    omega
theorem Chain.steps {L : List Nat} {f : Int → Bool} {w : Nat} : ∀ {S : List (Nat × Nat × Nat)} {k e : Nat}, Chain L f w k S e → k + S.length ≤ e ∧ ∀ x ∈ S, x.1 < L.length ∧ 1 ≤ x.2.1 ∧ x.2.1 ≤ 40 ∧ x.2.2 ≤ w
  | _, k, _, .nil => ⟨Nat.le_refl _, fun _ h => nomatch h⟩
  | _, k, _, .cons h t => by
    obtain ⟨a, b⟩ := t.steps
    have i := h.inside
    refine ⟨by rw [List.length_cons]; omega, fun x hx => ?_⟩
    rcases List.mem_cons.mp hx with rfl | hx
    · exact ⟨i.1, i.2.2.1, i.2.2.2.1, Nat.le_trans i.2.2.2.2 (by omega)⟩
    · exact b x hx
theorem wrote_gen {z : Str} {L : List Nat} {f : Int → Bool} {w k n d : Nat} {S : List (List V) × List Nat} (hL : ∀ c ∈ L, c ∈ cl z) (hw : w ≤ 12) (hs : StepOk L f w k n d) (W : Wr z L f w k (kb f (k - 1)) k S) :
    Wr z L f w (k + n) (kb f (k + n - 1)) ((k + n : Nat) : Int) (stT L f S (k, n, d)) := by
  obtain ⟨F, p⟩ := S
  have hin := hs.inside
  have mid : ∀ {G : List (List V)} {r : List Nat}, Wr z L f w k (kb f k) ((k : Int) + 1) (G, r) → (r = [] ∨ d = 0) →
      Wr z L f w (k + n) (kb f (k + n - 1)) ((k + n : Nat) : Int) (if 0 < d then (G ++ [[.str "copy", .int d, .int n]], r) else (G, r ++ [L.getD k 0])) := by
    intro G r W1 hr
    rcases hs with ⟨rfl, rfl, h⟩ | ⟨h1, h2, h3, h4⟩
    · rw [if_neg (by decide)]
      exact W1.sign hL h
    · have hg : ∀ i, i < n → good L f d (k + i) = true := fun i hi => runF_good 40 k i (by omega)
      have hkb := kb_run (L := L) (f := f) (k := k) h1 n hg
      rcases hr with rfl | hr
      · rw [if_pos (show 0 < d by omega)]
        have g0 := (good_iff.mp (hg 0 (by omega))).2.1
        rw [Nat.add_zero] at g0
        have q : kb f (k + n - 1) = kb f k := by
          have := hkb (n - 1) (by omega)
          rw [show k + (n - 1) = k + n - 1 by omega] at this
          exact this
        rw [q]
        refine Wr.grow (e := (k : Int) + 1) (Wr.copy W1 (by omega) hw h3 (by omega) h1 h2 g0 fun i hi => (good_iff.mp (hg i hi)).2.2) fun m hm h0 => ?_
        constructor
        · intro h; omega
        · intro h
          by_cases hmk : m < (k : Int) + 1
          · exact hmk
          · obtain ⟨i, hi⟩ : ∃ i : Nat, m = ((k + i : Nat) : Int) := ⟨(m - k).toNat, by omega⟩
            subst hi
            have := hkb i (by omega)
            rw [kb_at hm] at this
            have := kb_le f k
            omega
      · omega
  by_cases hf : f (k : Nat) = true
  · have e : stT L f (F, p) (k, n, d) = (if 0 < d then (F ++ cutT p ++ [flT] ++ [[.str "copy", .int d, .int n]], []) else (F ++ cutT p ++ [flT], [] ++ [L.getD k 0])) := by
      unfold stT
      simp only [hf, true_or, if_true]
    rw [e]
    refine mid ?_ (.inl rfl)
    rw [kb_at hf]
    exact Wr.flush W.cut hf
  · have W1 : ∀ {S}, Wr z L f w k (kb f (k - 1)) k S → Wr z L f w k (kb f k) ((k : Int) + 1) S := fun W => by
      rw [kb_not hf]
      refine W.grow fun m hm h0 => ?_
      constructor
      · intro h; omega
      · intro h
        by_cases hmk : m < (k : Int)
        · exact hmk
        · have e : m = k := by omega
          subst e
          exact absurd hm hf
    by_cases hd : 0 < d
    · have e : stT L f (F, p) (k, n, d) = (if 0 < d then (F ++ cutT p ++ [[.str "copy", .int d, .int n]], []) else (F ++ cutT p, [] ++ [L.getD k 0])) := by
        unfold stT
        simp only [hf, hd, or_true, if_true, Bool.false_eq_true, if_false]
      rw [e]
      exact mid (W1 W.cut) (.inl rfl)
    · have e : stT L f (F, p) (k, n, d) = (if 0 < d then (F ++ [[.str "copy", .int d, .int n]], p) else (F, p ++ [L.getD k 0])) := by
        unfold stT
        simp only [hf, hd, or_false, Bool.false_eq_true, if_false]
      rw [e]
      exact mid (W1 W) (.inr (by omega))
theorem wrote_chain {z : Str} {L : List Nat} {f : Int → Bool} {w : Nat} (hL : ∀ c ∈ L, c ∈ cl z) (hw : w ≤ 12) : ∀ (S : List (Nat × Nat × Nat)) (k e : Nat) (st : List (List V) × List Nat), Chain L f w k S e → Wr z L f w k (kb f (k - 1)) k st → Wr z L f w e (kb f (e - 1)) e (S.foldl (stT L f) st) := by
  intro S k e st c
  induction c generalizing st with
  | nil => exact fun W => W
  | cons h t ih => exact fun W => ih _ (wrote_gen hL hw h W)
/-- what a chain from 0 to the end writes -/
theorem chain_ok {z : Str} {L : List Nat} {f : Int → Bool} {w : Nat} {S : List (Nat × Nat × Nat)} (hL : ∀ c ∈ L, c ∈ cl z) (hw : w ≤ 12) (hS : Chain L f w 0 S L.length) :
    (∀ t ∈ endT L f (S.foldl (stT L f) ([], [])), TokW z w t) ∧ (∃ kl, readT w (endT L f (S.foldl (stT L f) ([], []))) [] 0 = some (L, kl)) ∧ (posA (endT L f (S.foldl (stT L f) ([], []))) 0).Pairwise (· < ·) ∧ ∀ m, m ∈ posA (endT L f (S.foldl (stT L f) ([], []))) 0 ↔ (f m = true ∧ 0 ≤ m ∧ m ≤ (L.length : Int)) := by
  have W := wrote_chain (f := f) (w := w) hL hw _ _ _ _ hS Wr.start
  have W1 := W.cut
  unfold endT
  generalize S.foldl (stT L f) ([], []) = S at W1
  have r1 : readT w (S.1 ++ cutT S.2) [] 0 = some (L.take (L.length - 0), min w (L.length - 0 - kb f (L.length - 1))) := W1.read
  rw [show L.length - 0 = L.length from rfl, List.take_length] at r1
  by_cases hf : f (L.length : Nat) = true
  · rw [if_pos hf]
    have W2 := Wr.flush W1 hf
    refine ⟨W2.ok, ⟨min w (L.length - 0 - L.length), ?_⟩, W2.asc, fun m => ?_⟩
    · have r := W2.read
      have r : readT w (S.1 ++ cutT S.2 ++ [flT]) [] 0 = some (L.take (L.length - 0), _) := r
      rw [show L.length - 0 = L.length from rfl, List.take_length] at r
      exact r
    · have p := W2.pos m
      have p : m ∈ posA (S.1 ++ cutT S.2 ++ [flT]) 0 ↔ _ := p
      rw [p]
      constructor
      · rintro ⟨a, b, c⟩; exact ⟨a, b, by omega⟩
      · rintro ⟨a, b, c⟩; exact ⟨a, b, by omega⟩
  · rw [if_neg hf, List.append_nil]
    refine ⟨W1.ok, ⟨_, r1⟩, W1.asc, fun m => ?_⟩
    have p := W1.pos m
    have p : m ∈ posA (S.1 ++ cutT S.2) 0 ↔ _ := p
    rw [p]
    constructor
    · rintro ⟨a, b, c⟩; exact ⟨a, b, by omega⟩
    · rintro ⟨a, b, c⟩
      refine ⟨a, b, ?_⟩
      by_cases h : m = L.length
      · subst h; exact absurd a hf
      · omega
theorem endT_len {L : List Nat} {f : Int → Bool} {S : List (Nat × Nat × Nat)} : (endT L f (S.foldl (stT L f) ([], []))).length ≤ 2 * S.length + 1 := by
  have key : ∀ (S : List (Nat × Nat × Nat)) (st : List (List V) × List Nat), (S.foldl (stT L f) st).1.length + (S.foldl (stT L f) st).2.length ≤ st.1.length + st.2.length + 2 * S.length := by
    intro S
    induction S with
    | nil => intro st; exact Nat.le_refl _
    | cons x S ih =>
      intro st
      rw [List.foldl_cons, List.length_cons]
      have h := ih (stT L f st x)
      have h1 : (stT L f st x).1.length + (stT L f st x).2.length ≤ st.1.length + st.2.length + 2 := by
        have hc : (cutT st.2).length ≤ st.2.length := by unfold cutT; rw [List.length_map, List.length_range]; omega
        rw [stT_is]
        have e1 : (st1 f st x).1.length + (st1 f st x).2.length ≤ st.1.length + st.2.length := by
          unfold st1
          split
          · show (st.1 ++ cutT st.2).length + 0 ≤ _
            rw [List.length_append]; omega
          · exact Nat.le_refl _
        have e2 : (st2 f st x).length ≤ (st1 f st x).1.length + 1 := by
          unfold st2
          split
          · rw [List.length_append]; exact Nat.le_refl _
          · omega
        split
        · show (st2 f st x ++ [[V.str "copy", V.int x.2.2, V.int x.2.1]]).length + (st1 f st x).2.length ≤ _
          rw [List.length_append, List.length_singleton]; omega
        · show (st2 f st x).length + ((st1 f st x).2 ++ [L.getD x.1 0]).length ≤ _
          rw [List.length_append, List.length_singleton]; omega
      omega
  have h := key S ([], [])
  unfold endT
  generalize S.foldl (stT L f) ([], []) = St at h
  have h : St.1.length + St.2.length ≤ 0 + 0 + 2 * _ := h
  have hc : (cutT St.2).length ≤ St.2.length := by unfold cutT; rw [List.length_map, List.length_range]; omega
  rw [List.length_append, List.length_append]
  have : (if f (L.length : Nat) = true then [flT] else []).length ≤ 1 := by split <;> simp
  omega
/-! ### prices -/
def costT (ps pc : Int) : List V → Int
  | [.str _] => 0
  | [.str _, .str y] => ps * (y.length : Int)
  | _ => pc
def costL (ps pc : Int) (ts : List (List V)) : Int := (ts.map (costT ps pc)).sum
theorem costL_app {ps pc : Int} (a b : List (List V)) : costL ps pc (a ++ b) = costL ps pc a + costL ps pc b := by
  unfold costL
  rw [List.map_append, List.sum_append]
theorem costL_one {ps pc : Int} (t : List V) : costL ps pc [t] = costT ps pc t := by
  unfold costL
  simp
theorem cut_cost {ps pc : Int} {p : List Nat} : ∀ (m i : Nat), i + m = (p.length + 39) / 40 → costL ps pc ((List.range' i m).map fun i => [V.str "text", V.str (stL ((p.drop (40 * i)).take 40))]) = ps * ((p.length - 40 * i : Nat) : Int)
  | 0, i, h => by
    rw [show p.length - 40 * i = 0 by omega]
    show (0 : Int) = ps * ((0 : Nat) : Int)
    simp
  | m + 1, i, h => by
    have ih := cut_cost (ps := ps) (pc := pc) (p := p) m (i + 1) (by omega)
    rw [List.range'_succ, List.map_cons, show ∀ (t : List V) (ts : List (List V)), t :: ts = [t] ++ ts from fun _ _ => rfl, costL_app, costL_one, ih]
    show ps * ((stL ((p.drop (40 * i)).take 40)).length : Int) + _ = _
    rw [stL_len, List.length_take, List.length_drop, ← Int.mul_add]
    congr 1
    omega
theorem cutT_cost {ps pc : Int} {p : List Nat} : costL ps pc (cutT p) = ps * (p.length : Int) := by
  unfold cutT
  rw [List.range_eq_range', cut_cost ((p.length + 39) / 40) 0 (by omega)]
  simp
def stepC (ps pc : Int) (x : Nat × Nat × Nat) : Int := if x.2.2 = 0 then ps else pc
theorem fold_cost {L : List Nat} {f : Int → Bool} {ps pc : Int} : ∀ (S : List (Nat × Nat × Nat)) (st : List (List V) × List Nat), costL ps pc (S.foldl (stT L f) st).1 + ps * ((S.foldl (stT L f) st).2.length : Int) = costL ps pc st.1 + ps * (st.2.length : Int) + (S.map (stepC ps pc)).sum
  | [], st => by simp
  | x :: S, st => by
    rw [List.foldl_cons, fold_cost S, List.map_cons, List.sum_cons]
    have h1 : costL ps pc (stT L f st x).1 + ps * ((stT L f st x).2.length : Int) = costL ps pc st.1 + ps * (st.2.length : Int) + stepC ps pc x := by
      rw [stT_is]
      have e1 : costL ps pc (st1 f st x).1 + ps * ((st1 f st x).2.length : Int) = costL ps pc st.1 + ps * (st.2.length : Int) := by
        unfold st1
        split
        · show costL ps pc (st.1 ++ cutT st.2) + ps * ((0 : Nat) : Int) = _
          rw [costL_app, cutT_cost]
          simp
        · rfl
      have e2 : costL ps pc (st2 f st x) = costL ps pc (st1 f st x).1 := by
        unfold st2
        split
        · rw [costL_app, costL_one]
          show _ + 0 = _
          omega
        · rfl
      unfold stepC
      by_cases hd : 0 < x.2.2
      · rw [if_pos hd, if_neg (by omega)]
        show costL ps pc (st2 f st x ++ [[V.str "copy", V.int x.2.2, V.int x.2.1]]) + ps * ((st1 f st x).2.length : Int) = _
        rw [costL_app, costL_one, e2]
        show _ + pc + _ = _
        omega
      · rw [if_neg hd, if_pos (by omega)]
        show costL ps pc (st2 f st x) + ps * (((st1 f st x).2 ++ [L.getD x.1 0]).length : Int) = _
        rw [e2, List.length_append, List.length_singleton, Int.natCast_add, Int.mul_add]
        show _ + (_ + ps * 1) = _
        omega
    omega
theorem end_cost {L : List Nat} {f : Int → Bool} {ps pc : Int} (S : List (Nat × Nat × Nat)) : costL ps pc (endT L f (S.foldl (stT L f) ([], []))) = (S.map (stepC ps pc)).sum := by
  have h := fold_cost (L := L) (f := f) (ps := ps) (pc := pc) S ([], [])
  have h : _ = (0 : Int) + ps * ((0 : Nat) : Int) + _ := h
  unfold endT
  rw [costL_app, costL_app, cutT_cost]
  have : costL ps pc (if f (L.length : Nat) = true then [flT] else []) = 0 := by split <;> rfl
  rw [this]
  simp at h
  omega
/-! ### least numbers -/
section
variable (L : List Nat) (f : Int → Bool) (w : Nat) (ps pc : Int)
/-- so many signs from k on are a copy -/
abbrev runW (k : Nat) : Nat := (bestUp L f k w).1
/-- a way to the end e from the place k -/
def Cand (g : Nat → Int) (k e : Nat) (x : Int) : Prop := (e = k + 1 ∧ x = g k + ps) ∨ (k < e ∧ e ≤ k + runW L f w k ∧ x = g k + pc)
def Opt (g : Nat → Int) (m e : Nat) (x : Int) : Prop := ∃ k, k < m ∧ Cand L f w ps pc g k e x
/-- the least of what holds, None if nothing does -/
def MinO (P : Int → Prop) (o : Option Int) : Prop := (o = none → ∀ y, ¬ P y) ∧ ∀ x, o = some x → P x ∧ ∀ y, P y → x ≤ y
def NumTo (g : Nat → Int) (m : Nat) : Prop := g 0 = 0 ∧ ∀ e, 1 ≤ e → e ≤ m → MinO (Opt L f w ps pc g e e) (some (g e))
end
theorem MinO.more {P : Int → Prop} {o : Option Int} {v : Int} (h : MinO P o) : MinO (fun y => P y ∨ y = v) (some (match o with | none => v | some x => if v < x then v else x)) := by
  refine ⟨fun e => (nomatch e), fun x e => ?_⟩
  injection e with e
  subst e
  cases o with
  | none =>
    refine ⟨.inr rfl, fun y hy => ?_⟩
    rcases hy with hy | rfl
    · exact absurd hy (h.1 rfl y)
    · exact Int.le_refl _
  | some x =>
    obtain ⟨h1, h2⟩ := h.2 x rfl
    show (P (if v < x then v else x) ∨ (if v < x then v else x) = v) ∧ ∀ y, P y ∨ y = v → (if v < x then v else x) ≤ y
    refine ⟨?_, fun y hy => ?_⟩
    · split
      · exact .inr rfl
      · exact .inl h1
    · rcases hy with hy | rfl
      · have := h2 y hy
        split <;> omega
      · split <;> omega
theorem MinO.same {P P' : Int → Prop} {o : Option Int} (h : MinO P o) (e : ∀ y, P y ↔ P' y) : MinO P' o :=
  ⟨fun ho y hy => h.1 ho y ((e y).mpr hy), fun x hx => ⟨(e x).mp (h.2 x hx).1, fun y hy => (h.2 x hx).2 y ((e y).mpr hy)⟩⟩
theorem MinO.uniq {P : Int → Prop} {x y : Int} (h : MinO P (some x)) (h' : MinO P (some y)) : x = y := by
  have a := (h.2 x rfl).2 y (h'.2 y rfl).1
  have b := (h'.2 y rfl).2 x (h.2 x rfl).1
  omega
theorem Opt.same {L : List Nat} {f : Int → Bool} {w : Nat} {ps pc : Int} {g h : Nat → Int} {m e : Nat} (eq : ∀ k, k < m → g k = h k) (x : Int) : Opt L f w ps pc g m e x ↔ Opt L f w ps pc h m e x := by
  unfold Opt Cand
  constructor
  · rintro ⟨k, hk, r⟩; exact ⟨k, hk, by rw [← eq k hk]; exact r⟩
  · rintro ⟨k, hk, r⟩; exact ⟨k, hk, by rw [eq k hk]; exact r⟩
theorem num_uniq {L : List Nat} {f : Int → Bool} {w : Nat} {ps pc : Int} {g h : Nat → Int} {m : Nat} (a : NumTo L f w ps pc g m) (b : NumTo L f w ps pc h m) : ∀ e, e ≤ m → g e = h e := by
  intro e
  induction e using Nat.strongRecOn with
  | _ e ih =>
    intro he
    cases e with
    | zero => rw [a.1, b.1]
    | succ e =>
      have h1 := a.2 (e + 1) (by omega) he
      have h2 := b.2 (e + 1) (by omega) he
      exact h1.uniq (h2.same fun y => (Opt.same (fun k hk => ih k hk (by omega)) y).symm)
/-- places behind the end tell nothing of it -/
theorem Opt.cut {L : List Nat} {f : Int → Bool} {w : Nat} {ps pc : Int} {g : Nat → Int} {m e : Nat} (h : e ≤ m) (x : Int) : Opt L f w ps pc g m e x ↔ Opt L f w ps pc g e e x := by
  unfold Opt Cand
  constructor
  · rintro ⟨k, hk, r⟩
    refine ⟨k, ?_, r⟩
    rcases r with r | r <;> omega
  · rintro ⟨k, hk, r⟩; exact ⟨k, by omega, r⟩
/-- the places from which one copy writes the signs up to e -/
def cbs (L : List Nat) (f : Int → Bool) (w e : Nat) : List Nat := (List.range' (e - 40) (e - (e - 40))).filter fun k => decide (e ≤ k + (bestUp L f k w).1)
theorem best_step {L : List Nat} {f : Int → Bool} {w k e : Nat} (h : k < e) (he : e ≤ k + (bestUp L f k w).1) : StepOk L f w k (e - k) (bestUp L f k w).2 ∧ (bestUp L f k w).2 ≠ 0 := by
  obtain ⟨_, h1⟩ := best_is (L := L) (f := f) (k := k) w
  rcases h1 with h1 | ⟨a, b, c⟩
  · rw [h1] at he
    have : e ≤ k + 0 := he
    omega
  · exact ⟨.inr ⟨a, b, by omega, by omega⟩, by omega⟩
theorem cbs_mem {L : List Nat} {f : Int → Bool} {w e k : Nat} : k ∈ cbs L f w e ↔ k < e ∧ e ≤ k + runW L f w k := by
  have h := (best_is (L := L) (f := f) (k := k) w).1
  unfold cbs runW
  rw [List.mem_filter, List.mem_range'_1, decide_eq_true_iff]
  constructor
  · rintro ⟨⟨a, b⟩, c⟩; exact ⟨by omega, c⟩
  · rintro ⟨a, c⟩; exact ⟨⟨by omega, by omega⟩, c⟩
theorem Opt.cbs {L : List Nat} {f : Int → Bool} {w : Nat} {ps pc : Int} {g : Nat → Int} {e : Nat} (y : Int) : Opt L f w ps pc g (e + 1) (e + 1) y ↔ (y = g e + ps ∨ ∃ k ∈ cbs L f w (e + 1), y = g k + pc) := by
  unfold Opt Cand
  constructor
  · rintro ⟨k, hk, ⟨h1, h2⟩ | ⟨h1, h2, h3⟩⟩
    · have : k = e := by omega
      subst this
      exact .inl h2
    · exact .inr ⟨k, cbs_mem.mpr ⟨h1, h2⟩, h3⟩
  · rintro (h | ⟨k, hk, h⟩)
    · exact ⟨e, by omega, .inl ⟨rfl, h⟩⟩
    · have := cbs_mem.mp hk
      exact ⟨k, this.1, .inr ⟨this.1, this.2, h⟩⟩
theorem num_next {L : List Nat} {f : Int → Bool} {w : Nat} {ps pc : Int} {ns : List Int} {m : Nat} {x : Int} (hn : ns.length = m + 1) (h : NumTo L f w ps pc (fun i => ns.getD i 0) m) (hx : MinO (Opt L f w ps pc (fun i => ns.getD i 0) (m + 1) (m + 1)) (some x)) : NumTo L f w ps pc (fun i => (ns ++ [x]).getD i 0) (m + 1) := by
  have old : ∀ k, k < m + 1 → ns.getD k 0 = (ns ++ [x]).getD k 0 := fun k hk => by
    rw [List.getD_eq_getElem?_getD, List.getD_eq_getElem?_getD, List.getElem?_append_left (by omega)]
  refine ⟨?_, fun e h1 h2 => ?_⟩
  · show (ns ++ [x]).getD 0 0 = 0
    rw [← old 0 (by omega)]
    exact h.1
  · by_cases he : e ≤ m
    · have := h.2 e h1 he
      show MinO _ (some ((ns ++ [x]).getD e 0))
      rw [← old e (by omega)]
      exact this.same fun y => Opt.same (fun k hk => old k (by omega)) y
    · have : e = m + 1 := by omega
      subst this
      show MinO _ (some ((ns ++ [x]).getD (m + 1) 0))
      rw [show (ns ++ [x]).getD (m + 1) 0 = x by rw [← hn, List.getD_eq_getElem?_getD, List.getElem?_append_right (by omega)]; simp]
      exact hx.same fun y => Opt.same (fun k hk => old k hk) y
/-- the way to an end that a lead tells -/
def LeadOk (L : List Nat) (f : Int → Bool) (w : Nat) (ps pc : Int) (g : Nat → Int) (e : Nat) (x : Int) (y : Nat × Nat) : Prop := y.1 < e ∧ StepOk L f w y.1 (e - y.1) y.2 ∧ x = g y.1 + (if y.2 = 0 then ps else pc)
theorem chain_cost {L : List Nat} {f : Int → Bool} {w : Nat} {ps pc : Int} {g : Nat → Int} {leads : List (Nat × Nat)} (hl : ∀ e y, 1 ≤ e → leads[e]? = some y → LeadOk L f w ps pc g e (g e) y) {k e : Nat} {S : List (Nat × Nat × Nat)} (c : Chain L f w k S e) (hS : ∀ x ∈ S, leads[x.1 + x.2.1]? = some (x.1, x.2.2)) : g e = g k + (S.map (stepC ps pc)).sum := by
  induction c with
  | nil => simp
  | @cons k n d e S h t ih =>
    have i := h.inside
    have h1 := hl (k + n) (k, d) (by omega) (hS _ (List.mem_cons_self ..))
    have h2 : g (k + n) = g k + (if d = 0 then ps else pc) := h1.2.2
    rw [ih fun x hx => hS x (List.mem_cons_of_mem _ hx), List.map_cons, List.sum_cons, h2]
    show g k + _ + _ = g k + ((if d = 0 then ps else pc) + _)
    omega
theorem LeadOk.same {L : List Nat} {f : Int → Bool} {w : Nat} {ps pc : Int} {g h : Nat → Int} {e : Nat} {x : Int} {y : Nat × Nat} (eq : ∀ k, k < e → g k = h k) (l : LeadOk L f w ps pc g e x y) : LeadOk L f w ps pc h e x y := ⟨l.1, l.2.1, by rw [← eq _ l.1]; exact l.2.2⟩
theorem getD_old {ns : List Int} {x : Int} {k : Nat} (h : k < ns.length) : ns.getD k 0 = (ns ++ [x]).getD k 0 := by
  rw [List.getD_eq_getElem?_getD, List.getD_eq_getElem?_getD, List.getElem?_append_left h]
theorem getD_new {ns : List Int} {x : Int} {k : Nat} (h : ns.length = k) : (ns ++ [x]).getD k 0 = x := by
  rw [← h, List.getD_eq_getElem?_getD, List.getElem?_append_right (Nat.le_refl _)]; simp
theorem at_endN {ns : List Int} {m : Nat} (h : ns.length = m + 1) : atI (ns.map V.int) (-1) = some (V.int (ns.getD m 0)) := by
  have hne : ns ≠ [] := fun e => by rw [e] at h; cases h
  have e := List.dropLast_concat_getLast hne
  have hl : ns.dropLast.length = m := by rw [List.length_dropLast]; omega
  rw [← e, List.map_append, getD_new hl]
  exact atI_last _ _
/-! ### least numbers, place by place -/
def vO : Option Int → V
  | none => .non
  | some x => .int x
def esN (m r : Nat) (x y : Int) : List (Nat × Int) := (m + 1, x) :: (List.range r).map fun k => (m + 1 + k, y)
theorem Opt.entry {L : List Nat} {f : Int → Bool} {w : Nat} {ps pc : Int} {g : Nat → Int} {m e : Nat} (y : Int) : (Opt L f w ps pc g m e y ∨ ∃ t ∈ esN m (runW L f w m) (g m + ps) (g m + pc), t.1 = e ∧ y = t.2) ↔ Opt L f w ps pc g (m + 1) e y := by
  unfold Opt Cand esN
  constructor
  · rintro (⟨k, hk, r⟩ | ⟨t, ht, rfl, rfl⟩)
    · exact ⟨k, by omega, r⟩
    · rcases List.mem_cons.mp ht with rfl | ht
      · exact ⟨m, by omega, .inl ⟨rfl, rfl⟩⟩
      · obtain ⟨k, hk, rfl⟩ := List.mem_map.mp ht
        have hk := List.mem_range.mp hk
        exact ⟨m, by omega, .inr ⟨by show m < m + 1 + k; omega, by show m + 1 + k ≤ _; omega, rfl⟩⟩
  · rintro ⟨k, hk, r⟩
    by_cases e1 : k < m
    · exact .inl ⟨k, e1, r⟩
    · have : k = m := by omega
      subst this
      rcases r with ⟨rfl, rfl⟩ | ⟨a, b, rfl⟩
      · exact .inr ⟨_, List.mem_cons_self .., rfl, rfl⟩
      · exact .inr ⟨(k + 1 + (e - (k + 1)), g k + pc), List.mem_cons_of_mem _ (List.mem_map.mpr ⟨e - (k + 1), List.mem_range.mpr (by omega), rfl⟩), by show k + 1 + (e - (k + 1)) = e; omega, rfl⟩
def gO (os : List (Option Int)) (e : Nat) : Int := (os.getD e none).getD 0
/-- all numbers as the places before m tell them -/
def NumAt (L : List Nat) (f : Int → Bool) (w : Nat) (ps pc : Int) (m : Nat) (os : List (Option Int)) : Prop := os.length = L.length + 1 ∧ os.getD 0 none = some 0 ∧ ∀ e, 1 ≤ e → e ≤ L.length → MinO (Opt L f w ps pc (gO os) m e) (os.getD e none)
theorem NumAt.start {L : List Nat} {f : Int → Bool} {w : Nat} {ps pc : Int} : NumAt L f w ps pc 0 (some 0 :: List.replicate L.length none) := by
  refine ⟨by rw [List.length_cons, List.length_replicate], rfl, fun e h1 h2 => ?_⟩
  have e0 : (some 0 :: List.replicate L.length (none : Option Int)).getD e none = none := by
    obtain ⟨j, rfl⟩ : ∃ j, e = j + 1 := ⟨e - 1, by omega⟩
    rw [List.getD_cons_succ, List.getD_eq_getElem?_getD, List.getElem?_replicate]
    split <;> rfl
  rw [e0]
  exact ⟨fun _ y hy => by obtain ⟨k, hk, _⟩ := hy; omega, fun x h => by cases h⟩
theorem NumAt.known {L : List Nat} {f : Int → Bool} {w : Nat} {ps pc : Int} {m : Nat} {os : List (Option Int)} (h : NumAt L f w ps pc m os) {e : Nat} (he : e ≤ m) (hm : e ≤ L.length) : os.getD e none = some (gO os e) := by
  cases ho : os.getD e none with
  | some x => unfold gO; rw [ho]; rfl
  | none =>
    cases e with
    | zero => rw [h.2.1] at ho; cases ho
    | succ e =>
      have := (h.2.2 (e + 1) (by omega) hm).1 ho (gO os e + ps)
      exact absurd ⟨e, by omega, .inl ⟨rfl, rfl⟩⟩ this
/-- what the first i entries of the place m make of the numbers -/
def NumIn (L : List Nat) (f : Int → Bool) (w : Nat) (ps pc : Int) (m : Nat) (g : Nat → Int) (es : List (Nat × Int)) (os : List (Option Int)) : Prop := os.length = L.length + 1 ∧ (∀ e, e ≤ m → os.getD e none = some (g e)) ∧ g 0 = 0 ∧
  ∀ e, 1 ≤ e → e ≤ L.length → MinO (fun y => Opt L f w ps pc g m e y ∨ ∃ t ∈ es, t.1 = e ∧ y = t.2) (os.getD e none)
theorem NumAt.into {L : List Nat} {f : Int → Bool} {w : Nat} {ps pc : Int} {m : Nat} {os : List (Option Int)} (h : NumAt L f w ps pc m os) (hm : m ≤ L.length) : NumIn L f w ps pc m (gO os) [] os := by
  refine ⟨h.1, fun e he => h.known he (by omega), by unfold gO; rw [h.2.1]; rfl, fun e h1 h2 => (h.2.2 e h1 h2).same fun y => ?_⟩
  constructor
  · exact .inl
  · rintro (h | ⟨t, ht, _⟩)
    · exact h
    · cases ht
def moreO (o : Option Int) (v : Int) : Int := match o with | none => v | some x => if v < x then v else x
theorem MinO.moreO {P : Int → Prop} {o : Option Int} {v : Int} (h : MinO P o) : MinO (fun y => P y ∨ y = v) (some (moreO o v)) := by
  cases o with
  | none => exact MinO.more h
  | some x => exact MinO.more h
theorem NumIn.more {L : List Nat} {f : Int → Bool} {w : Nat} {ps pc : Int} {m : Nat} {g : Nat → Int} {es : List (Nat × Int)} {os : List (Option Int)} {e : Nat} {v : Int} (h : NumIn L f w ps pc m g es os) (he : m < e) (hL : e ≤ L.length) : NumIn L f w ps pc m g (es ++ [(e, v)]) (os.set e (some (moreO (os.getD e none) v))) := by
  obtain ⟨h1, h2, h0, h3⟩ := h
  have get : ∀ i, (os.set e (some (moreO (os.getD e none) v))).getD i none = if e = i then some (moreO (os.getD e none) v) else os.getD i none := fun i => by
    rw [List.getD_eq_getElem?_getD, List.getElem?_set, List.getD_eq_getElem?_getD]
    by_cases ei : e = i
    · subst ei
      rw [if_pos rfl, if_pos rfl, if_pos (by omega)]
      rfl
    · rw [if_neg ei, if_neg ei, List.getD_eq_getElem?_getD]
  refine ⟨by rw [List.length_set]; exact h1, fun i hi => ?_, h0, fun i i1 i2 => ?_⟩
  · rw [get, if_neg (by omega)]
    exact h2 i hi
  · rw [get]
    by_cases ei : e = i
    · subst ei
      rw [if_pos rfl]
      refine (MinO.moreO (v := v) (h3 e i1 i2)).same fun y => ?_
      constructor
      · rintro ((h | ⟨t, a, b⟩) | rfl)
        · exact .inl h
        · exact .inr ⟨t, List.mem_append_left _ a, b⟩
        · exact .inr ⟨(e, y), List.mem_append_right _ (List.mem_singleton.mpr rfl), rfl, rfl⟩
      · rintro (h | ⟨t, a, b, c⟩)
        · exact .inl (.inl h)
        · rcases List.mem_append.mp a with a | a
          · exact .inl (.inr ⟨t, a, b, c⟩)
          · rw [List.mem_singleton.mp a] at c
            exact .inr c
    · rw [if_neg ei]
      refine (h3 i i1 i2).same fun y => ?_
      constructor
      · rintro (h | ⟨t, a, b⟩)
        · exact .inl h
        · exact .inr ⟨t, List.mem_append_left _ a, b⟩
      · rintro (h | ⟨t, a, b, c⟩)
        · exact .inl h
        · rcases List.mem_append.mp a with a | a
          · exact .inr ⟨t, a, b, c⟩
          · rw [List.mem_singleton.mp a] at b
            exact absurd b ei
theorem NumIn.out {L : List Nat} {f : Int → Bool} {w : Nat} {ps pc : Int} {m : Nat} {g : Nat → Int} {os : List (Option Int)} (h : NumIn L f w ps pc m g (esN m (runW L f w m) (g m + ps) (g m + pc)) os) (hm : m < L.length) : NumAt L f w ps pc (m + 1) os := by
  obtain ⟨h1, h2, h0, h3⟩ := h
  have hg : ∀ k, k < m + 1 → g k = gO os k := fun k hk => by unfold gO; rw [h2 k (by omega)]; rfl
  refine ⟨h1, by rw [h2 0 (by omega), h0], fun e e1 e2 => (h3 e e1 e2).same fun y => ?_⟩
  rw [Opt.entry y]
  exact Opt.same hg y
theorem NumAt.all {L : List Nat} {f : Int → Bool} {w : Nat} {ps pc : Int} {os : List (Option Int)} (h : NumAt L f w ps pc L.length os) : ∃ ns : List Int, os.map vO = ns.map V.int ∧ ns.length = L.length + 1 ∧ NumTo L f w ps pc (fun i => ns.getD i 0) L.length := by
  have get : ∀ i, i ≤ L.length → (os.map fun o => o.getD 0).getD i 0 = gO os i := fun i hi => by
    unfold gO
    rw [List.getD_eq_getElem?_getD, List.getElem?_map, List.getD_eq_getElem?_getD, List.getElem?_eq_getElem (by have := h.1; omega)]
    rfl
  refine ⟨os.map fun o => o.getD 0, ?_, by rw [List.length_map]; exact h.1, ?_, fun e e1 e2 => ?_⟩
  · rw [List.map_map]
    refine List.map_congr_left fun o ho => ?_
    obtain ⟨i, hi, rfl⟩ := List.mem_iff_getElem.mp ho
    have hk := h.known (e := i) (by have := h.1; omega) (by have := h.1; omega)
    have e : os[i] = some (gO os i) := by
      rw [← hk, List.getD_eq_getElem?_getD, List.getElem?_eq_getElem hi]
      rfl
    rw [e]
    rfl
  · show (os.map fun o => o.getD 0).getD 0 0 = 0
    rw [get 0 (by omega)]
    unfold gO
    rw [h.2.1]
    rfl
  · have hk := h.known (e := e) e2 e2
    have h2 := h.2.2 e e1 e2
    rw [hk] at h2
    show MinO _ (some ((os.map fun o => o.getD 0).getD e 0))
    rw [get e e2]
    refine h2.same fun y => ?_
    rw [Opt.cut e2]
    exact Opt.same (fun k hk => (get k (by omega)).symm) y
/-- a tuple of a place and a number -/
def NumP (K : PySem.W.Frag) (H : Hp) (v : V) (x : Nat × Int) : Prop := TupAt K H v [.int (x.1 : Nat), .int x.2]
abbrev NumPs (K : PySem.W.Frag) (H : Hp) : List V → List (Nat × Int) → Prop := Paired (NumP K H)
theorem NumP.same {K : PySem.W.Frag} {H H' : Hp} {v : V} {x : Nat × Int} (s : Same H H') (h : NumP K H v x) : NumP K H' v x := TupAt.same s h
theorem NumPs.same {K : PySem.W.Frag} {H H' : Hp} {vs : List V} {xs : List (Nat × Int)} (s : Same H H') (h : NumPs K H vs xs) : NumPs K H' vs xs := paired_mono h fun _ _ h => h.same s
theorem NumPs.put {K : PySem.W.Frag} {H : Hp} {D : Addr} {xs ys : List V} {vs : List V} {ps : List (Nat × Int)} (hD : H D = some (.lst xs)) (h : NumPs K H vs ps) : NumPs K (upd H D (.lst ys)) vs ps := paired_mono h fun _ _ h => TupAt.put hD h
theorem num_bound {L : List Nat} {f : Int → Bool} {w : Nat} {ps pc : Int} {g : Nat → Int} {m : Nat} (hs : 0 ≤ ps ∧ ps ≤ 10 ^ 18) (hc : 0 ≤ pc ∧ pc ≤ 10 ^ 18) (h : NumTo L f w ps pc g m) : ∀ e, e ≤ m → 0 ≤ g e ∧ g e ≤ (e : Int) * 10 ^ 18 := by
  intro e
  induction e using Nat.strongRecOn with
  | _ e ih =>
    intro he
    cases e with
    | zero => rw [h.1]; exact ⟨Int.le_refl _, by simp⟩
    | succ e =>
      obtain ⟨⟨k, hk, hk2⟩, hle⟩ := (h.2 (e + 1) (by omega) he).2 _ rfl
      have h1 := ih k hk (by omega)
      have h2 := ih e (by omega) (by omega)
      have h3 := hle (g e + ps) ⟨e, by omega, .inl ⟨rfl, rfl⟩⟩
      rcases hk2 with ⟨_, hx⟩ | ⟨_, _, hx⟩ <;> omega
theorem nums_small {L : List Nat} {f : Int → Bool} {w : Nat} {ps pc : Int} {ns : List Int} {m : Nat} (hs : 0 ≤ ps ∧ ps ≤ 10 ^ 18) (hc : 0 ≤ pc ∧ pc ≤ 10 ^ 18) (hl : ns.length = m + 1) (hm : m ≤ 1000) (h : NumTo L f w ps pc (fun i => ns.getD i 0) m) : ∀ n ∈ ns, 0 ≤ n ∧ n < 10 ^ 24 := by
  intro n hn
  obtain ⟨i, hi, rfl⟩ := List.mem_iff_getElem.mp hn
  have hb := num_bound hs hc h i (by omega)
  have e : ns.getD i 0 = ns[i] := by rw [List.getD_eq_getElem?_getD, List.getElem?_eq_getElem hi]; rfl
  have hb : 0 ≤ ns.getD i 0 ∧ ns.getD i 0 ≤ (i : Int) * 10 ^ 18 := hb
  rw [e] at hb
  omega
theorem nums_uniq {L : List Nat} {f : Int → Bool} {w : Nat} {ps pc : Int} {ns ms : List Int} {m : Nat} (l1 : ns.length = m + 1) (l2 : ms.length = m + 1) (a : NumTo L f w ps pc (fun i => ns.getD i 0) m) (b : NumTo L f w ps pc (fun i => ms.getD i 0) m) : ns = ms := by
  refine List.ext_getElem (by omega) fun i h1 h2 => ?_
  have h := num_uniq a b i (by omega)
  have h : ns.getD i 0 = ms.getD i 0 := h
  rw [List.getD_eq_getElem?_getD, List.getD_eq_getElem?_getD, List.getElem?_eq_getElem h1, List.getElem?_eq_getElem h2] at h
  exact h
end KW

/-! Odd values: data that is not the bag's, with great ints, or an empty dict; lists of numbers that no way is cheaper than. -/
namespace KW
open PySem PySem.Spec PyProof.Rows L2
/-! ### data with great ints -/
structure Pq (n w : Nat) (d : PyData) : Prop where
  lay : d.canLay0 = true
  deep : d.depth ≤ n
  wt : d.weight ≤ w
  told : d.showable = true
  small : d.intsShort 40 = true
structure PqAll (n w : Nat) (ds : List PyData) : Prop where
  lay : PyData.canLayAll0 ds = true
  deep : PyData.depthAll ds ≤ n
  wt : PyData.weightAll ds ≤ ds.length * (w + 1)
  told : PyData.showableAll ds = true
  small : PyData.intsShortAll 40 ds = true
theorem PqAll.nil {n w : Nat} : PqAll n w [] := ⟨by simp [PyData.canLayAll0], by simp [PyData.depthAll], by simp [PyData.weightAll], by simp [PyData.showableAll], by simp [PyData.intsShortAll]⟩
theorem PqAll.cons {n w : Nat} {d : PyData} {ds : List PyData} (h : Pq n w d) (t : PqAll n w ds) : PqAll n w (d :: ds) := by
  constructor
  · simp [PyData.canLayAll0, h.lay, t.lay]
  · simp only [PyData.depthAll]; exact Nat.max_le.mpr ⟨h.deep, t.deep⟩
  · simp only [PyData.weightAll, List.length_cons]
    have h1 := h.wt
    have h2 := t.wt
    have e : (ds.length + 1) * (w + 1) = ds.length * (w + 1) + (w + 1) := by rw [Nat.add_mul, Nat.one_mul]
    omega
  · simp [PyData.showableAll, h.told, t.told]
  · simp [PyData.intsShortAll, h.small, t.small]
theorem PqAll.of {n w : Nat} : ∀ {ds : List PyData}, (∀ d ∈ ds, Pq n w d) → PqAll n w ds
  | [], _ => .nil
  | d :: ds, h => .cons (h d List.mem_cons_self) (.of fun e he => h e (List.mem_cons_of_mem _ he))
theorem PqAll.tuple {n w : Nat} {ds : List PyData} (h : PqAll n w ds) : Pq (n + 1) (ds.length * (w + 1)) (.tuple ds) :=
  ⟨by simpa [PyData.canLay0] using h.lay, by simp only [PyData.depth]; exact Nat.succ_le_succ h.deep, by simp only [PyData.weight]; exact h.wt, by simpa [PyData.showable] using h.told, by simpa [PyData.intsShort] using h.small⟩
theorem PqAll.list {n w : Nat} {ds : List PyData} (h : PqAll n w ds) : Pq (n + 1) (ds.length * (w + 1)) (.list ds) :=
  ⟨by simpa [PyData.canLay0] using h.lay, by simp only [PyData.depth]; exact Nat.succ_le_succ h.deep, by simp only [PyData.weight]; exact h.wt, by simpa [PyData.showable] using h.told, by simpa [PyData.intsShort] using h.small⟩
theorem Pq.mono {n m w v : Nat} {d : PyData} (h : Pq n w d) (h1 : n ≤ m) (h2 : w ≤ v) : Pq m v d := ⟨h.lay, Nat.le_trans h.deep h1, Nat.le_trans h.wt h2, h.told, h.small⟩
theorem Pq.non : Pq 0 0 .none := ⟨rfl, Nat.le_refl _, Nat.le_refl _, rfl, rfl⟩
theorem Pq.bl (b : Bool) : Pq 0 0 (.bool b) := ⟨rfl, Nat.le_refl _, Nat.le_refl _, rfl, rfl⟩
theorem Pq.str {y : Str} {w : Nat} (h : PyData.strOk y = true) (hw : y.length ≤ w) : Pq 0 w (.str y) :=
  ⟨by simpa [PyData.canLay0] using h, by simp [PyData.depth], by simp only [PyData.weight]; exact hw, by simp [PyData.showable], by simp [PyData.intsShort]⟩
theorem Pq.int {i : Int} (h : -(10 ^ 31) < i ∧ i < 10 ^ 31) : Pq 0 104 (.int i) := by
  have hn : i.natAbs < 10 ^ 31 := by omega
  have hl : i.natAbs.log2 < 103 := by
    by_cases e : i.natAbs = 0
    · rw [e]; decide
    · exact (Nat.log2_lt e).mpr (by omega)
  refine ⟨by simp [PyData.canLay0], by simp [PyData.depth], ?_, ?_, ?_⟩
  · show (if i == 0 then 0 else i.natAbs.log2 + 1) ≤ 104
    split <;> omega
  · simp only [PyData.showable, decide_eq_true_eq]
    show i.natAbs.log2 < 1920
    omega
  · have e := int_text_length_le10 (k := 31) (by decide) hn
    simp only [PyData.intsShort, decide_eq_true_eq]
    show (Str.ofString (toString i)).length ≤ 40
    rw [PySem.ofString_length]; omega
theorem Pq.ints {ns : List Int} (h : ∀ n ∈ ns, -(10 ^ 31) < n ∧ n < 10 ^ 31) : PqAll 0 104 (ns.map PyData.int) := .of fun d hd => by
  obtain ⟨n, hn, rfl⟩ := List.mem_map.mp hd
  exact Pq.int (h n hn)
theorem Pq.reprD {d : PyData} (h : Pq 64 100000 d) : ReprD d := by
  refine ⟨h.lay, h.deep, h.told, ?_⟩
  have e2 := PyData.shown_le 40 (by decide) _ (PyData.leavesShort_of_canLay0 40 _ h.lay h.small)
  have := h.wt
  refine Nat.le_trans e2 (Nat.le_trans ?_ (show 5000000 ≤ sizeLine by decide))
  omega
/-! ### data that is not the bag's -/
mutual
inductive Dn (b : Addr) (H : Hp) : V → PyData → Prop
  | non : Dn b H .non .none
  | bl (k : Bool) : Dn b H (.bl k) (.bool k)
  | int (i : Int) : Dn b H (.int i) (.int i)
  | str (x : Str) : Dn b H (.str x) (.str x)
  | lst {a : Addr} {xs : List V} {ds : List PyData} : H a = some (.lst xs) → a ≠ b → DnAll b H xs ds → Dn b H (.ref a) (.list ds)
  | tup {a : Addr} {xs : List V} {ds : List PyData} : H a = some (.tup xs) → a ≠ b → DnAll b H xs ds → Dn b H (.ref a) (.tuple ds)
inductive DnAll (b : Addr) (H : Hp) : List V → List PyData → Prop
  | nil : DnAll b H [] []
  | cons {v : V} {vs : List V} {d : PyData} {ds : List PyData} : Dn b H v d → DnAll b H vs ds → DnAll b H (v :: vs) (d :: ds)
end
section
variable {b : Addr} {H H' : Hp} {K : PySem.W.Frag}
mutual
theorem Dn.keep0 (k : KeepB b H H') : ∀ (d : PyData) (v : V), Dn b H v d → Dn b H' v d
  | .none, _, h => by cases h; exact .non
  | .bool k, _, h => by cases h; exact .bl k
  | .int i, _, h => by cases h; exact .int i
  | .str x, _, h => by cases h; exact .str x
  | .list ds, _, h => by
    cases h with
    | lst e n t => exact .lst (k _ _ n e) n (DnAll.keep0 k ds _ t)
  | .tuple ds, _, h => by
    cases h with
    | tup e n t => exact .tup (k _ _ n e) n (DnAll.keep0 k ds _ t)
  | .dict _, _, h => by cases h
theorem DnAll.keep0 (k : KeepB b H H') : ∀ (ds : List PyData) (vs : List V), DnAll b H vs ds → DnAll b H' vs ds
  | [], _, h => by cases h; exact .nil
  | d :: ds, _, h => by
    cases h with
    | cons x t => exact .cons (Dn.keep0 k d _ x) (DnAll.keep0 k ds _ t)
end
theorem Dn.keep {v : V} {d : PyData} (k : KeepB b H H') (h : Dn b H v d) : Dn b H' v d := Dn.keep0 k d v h
theorem DnAll.keep {vs : List V} {ds : List PyData} (k : KeepB b H H') (h : DnAll b H vs ds) : DnAll b H' vs ds := DnAll.keep0 k ds vs h
theorem Dn.same {v : V} {d : PyData} (k : Same H H') (h : Dn b H v d) : Dn b H' v d := h.keep (KeepB.of_same k)
theorem DnAll.same {vs : List V} {ds : List PyData} (k : Same H H') (h : DnAll b H vs ds) : DnAll b H' vs ds := h.keep (KeepB.of_same k)
mutual
theorem Dn.dp0 : ∀ (d : PyData) (v : V), Dn b H v d → Dp K H v d
  | .none, _, h => by cases h; exact .non
  | .bool k, _, h => by cases h; exact .bl k
  | .int i, _, h => by cases h; exact .int i
  | .str x, _, h => by cases h; exact .str x
  | .list ds, _, h => by
    cases h with
    | lst e n t => exact .lst (SqL.of e) (DnAll.dp0 ds _ t)
  | .tuple ds, _, h => by
    cases h with
    | tup e n t => exact .tup (SqT.of e) (DnAll.dp0 ds _ t)
  | .dict _, _, h => by cases h
theorem DnAll.dp0 : ∀ (ds : List PyData) (vs : List V), DnAll b H vs ds → DpAll K H vs ds
  | [], _, h => by cases h; exact .nil
  | d :: ds, _, h => by
    cases h with
    | cons x t => exact .cons (Dn.dp0 d _ x) (DnAll.dp0 ds _ t)
end
theorem Dn.dp {v : V} {d : PyData} (h : Dn b H v d) : Dp K H v d := Dn.dp0 d v h
theorem DnAll.dp {vs : List V} {ds : List PyData} (h : DnAll b H vs ds) : DpAll K H vs ds := DnAll.dp0 ds vs h
theorem DnAll.len : ∀ {vs : List V} {ds : List PyData}, DnAll b H vs ds → vs.length = ds.length
  | _, [], h => by cases h; rfl
  | _, d :: ds, h => by
    cases h with
    | cons x t => exact congrArg Nat.succ t.len
theorem DnAll.ints : ∀ ns : List Int, DnAll b H (ns.map V.int) (ns.map PyData.int)
  | [] => .nil
  | n :: ns => .cons (.int n) (DnAll.ints ns)
theorem DnAll.app : ∀ {vs us : List V} {ds es : List PyData}, DnAll b H vs ds → DnAll b H us es → DnAll b H (vs ++ us) (ds ++ es)
  | _, _, [], _, h, h2 => by cases h; exact h2
  | _, _, d :: ds, _, h, h2 => by
    cases h with
    | cons x t => exact .cons x (t.app h2)
theorem DnAll.rep {v : V} {d : PyData} (h : Dn b H v d) : ∀ n : Nat, DnAll b H (List.replicate n v) (List.replicate n d)
  | 0 => .nil
  | n + 1 => .cons h (DnAll.rep h n)
theorem DnAll.get : ∀ {vs : List V} {ds : List PyData} {i : Nat} {v : V}, DnAll b H vs ds → vs[i]? = some v → ∃ d, ds[i]? = some d ∧ Dn b H v d
  | _, [], i, v, h, e => by cases h; cases e
  | _, d :: ds, i, v, h, e => by
    cases h with
    | cons x t =>
      cases i with
      | zero => cases e; exact ⟨d, rfl, x⟩
      | succ i => exact t.get e
/-- the class of data -/
def kindD : PyData → String
  | .none => "NoneType"
  | .bool _ => "bool"
  | .int _ => "int"
  | .str _ => "str"
  | .list _ => "list"
  | .tuple _ => "tuple"
  | .dict _ => "dict"
theorem Dn.ty {v : V} {d : PyData} (h : Dn b H v d) : Ty7 K H v (kindD d) := by
  cases h with
  | non => exact .non
  | bl k => exact .bl
  | int i => exact .int
  | str x => exact .str
  | lst e n t => exact .lst e
  | tup e n t => exact .tup e
theorem Dn.intV {v : V} {d : PyData} (h : Dn b H v d) : intV v = true ↔ ∃ i, d = .int i := by
  cases h <;> simp [KW.intV]
end
/-- odd values: data, or an empty dict (none) -/
def OddV (b : Addr) (H : Hp) (v : V) : Option PyData → Prop
  | some d => Dn b H v d ∧ Pq 64 100000 d
  | none => ∃ a, v = .ref a ∧ a ≠ b ∧ H a = some (.dK [])
def shownO : Option PyData → Str
  | some d => d.shown
  | none => "{}"
def kindO : Option PyData → String
  | some d => kindD d
  | none => "dict"
theorem OddV.keep {b : Addr} {H H' : Hp} {v : V} {o : Option PyData} (k : KeepB b H H') (h : OddV b H v o) : OddV b H' v o := by
  cases o with
  | some d => exact ⟨h.1.keep k, h.2⟩
  | none => obtain ⟨a, e, n, g⟩ := h; exact ⟨a, e, n, k _ _ n g⟩
theorem OddV.same {b : Addr} {H H' : Hp} {v : V} {o : Option PyData} (k : Same H H') (h : OddV b H v o) : OddV b H' v o := h.keep (KeepB.of_same k)
theorem OddV.ty {b : Addr} {K : PySem.W.Frag} {H : Hp} {v : V} {o : Option PyData} (h : OddV b H v o) : Ty7 K H v (kindO o) := by
  cases o with
  | some d => exact h.1.ty
  | none => obtain ⟨a, rfl, _, g⟩ := h; exact .dK g
section
variable {X : Cx}
theorem call_reprO (free : X.A.guards = some []) (room : X.A.units + 100 < cLine) : CallR X (.builtin "repr") (fun xs H Q => ∃ b x o, xs = [x] ∧ OddV b H x o ∧ Q (.str (shownO o)) H) := by
  intro pins s σ H xs us Q I r h
  obtain ⟨b, x, o, rfl, ov, q⟩ := h
  cases o with
  | some d => exact call_reprB free room pins s σ H [x] us Q I r ⟨x, d, rfl, ov.1.dp, ov.2.reprD, q⟩
  | none =>
    obtain ⟨a, rfl, _, e⟩ := ov
    obtain ⟨u, rfl, ru⟩ := vals1 r
    obtain rfl : u = Value.ref a := ru
    obtain ⟨_, hd, vs, hv, ob, es, ep, h1, h2, h3, h4, h5, h6⟩ := dk_of I.hok e
    cases hv
    have hes : es.toList = [] := by
      generalize es.toList = l at h5
      cases h5
      rfl
    have hdep : PyData.depth (.dict []) ≤ 1 := by decide
    have hrm : X.A.units + (PyData.depth (.dict []) + 1) < cLine := by omega
    have hsm : sysModules ∉ ([a] : List Addr) := by
      rw [List.mem_singleton]
      intro e
      rw [← e] at hd
      simp at hd
    have fin : ∀ h' t tk, (∀ b o, s.heap.get? b = some o → h'.get? b = some o) → EP X pins σ Q (.str (PyData.dict []).shown t) { s with heap := h', toks := tk } := fun h' t tk k => ⟨.str (shownO none), H, I.kept k, ⟨_, rfl⟩, q⟩
    exact repr_of_reads' (Reads.dict (kvs := []) (as := []) (bs := []) h1 h2.1 h3 (by rw [hes]; exact .nil) (by rw [hes]; exact .nil)) rfl (fun _ => hsm) free hrm (fun _ _ e => e) (fun h' u tk k => fin h' u tk k) (by decide)
end
end KW
/-! ### numbers that no way is cheaper than -/
namespace KW
open PySem L2
section
variable {L : List Nat} {f : Int → Bool} {w : Nat} {ps pc : Int}
def Below (L : List Nat) (f : Int → Bool) (w : Nat) (ps pc : Int) (g : Nat → Int) (m : Nat) : Prop := g 0 = 0 ∧ ∀ e, 1 ≤ e → e ≤ m → ∀ y, Opt L f w ps pc g e e y → g e ≤ y
/-- whether odd values are such numbers -/
noncomputable def belO (L : List Nat) (f : Int → Bool) (w : Nat) (ps pc : Int) (o : Option PyData) : Bool := @decide (∃ ns : List Int, o = some (.list (ns.map .int)) ∧ ns.length = L.length + 1 ∧ Below L f w ps pc (fun i => ns.getD i 0) L.length) (Classical.propDecidable _)
theorem belO_iff {o : Option PyData} : belO L f w ps pc o = true ↔ ∃ ns : List Int, o = some (.list (ns.map .int)) ∧ ns.length = L.length + 1 ∧ Below L f w ps pc (fun i => ns.getD i 0) L.length := by
  unfold belO
  exact @decide_eq_true_iff _ (Classical.propDecidable _)
theorem belO_not {o : Option PyData} (h : ∀ ns : List Int, o = some (.list (ns.map .int)) → ns.length = L.length + 1 → ¬ Below L f w ps pc (fun i => ns.getD i 0) L.length) : belO L f w ps pc o = false := by
  rw [← Bool.not_eq_true, belO_iff]
  rintro ⟨ns, a, b, c⟩
  exact h ns a b c
theorem intD_inj : ∀ {ns ms : List Int}, ns.map PyData.int = ms.map PyData.int → ns = ms
  | [], [], _ => rfl
  | [], _ :: _, h => by cases h
  | _ :: _, [], h => by cases h
  | a :: ns, b :: ms, h => by
    rw [List.map_cons, List.map_cons] at h
    injection h with h1 h2
    injection h1 with h1
    rw [h1, intD_inj h2]
theorem belO_ints {ns : List Int} (hl : ns.length = L.length + 1) : belO L f w ps pc (some (.list (ns.map .int))) = true ↔ Below L f w ps pc (fun i => ns.getD i 0) L.length := by
  rw [belO_iff]
  constructor
  · rintro ⟨ms, a, b, c⟩
    injection a with a
    injection a with a
    rw [intD_inj a]
    exact c
  · exact fun h => ⟨ns, rfl, hl, h⟩
theorem below_run {g : Nat → Int} {m : Nat} (h : Below L f w ps pc g m) {k : Nat} : ∀ n, k + n ≤ m → g (k + n) ≤ g k + (n : Int) * ps
  | 0, _ => by simp
  | n + 1, hn => by
    have ih := below_run h (k := k) n (by omega)
    have h1 := h.2 (k + n + 1) (by omega) (by omega) (g (k + n) + ps) ⟨k + n, by omega, .inl ⟨rfl, rfl⟩⟩
    have e : ((n + 1 : Nat) : Int) * ps = (n : Int) * ps + ps := by rw [Int.natCast_add, Int.add_mul]; simp
    rw [e, ← Nat.add_assoc]
    omega
theorem below_copy {g : Nat → Int} {m : Nat} (h : Below L f w ps pc g m) {k e : Nat} (h1 : k < e) (h2 : e ≤ m) (h3 : e ≤ k + runW L f w k) : g e ≤ g k + pc := h.2 e (by omega) h2 _ ⟨k, h1, .inr ⟨h1, h3, rfl⟩⟩
theorem best_ge {k : Nat} : ∀ D d, 1 ≤ d → d ≤ D → runF L f d 40 k ≤ (bestUp L f k D).1
  | 0, d, h1, h2 => by omega
  | D + 1, d, h1, h2 => by
    show _ ≤ (if (bestUp L f k D).1 < runF L f (D + 1) 40 k then (runF L f (D + 1) 40 k, D + 1) else bestUp L f k D).1
    by_cases e : d = D + 1
    · subst e
      split
      · exact Nat.le_refl _
      · omega
    · have ih := best_ge (k := k) D d h1 (by omega)
      split
      · show _ ≤ runF L f (D + 1) 40 k; omega
      · exact ih
theorem below_chain {g : Nat → Int} {m : Nat} (h : Below L f w ps pc g m) {k e : Nat} {S : List (Nat × Nat × Nat)} (c : Chain L f w k S e) (he : e ≤ m) : g e ≤ g k + (S.map (stepC ps pc)).sum := by
  induction c with
  | nil => simp
  | @cons k n d e S hs t ih =>
    have h1 := ih he
    have h2 := t.steps.1
    rw [List.map_cons, List.sum_cons]
    have h3 : g (k + n) ≤ g k + stepC ps pc (k, n, d) := by
      unfold stepC
      rcases hs with ⟨rfl, rfl, hk⟩ | ⟨d1, d2, n1, n2⟩
      · have := below_run h (k := k) 1 (by omega)
        show g (k + 1) ≤ g k + ps
        simpa using this
      · show g (k + n) ≤ g k + (if d = 0 then ps else pc)
        rw [if_neg (by omega)]
        refine below_copy h (by omega) (by omega) ?_
        have := best_ge (L := L) (f := f) (k := k) w d d1 d2
        unfold runW
        omega
    omega
theorem greedy_chain : ∀ (m k : Nat), L.length - k ≤ m → k ≤ L.length → Chain L f w k (stepsF L f w m k) L.length
  | 0, k, h1, h2 => by
    have : k = L.length := by omega
    subst this
    exact .nil
  | m + 1, k, h1, h2 => by
    show Chain L f w k (if k < L.length then (k, stepAt L f w k) :: stepsF L f w m (k + (stepAt L f w k).1) else []) L.length
    by_cases hk : k < L.length
    · rw [if_pos hk]
      have hs : StepOk L f w k (stepAt L f w k).1 (stepAt L f w k).2 := by
        rcases stepAt_is (L := L) (f := f) (w := w) (k := k) with e | ⟨a, b, c, d, e⟩
        · rw [e]; exact .inl ⟨rfl, rfl, hk⟩
        · exact .inr ⟨c, d, by omega, by omega⟩
      have hin := hs.inside
      have ih := greedy_chain m (k + (stepAt L f w k).1) (by omega) hin.2.1
      generalize stepAt L f w k = y at hs ih
      obtain ⟨n, d⟩ := y
      exact .cons hs ih
    · rw [if_neg hk]
      have : k = L.length := by omega
      subst this
      exact .nil
theorem greedy_cost : ∃ S, Chain L f w 0 S L.length ∧ costL ps pc (greedyT L f w) = (S.map (stepC ps pc)).sum :=
  ⟨_, greedy_chain (L.length - 0) 0 (Nat.le_refl _) (Nat.zero_le _), end_cost _⟩
theorem NumTo.below {g : Nat → Int} {m : Nat} (h : NumTo L f w ps pc g m) : Below L f w ps pc g m := ⟨h.1, fun e h1 h2 y hy => ((h.2 e h1 h2).2 _ rfl).2 y hy⟩
end
end KW
namespace KW
open PySem L2
def deepD : Nat → PyData
  | 0 => .list []
  | n + 1 => .list [deepD n]
theorem deep_pq : Pq 64 100000 (deepD 17) := ⟨by decide +kernel, by decide +kernel, by decide +kernel, by decide +kernel, by decide +kernel⟩
theorem Chain.snoc {L : List Nat} {f : Int → Bool} {w k e n d : Nat} {S : List (Nat × Nat × Nat)} (c : Chain L f w k S e) (h : StepOk L f w e n d) : Chain L f w k (S ++ [(e, n, d)]) (e + n) := by
  induction c with
  | nil => exact .cons h .nil
  | cons h1 t ih => exact .cons h1 (ih h)
theorem sum_snoc {ps pc : Int} {S : List (Nat × Nat × Nat)} {x : Nat × Nat × Nat} : ((S ++ [x]).map (stepC ps pc)).sum = (S.map (stepC ps pc)).sum + stepC ps pc x := by
  rw [List.map_append, List.sum_append]
  simp
end KW
namespace KW
open PySem L2
theorem OddV.isList {b : Addr} {H : Hp} {v : V} {o : Option PyData} (h : OddV b H v o) : ((kindO o == "list") = false ∧ ∀ ds, o ≠ some (.list ds)) ∨ ∃ (a : Addr) (xs : List V) (ds : List PyData), v = .ref a ∧ o = some (.list ds) ∧ H a = some (.lst xs) ∧ a ≠ b ∧ DnAll b H xs ds ∧ Pq 64 100000 (.list ds) := by
  cases o with
  | none => exact .inl ⟨rfl, fun ds e => nomatch e⟩
  | some d =>
    obtain ⟨hd, hp⟩ := h
    cases hd with
    | non => exact .inl ⟨rfl, fun ds e => by cases e⟩
    | bl k => exact .inl ⟨rfl, fun ds e => by cases e⟩
    | int i => exact .inl ⟨rfl, fun ds e => by cases e⟩
    | str x => exact .inl ⟨rfl, fun ds e => by cases e⟩
    | lst e n t => exact .inr ⟨_, _, _, rfl, rfl, e, n, t, hp⟩
    | tup e n t => exact .inl ⟨rfl, fun ds e => by cases e⟩
theorem belO_noList {L : List Nat} {f : Int → Bool} {w : Nat} {ps pc : Int} {o : Option PyData} (h : ∀ ds, o ≠ some (.list ds)) : belO L f w ps pc o = false := belO_not fun ns e => absurd e (h _)
theorem DnAll.allInt {b : Addr} {H : Hp} : ∀ {xs : List V} {ds : List PyData}, DnAll b H xs ds → (∀ x ∈ xs, intV x = true) → ∃ ns : List Int, xs = ns.map V.int ∧ ds = ns.map PyData.int
  | _, [], h, _ => by cases h; exact ⟨[], rfl, rfl⟩
  | _, d :: ds, h, hi => by
    cases h with
    | cons x t =>
      obtain ⟨ns, e1, e2⟩ := t.allInt fun y hy => hi y (List.mem_cons_of_mem _ hy)
      obtain ⟨i, rfl⟩ := x.intV.mp (hi _ List.mem_cons_self)
      cases x
      exact ⟨i :: ns, by rw [e1]; rfl, by rw [e2]; rfl⟩
theorem DnAll.noInt {b : Addr} {H : Hp} {xs : List V} {ds : List PyData} (h : DnAll b H xs ds) {x : V} (hx : x ∈ xs) (hn : intV x = false) (ns : List Int) : ds ≠ ns.map PyData.int := fun e => by
  obtain ⟨i, hi, rfl⟩ := List.mem_iff_getElem.mp hx
  obtain ⟨d, e1, e2⟩ := h.get (List.getElem?_eq_getElem hi)
  rw [e, List.getElem?_map, Option.map_eq_some_iff] at e1
  obtain ⟨n, _, rfl⟩ := e1
  rw [e2.intV.mpr ⟨n, rfl⟩] at hn
  cases hn
end KW
namespace KW
open PySem L2
theorem lay_all {ds : List PyData} : PyData.canLayAll0 ds = true ↔ ∀ d ∈ ds, d.canLay0 = true := by
  induction ds with
  | nil => simp [PyData.canLayAll0]
  | cons d ds ih => simp only [PyData.canLayAll0, Bool.and_eq_true, ih, List.forall_mem_cons]
theorem depth_all {n : Nat} {ds : List PyData} : PyData.depthAll ds ≤ n ↔ ∀ d ∈ ds, d.depth ≤ n := by
  induction ds with
  | nil => simp [PyData.depthAll]
  | cons d ds ih => simp only [PyData.depthAll, Nat.max_le, ih, List.forall_mem_cons]
theorem shaped_sub {ds es : List PyData} {w : Nat} (h : Pq 64 w (.list ds)) (s : ∀ e ∈ es, e ∈ ds) : SeqAt.shaped (.list es) = true := by
  have h1 : PyData.canLayAll0 ds = true := by simpa [PyData.canLay0] using h.lay
  have h2 : PyData.depthAll ds ≤ 63 := by
    have := h.deep
    simp only [PyData.depth] at this
    omega
  have l : PyData.canLay0 (.list es) = true := by simpa [PyData.canLay0] using lay_all.mpr fun e he => lay_all.mp h1 e (s e he)
  have d : PyData.depth (.list es) ≤ 64 := by
    simp only [PyData.depth]
    have := depth_all.mpr fun e he => depth_all.mp h2 e (s e he)
    omega
  unfold SeqAt.shaped
  rw [l, decide_eq_true d]
  rfl
theorem DnAll.filt {b : Addr} {H : Hp} {q : V → Bool} : ∀ {xs : List V} {ds : List PyData}, DnAll b H xs ds → ∃ es, DnAll b H (xs.filter q) es ∧ ∀ e ∈ es, e ∈ ds
  | _, [], h => by cases h; exact ⟨[], .nil, fun _ h => nomatch h⟩
  | _, d :: ds, h => by
    cases h with
    | @cons v vs _ _ x t =>
      obtain ⟨es, h1, h2⟩ := t.filt (q := q)
      by_cases hq : q v = true
      · rw [List.filter_cons_of_pos hq]
        exact ⟨d :: es, .cons x h1, fun e he => by
          rcases List.mem_cons.mp he with rfl | he
          · exact List.mem_cons_self
          · exact List.mem_cons_of_mem _ (h2 e he)⟩
      · rw [List.filter_cons_of_neg hq]
        exact ⟨es, h1, fun e he => List.mem_cons_of_mem _ (h2 e he)⟩
theorem eqv_empty (es : List PyData) : PyData.eqv (.list es) (.list []) = es.isEmpty := by
  cases es <;> simp [PyData.eqv, PyData.eqvAll]
theorem eqv_nil0 : PyData.eqv (.list []) (.list []) = true := by simp [PyData.eqv, PyData.eqvAll]
theorem DnAll.isEmpty {b : Addr} {H : Hp} {xs : List V} {ds : List PyData} (h : DnAll b H xs ds) : ds.isEmpty = xs.isEmpty := by
  have := h.len
  cases xs <;> cases ds <;> simp_all
theorem list_shaped0 : SeqAt.shaped (.list []) = true := rfl
end KW
namespace KW
open PySem L2
theorem cut_ints (ns : List Int) (lo hi : Option Int) : ∃ ms : List Int, cutV (ns.map V.int) lo hi = ms.map V.int ∧ (∀ m ∈ ms, m ∈ ns) ∧ ms.length ≤ ns.length := by
  refine ⟨(ns.drop (HT.sIx (ns.map V.int).length 0 lo)).take (HT.sIx (ns.map V.int).length (ns.map V.int).length hi - HT.sIx (ns.map V.int).length 0 lo), ?_, fun m hm => List.mem_of_mem_drop (List.mem_of_mem_take hm), ?_⟩
  · unfold cutV
    rw [List.map_take, List.map_drop]
  · rw [List.length_take, List.length_drop]
    omega
theorem odd_of {b a : Addr} {H : Hp} {xs : List V} {ds : List PyData} {n w : Nat} (h : H a = some (.lst xs)) (nb : a ≠ b) (hd : DnAll b H xs ds) (hp : ∀ d ∈ ds, Pq n w d) (hn : n ≤ 63) (hw : ds.length * (w + 1) ≤ 100000) : OddV b H (.ref a) (some (.list ds)) :=
  ⟨.lst h nb hd, (PqAll.of hp).list.mono (by omega) hw⟩
theorem odd_ofT {b a : Addr} {H : Hp} {xs : List V} {ds : List PyData} {n w : Nat} (h : H a = some (.tup xs)) (nb : a ≠ b) (hd : DnAll b H xs ds) (hp : ∀ d ∈ ds, Pq n w d) (hn : n ≤ 63) (hw : ds.length * (w + 1) ≤ 100000) : OddV b H (.ref a) (some (.tuple ds)) :=
  ⟨.tup h nb hd, (PqAll.of hp).tuple.mono (by omega) hw⟩
theorem odd_ints {b a : Addr} {H : Hp} {ms : List Int} (h : H a = some (.lst (ms.map V.int))) (nb : a ≠ b) (hm : ∀ n ∈ ms, -(10 ^ 31) < n ∧ n < 10 ^ 31) (hl : ms.length ≤ 900) : OddV b H (.ref a) (some (.list (ms.map PyData.int))) :=
  odd_of (n := 0) (w := 104) h nb (DnAll.ints ms) (fun d hd => by obtain ⟨n, hn, rfl⟩ := List.mem_map.mp hd; exact Pq.int (hm n hn)) (by decide) (by rw [List.length_map]; omega)
/-- values that are odd, each of them -/
def Odds (b : Addr) (H : Hp) (xs : List V) : Prop := ∀ x ∈ xs, ∃ o, OddV b H x o
theorem Odds.keep {b : Addr} {H H' : Hp} {xs : List V} (k : KeepB b H H') (h : Odds b H xs) : Odds b H' xs := fun x hx => (h x hx).imp fun _ y => y.keep k
theorem Odds.same {b : Addr} {H H' : Hp} {xs : List V} (k : Same H H') (h : Odds b H xs) : Odds b H' xs := h.keep (KeepB.of_same k)
theorem Odds.nil {b : Addr} {H : Hp} : Odds b H [] := fun _ h => nomatch h
theorem Odds.more {b : Addr} {H : Hp} {xs : List V} {x : V} {o : Option PyData} (h : Odds b H xs) (hx : OddV b H x o) : Odds b H (xs ++ [x]) := fun y hy => by
  rcases List.mem_append.mp hy with hy | hy
  · exact h y hy
  · rw [List.mem_singleton.mp hy]; exact ⟨o, hx⟩
end KW
namespace KW
open PySem L2
theorem DnAll.ints_inv {b : Addr} {H : Hp} : ∀ {ns : List Int} {xs : List V}, DnAll b H xs (ns.map PyData.int) → xs = ns.map V.int
  | [], _, h => by cases h; rfl
  | n :: ns, _, h => by
    cases h with
    | cons x t =>
      cases x
      rw [t.ints_inv]
      rfl
theorem OddV.ints {b : Addr} {H : Hp} {v : V} {ns : List Int} (h : OddV b H v (some (.list (ns.map PyData.int)))) : ∃ a, v = .ref a ∧ H a = some (.lst (ns.map V.int)) := by
  obtain ⟨hd, _⟩ := h
  cases hd with
  | lst e n t => exact ⟨_, rfl, by rw [e, t.ints_inv]⟩
theorem bool_repr (r : Bool) : ReprD (.bool r) := ((Pq.bl r).mono (m := 64) (v := 100000) (by decide) (by decide)).reprD
end KW

/-! Which values are tokens: any values. -/
namespace KW
open PySem L2
theorem tokV_nostr {z : Str} {x : V} {r : List V} (h : strV x = false) : tokV z (x :: r) = false := by
  cases x <;> first | (cases h; done) | (cases r with
    | nil => rfl
    | cons y r => cases r with
      | nil => rfl
      | cons w r => cases r <;> rfl)
theorem tokV_three {z k : Str} {x y : V} : tokV z [.str k, x, y] = ((decide (k = "copy") || decide (k = "say")) && withinV 1 12 x && withinV 1 40 y) := by cases x <;> rfl
theorem tokV_long {z : Str} {k : Str} {x y w : V} {r : List V} : tokV z (.str k :: x :: y :: w :: r) = false := by cases x <;> rfl
theorem tokV_flush {z : Str} {r : List V} : tokV z (.str "flush" :: r) = decide (((V.str "flush" :: r).length : Int) = 1) := by
  cases r with
  | nil => rfl
  | cons y r =>
    have e : decide (((V.str "flush" :: y :: r).length : Int) = 1) = false := by
      rw [decide_eq_false_iff_not, List.length_cons, List.length_cons]; omega
    rw [e]
    cases r with
    | nil =>
      cases y <;> first | rfl | (show ((decide (("flush" : Str) = "text") && _ && _ && _) || (decide (("flush" : Str) = "any") && _)) = false; rw [show decide (("flush" : Str) = "text") = false by decide +kernel, show decide (("flush" : Str) = "any") = false by decide +kernel]; rfl)
    | cons w r => cases r with
      | nil =>
        rw [tokV_three, show decide (("flush" : Str) = "copy") = false by decide +kernel, show decide (("flush" : Str) = "say") = false by decide +kernel]
        rfl
      | cons u r => exact tokV_long
theorem tokV_two {z k : Str} {x : V} (h : strV x = false) : tokV z [.str k, x] = false := by
  cases x <;> first | rfl | cases h
theorem tokV_other {z k : Str} {r : List V} (h1 : k ≠ "flush") (h2 : k ≠ "text") (h3 : k ≠ "any") (h4 : k ≠ "copy") (h5 : k ≠ "say") : tokV z (.str k :: r) = false := by
  cases r with
  | nil => exact decide_eq_false h1
  | cons x r => cases r with
    | nil =>
      cases x <;> first | rfl | (show ((decide (k = "text") && _ && _ && _) || (decide (k = "any") && _)) = false; rw [decide_eq_false h2, decide_eq_false h3]; rfl)
    | cons y r => cases r with
      | nil =>
        rw [tokV_three, decide_eq_false h4, decide_eq_false h5]; rfl
      | cons w r => exact tokV_long
/-- texts and choices have two items -/
theorem tokV_len2 {z k : Str} {r : List V} (hk : k = "text" ∨ k = "any") (h : r.length ≠ 1) : tokV z (.str k :: r) = false := by
  cases r with
  | nil =>
    show decide (k = "flush") = false
    rcases hk with rfl | rfl <;> decide +kernel
  | cons x r => cases r with
    | nil => exact absurd rfl h
    | cons y r => cases r with
      | nil =>
        rw [tokV_three, show decide (k = "copy") = false by rcases hk with rfl | rfl <;> decide +kernel, show decide (k = "say") = false by rcases hk with rfl | rfl <;> decide +kernel]
        rfl
      | cons w r => exact tokV_long
theorem tokV_len3 {z k : Str} {r : List V} (hk : k = "copy" ∨ k = "say") (h : r.length ≠ 2) : tokV z (.str k :: r) = false := by
  cases r with
  | nil =>
    show decide (k = "flush") = false
    rcases hk with rfl | rfl <;> decide +kernel
  | cons x r => cases r with
    | nil =>
      cases x <;> first | rfl | (show ((decide (k = "text") && _ && _ && _) || (decide (k = "any") && _)) = false; rw [show decide (k = "text") = false by rcases hk with rfl | rfl <;> decide +kernel, show decide (k = "any") = false by rcases hk with rfl | rfl <;> decide +kernel]; rfl)
    | cons y r => cases r with
      | nil => exact absurd rfl h
      | cons w r => exact tokV_long
theorem tokV_textS {z y : Str} : tokV z [.str "text", .str y] = (overB z y && decide (1 ≤ y.length) && decide (y.length ≤ 40)) := by
  show ((decide (("text" : Str) = "text") && overB z y && decide (1 ≤ y.length) && decide (y.length ≤ 40)) || (decide (("text" : Str) = "any") && choiceB z y)) = _
  rw [show decide (("text" : Str) = "any") = false by decide +kernel, decide_eq_true (rfl : ("text" : Str) = "text"), Bool.true_and, Bool.false_and, Bool.or_false]
theorem tokV_anyS {z y : Str} : tokV z [.str "any", .str y] = choiceB z y := by
  show ((decide (("any" : Str) = "text") && overB z y && decide (1 ≤ y.length) && decide (y.length ≤ 40)) || (decide (("any" : Str) = "any") && choiceB z y)) = _
  rw [show decide (("any" : Str) = "text") = false by decide +kernel, decide_eq_true (rfl : ("any" : Str) = "any"), Bool.true_and, Bool.false_and, Bool.false_and, Bool.false_and, Bool.false_or]
theorem tokV_copyS {z k : Str} {x y : V} (hk : k = "copy" ∨ k = "say") : tokV z [.str k, x, y] = (withinV 1 12 x && withinV 1 40 y) := by
  rw [tokV_three, show (decide (k = "copy") || decide (k = "say")) = true by rcases hk with rfl | rfl <;> decide +kernel, Bool.true_and]
end KW
namespace KW
open PySem L2
theorem dec_int {i j : Int} : decide (V.int i = V.int j) = decide (i = j) := by
  by_cases h : i = j
  · subst h; simp
  · rw [decide_eq_false h, decide_eq_false fun e => h (V.int.inj e)]
end KW
namespace KW
open PySem L2
theorem tok_typed {K : PySem.W.Frag} {H : Hp} {z : Str} {xs : List V} (h : tokV z xs = true) : ∀ x ∈ xs, ∃ n, Ty7 K H x n := by
  obtain ⟨kd, rest, rfl, hk⟩ := tok_inv h
  intro x hx
  rcases List.mem_cons.mp hx with rfl | hx
  · exact ⟨_, Ty7.str⟩
  · rcases hk with ⟨_, rfl⟩ | ⟨y, _, rfl, _⟩ | ⟨y, _, rfl, _⟩ | ⟨d, n, _, rfl, _⟩
    · cases hx
    · rw [List.mem_singleton.mp hx]; exact ⟨_, Ty7.str⟩
    · rw [List.mem_singleton.mp hx]; exact ⟨_, Ty7.str⟩
    · rcases List.mem_cons.mp hx with rfl | hx
      · exact ⟨_, Ty7.int⟩
      · rw [List.mem_singleton.mp hx]; exact ⟨_, Ty7.int⟩
theorem tok_short {z : Str} {xs : List V} (h : tokV z xs = true) (hz : z.length ≤ 1000) : ∀ y, V.str y ∈ xs → y.length ≤ 1000 := by
  obtain ⟨kd, rest, rfl, hk⟩ := tok_inv h
  have hkl : kd.length ≤ 1000 := by
    rcases hk with ⟨rfl, _⟩ | ⟨y, rfl, _⟩ | ⟨y, rfl, _⟩ | ⟨d, n, rfl | rfl, _⟩ <;> decide +kernel
  intro x hx
  rcases List.mem_cons.mp hx with e | hx
  · injection e with e; subst e; exact hkl
  · rcases hk with ⟨_, rfl⟩ | ⟨y, _, rfl, _, _, h3⟩ | ⟨y, _, rfl, h1⟩ | ⟨d, n, _, rfl, _⟩
    · cases hx
    · have e := List.mem_singleton.mp hx
      injection e with e; subst e; omega
    · have e := List.mem_singleton.mp hx
      injection e with e; subst e
      unfold choiceB at h1
      simp only [Bool.and_eq_true, decide_eq_true_eq] at h1
      have := h1.1.1.2
      omega
    · rcases List.mem_cons.mp hx with e | hx
      · cases e
      · have e := List.mem_singleton.mp hx
        cases e
/-- a value that is no plain token over the signs -/
def NoTok (K : PySem.W.Frag) (H : Hp) (z : Str) (v : V) : Prop := (∃ n, Ty7 K H v n ∧ (n == "tuple") = false) ∨
  ∃ (a : Addr) (xs : List V), v = .ref a ∧ SqT K H a xs ∧ (∀ x ∈ xs, ∃ n, Ty7 K H x n) ∧ (∀ y, V.str y ∈ xs → y.length ≤ 1000) ∧ (tokV z xs && plainV xs) = false
end KW

/-! Making an instance within a try. -/
namespace KW
open PySem PySem.Spec PyProof.Rows L2
section
variable {X : Cx} {CX : CXT} {k : Nat} {f C : Addr} {fd : FuncData} {ps : List Str} {sp : Sp} {E : L2.St → XK} {x : Str} {p pos : Pos} {e : Expr} {es : List Expr} {t : TA}
/-- C(..): a new instance, then __init__; what that lets out is told of the slots as they stand -/
def tMakeT (C : Addr) (sp : Sp) (E : L2.St → XK) (t : TA) : TE := fun σ H Q => t σ H fun vs H1 => ∀ x dx, H1 x = none → H1 dx = none → dx ≠ x →
  sp (.ref x :: vs) (upd (upd H1 dx (.own x)) x (.ins C dx [])) (fun v H2 => v = .non ∧ Q (.ref x) H2) (E σ)
theorem run_makeT {pins : List (Addr × Obj)} {σ : L2.St} {H : Hp} {s : Shared} {Q : VK} {us : List Value} {vs : List V} (M : Mk X.K C f) (F : FnOk X.prog X.w X.K X.mg X.base CX k f fd ps sp) (hr : Room (k + 1) X.A) (hb : L2.Binds X.K fd ps [])
    (hx : PassesAt CX X σ (E σ)) (I : L2.Inv X pins σ H s) (r : Vals vs us)
    (h : ∀ x dx, H x = none → H dx = none → dx ≠ x → sp (.ref x :: vs) (upd (upd H dx (.own x)) x (.ins C dx [])) (fun v H2 => v = .non ∧ Q (.ref x) H2) (E σ)) :
    wpAny (model X.prog X.w) X.A (call (.ref C) us) (EP X pins σ Q) X.xe s := by
  have hq := h (s.heap.objs.size + 1) s.heap.objs.size (I.hok.fresh (Nat.le_succ _)) (I.hok.fresh (Nat.le_refl _)) (Nat.ne_of_lt (Nat.lt_succ_self _))
  have I2 := Inv.made (C := C) I
  have r2 : Vals (V.ref (s.heap.objs.size + 1) :: vs) (Value.ref (s.heap.objs.size + 1) :: us) := .cons rfl r
  have hl : (Value.ref (s.heap.objs.size + 1) :: us).length = ps.length := by
    have e := r2.length
    rw [F.len _ _ _ _ hq] at e
    exact e.symm
  have b := hb _ (Value.ref (s.heap.objs.size + 1) :: us) I2.kIn (by rw [List.append_nil]; exact hl)
  rw [List.append_nil] at b
  refine wpAny_call (make_map (f := f) I.kIn M.makes M.init (beq_iff_eq.mp M.fn) (codeAny_mono (F.run _ X.stack _ _ ⟨Value.ref (s.heap.objs.size + 1) :: us, []⟩ (Value.ref (s.heap.objs.size + 1) :: us) _ _ (E σ) (hr.make C us [])
    (I2.env0.make C us []) b r2 hq) fun r s' hq' => ?_))
  cases r with
  | error e => exact hx pins _ _ e s' I2 hq'
  | ok fl =>
    cases fl with
    | ret u =>
      obtain ⟨v, H', I3, rv, ev, q3⟩ := I2.after hq'
      subst ev
      exact ⟨rv, ⟨V.ref (s.heap.objs.size + 1), H', I3, rfl, q3⟩⟩
    | next => exact False.elim hq'
    | brk => exact False.elim hq'
    | cont => exact False.elim hq'
theorem pe_makeT (M : Mk X.K C f) (F : FnOk X.prog X.w X.K X.mg X.base CX k f fd ps sp) (hr : Room (k + 1) X.A) (hg : Gl X x) (hm : X.mg x = some (.ref C)) (hb : L2.Binds X.K fd ps []) (hx : ∀ σ, PassesAt CX X σ (E σ))
    (ha : PA X (e :: es) t) (hdb : (x == ("__debug__" : Str)) = false := by decide) (he : starEach (e :: es) X.env = (false, eval e X.env) :: starEach es X.env := by rfl) (hpl : (backTo pos (starEach es X.env)).any (·.1) = false := by rfl) :
    PE X (.Call (.Name x p) (e :: es) [] pos) (tMakeT C sp E t) := by
  refine ⟨fun pins s σ H Q I h => ?_⟩
  refine wpAny_Call_Name_kw (ld_glob I hg hm ?_ hdb)
  refine PySem.W.callWith_K (h₀ := X.base) I.ok.mod.kin M.kp (thn (ha.run pos pins s σ H _ I h) fun us s1 ⟨vs, H1, I1, r, q⟩ => ⟨I1.kIn, ?_⟩) he hpl
  exact run_makeT M F hr hb (hx σ) I1 r q
end
end KW

/-! sorted(set(xs)) of texts. -/
namespace KW
open PySem PySem.Spec PyProof.Rows L2
open PySem.Froz (TxOk sObj SD addTx tailTx is_str upd_const get_upd add_x)
/-- a payload of unlike texts that can be walked -/
structure OrdX (P : Program) (w : World) (D : SD) (l : List Str) : Prop where
  ok : TxOk P w D l
  nd : l.Nodup
  ris : Ris D.2.2.place.toList
  led : w.params.followText "set-order" = true ∨ D.2.2.led = true
section
variable {P : Program} {w : World} {A : Around} {E : Value → Shared → Prop} {s : Shared}
theorem tail_ris {ep : Nat} {es : Array (Int × Value)} {t : SetTable} {b : Bool} (hr : Ris t.place.toList) : Ris (tailTx ep es t b).2.2.place.toList := by
  unfold tailTx
  split
  · exact relayAll_ris _ _ _
  · exact hr
theorem tail_led {ep : Nat} {es : Array (Int × Value)} {t : SetTable} {b : Bool} : (tailTx ep es t b).2.2.led = t.led := by
  unfold tailTx
  split
  · exact relayAll_led _ _ _
  · rfl
theorem OrdX.add {D : SD} {l : List Str} {k : Str} (u : Tok) (F : OrdX P w D l) (hk : k ∉ l) : OrdX P w (addTx (hashStr w k) (.str k u) D) (k :: l) := by
  refine ⟨PySem.Froz.add_ok u F.ok, List.nodup_cons.mpr ⟨hk, F.nd⟩, ?_, ?_⟩
  · unfold addTx
    refine tail_ris ?_
    split
    · exact layNew_ris _ _ _ _ F.ris
    · exact layNew_ris _ _ _ _ F.ris
  · refine F.led.imp id fun z => ?_
    unfold addTx
    rw [tail_led]
    split
    · exact (layNew_led _ _ _ _).trans z
    · exact (layNew_led _ _ _ _).trans z
/-- adding what is there already -/
theorem add_old {a : Addr} {T : String} {D : SD} {l : List Str} {k : Str} {u : Tok} {Q : Bool → Shared → Prop} (ho : s.heap.get? a = some (sObj T D)) (F : TxOk P w D l) (hk : k ∈ l) (hb : l.length < scanBound) (h : Q false s) :
    wpAny (model P w) A (setAddHashed a (.str k u) (hashStr w k)) Q E s := by
  obtain ⟨es, ep, t⟩ := D
  have hd : (sObj T (es, ep, t)).data = .set es ep t := rfl
  have hf : t.fits es.size = true := F.fit
  have hel : ElemsOf (strKind P w) es.toList := F.el
  have hsz : es.size = l.length := F.sz
  have hb0 : es.size < scanBound := by omega
  have hkey : (strKind P w).is k (.str k u) = true := is_str k u
  obtain ⟨e, he, hq⟩ := (F.mem k).mp hk
  unfold setAddHashed setAddHashedIn
  refine wpAny_holding (wpAny_bind (wpAny_setState_of ho hd hf ?_))
  dsimp only
  rw [byScan_of rfl hb0 hel]
  simp only [↓reduceIte]
  unfold setAddByScan
  refine wpAny_bind (wpAny_bind (wpAny_rule (wpAny_bind (wpAny_setScan_of (knd := strKind P w) (k := k) hkey ho hd hf hel ?_))))
  cases hr : List.findIdx? (fun e => (strKind P w).is k e.2) es.toList with
  | some j => exact wpAny_pure (wpAny_pure h)
  | none =>
    have c := List.findIdx?_eq_none_iff.mp hr e he
    rw [hq] at c
    cases c
end
theorem perm_nodup : ∀ (l m : List Str), l.Nodup → (∀ x ∈ l, x ∈ m) → m.length ≤ l.length → m.Perm l
  | [], m, _, _, h => by
    have e : m = [] := List.length_eq_zero_iff.mp (Nat.le_zero.mp h)
    rw [e]
  | x :: l, m, hn, hm, h => by
    obtain ⟨h1, h2⟩ := List.nodup_cons.mp hn
    have hx := hm x List.mem_cons_self
    have hl := List.length_erase_of_mem hx
    refine (List.perm_cons_erase hx).trans (List.Perm.cons x (perm_nodup l (m.erase x) h2 (fun y hy => ?_) ?_))
    · exact (List.mem_erase_of_ne fun e => h1 (by rw [← e]; exact hy)).mpr (hm y (List.mem_cons_of_mem _ hy))
    · rw [hl]; rw [List.length_cons] at h; omega
section
variable {prog : Program} {w : World} {A : Around} {R : Result → Shared → Prop} {I : Addr} {fp wr : List Addr} {G : Array GenState → Array GenState → Prop} {n : Nat} {P : Nat → Value → Prop} {St : Nat → Shared → Prop}
/-- the texts ahead of i are those of l -/
def AheadX (val : Nat → Str) (i : Nat) (l : List Str) : Prop := ∀ x, x ∈ l ↔ ∃ j, j < i ∧ val j = x
theorem AheadX.old {val : Nat → Str} {i : Nat} {l : List Str} (h : AheadX val i l) (hk : val i ∈ l) : AheadX val (i + 1) l := fun x => by
  rw [h x]
  constructor
  · rintro ⟨j, hj, e⟩; exact ⟨j, by omega, e⟩
  · rintro ⟨j, hj, e⟩
    rcases Nat.lt_or_ge j i with c | c
    · exact ⟨j, c, e⟩
    · obtain rfl : j = i := by omega
      rw [← e]; exact (h _).mp hk
theorem AheadX.add {val : Nat → Str} {i : Nat} {l : List Str} (h : AheadX val i l) : AheadX val (i + 1) (val i :: l) := fun x => by
  rw [List.mem_cons, h x]
  constructor
  · rintro (e | ⟨j, hj, e⟩)
    · exact ⟨i, by omega, e.symm⟩
    · exact ⟨j, by omega, e⟩
  · rintro ⟨j, hj, e⟩
    rcases Nat.lt_or_ge j i with c | c
    · exact .inr ⟨j, c, e⟩
    · obtain rfl : j = i := by omega
      exact .inl e.symm
theorem upd_loopX (W : WalksS prog w A.in1 I fp wr G n P St) (S : Addr) (out : S ∉ fp) (val : Nat → Str) (hval : ∀ i v, P i v → ∃ t, v = .str (val i) t) (hn : n + 1 < scanBound) :
    ∀ (k i : Nat) (s : Shared) (D : SD) (l : List Str), n - i = k → i ≤ n → St i s → s.heap.get? S = some (sObj "set" D) → OrdX prog w D l → l.length ≤ i → AheadX val i l →
    (∀ s' D' l', Moved (S :: wr) G s s' → s'.heap.get? S = some (sObj "set" D') → OrdX prog w D' l' → l'.length ≤ n → AheadX val n l' → R (.ok (.ret .none)) s') → codeAny (model prog w) A (.builtin "set.update.loop" ⟨[.ref S, .ref I], []⟩) R s := by
  have nw : S ∉ wr := fun h => out (W.sub _ h)
  have wid : ∀ b ∈ wr, b ∈ S :: wr := fun b hb => List.mem_cons_of_mem _ hb
  intro k
  induction k with
  | zero =>
    intro i s D l hk hi hst hS F hl ha q
    have e : i = n := by omega
    subst e
    refine codeAny_builtin PyProof.Rows.F.entry_set_update_loop ?_
    rw [Around.under_plainId PyProof.Rows.F.plain_set_update_loop _]; show wpAny _ A.in1 (pyNext (.ref I) >>= _) _ _ s
    refine wpAny_bind (W.done s _ _ hst fun s1 mv => ?_)
    show wpAny _ A.in1 (ret Value.none) _ _ s1
    exact wpAny_pure (q s1 D l (mv.mono wid) (mv.heap S _ nw hS) F hl ha)
  | succ k ih =>
    intro i s D l hk hi hst hS F hl ha q
    have lt : i < n := by omega
    refine codeAny_builtin PyProof.Rows.F.entry_set_update_loop ?_
    rw [Around.under_plainId PyProof.Rows.F.plain_set_update_loop _]; show wpAny _ A.in1 (pyNext (.ref I) >>= _) _ _ s
    refine wpAny_bind (W.item i s _ _ lt hst fun v s1 pv st1 mv => ?_)
    obtain ⟨t, rfl⟩ := hval i v pv
    have S1 : s1.heap.get? S = some (sObj "set" D) := mv.heap S _ nw hS
    show wpAny _ A.in1 (holding [Value.str (val i) t] (setAdd S (.str (val i) t)) >>= _) _ _ s1
    refine wpAny_bind (wpAny_holding ?_)
    unfold setAdd
    refine wpAny_holding (wpAny_bind ((strKind prog w).pyHash (k := val i) (is_str _ _) ?_))
    by_cases hm : val i ∈ l
    · refine add_old (s := { s1 with toks := s1.toks + 1 }) S1 F.ok hm (by omega) ?_
      refine wpAny_pure ⟨plainId_quiet PyProof.Rows.F.plain_set_update_loop _, ih (i + 1) _ D l (by omega) lt (W.frame _ s1 _ _ st1 (Nat.le_succ _) fun b hb o e => e) S1 F (by omega) (ha.old hm) fun s2 D2 l2 mv2 S3 F3 h3 a3 => ?_⟩
      exact q s2 D2 l2 (Moved.trans W.gtrans ((mv.mono wid).then_heap (Nat.le_succ _) fun b o hb e => e) mv2) S3 F3 h3 a3
    · refine add_x (s := { s1 with toks := s1.toks + 1 }) S1 F.ok hm (by omega) ?_
      have S2 : (s1.heap.update S (fun _ => sObj "set" (addTx (hashStr w (val i)) (.str (val i) t) D))).get? S = some (sObj "set" (addTx (hashStr w (val i)) (.str (val i) t) D)) := get_upd _ S1 rfl
      have oth : ∀ b o, b ≠ S → s1.heap.get? b = some o → (s1.heap.update S (fun _ => sObj "set" (addTx (hashStr w (val i)) (.str (val i) t) D))).get? b = some o := fun b o hb e =>
        PySem.Heap.get?_update_of_ne _ (Ne.symm hb) e
      refine wpAny_pure ⟨plainId_quiet PyProof.Rows.F.plain_set_update_loop _, ih (i + 1) _ _ (val i :: l) (by omega) lt (W.frame _ s1 _ _ st1 (Nat.le_succ _) fun b hb o e => ?_) S2 (F.add t hm) (by rw [List.length_cons]; omega) ha.add fun s2 D2 l2 mv2 S3 F3 h3 a3 => ?_⟩
      · exact oth b o (fun h => out (by rw [← h]; exact hb)) e
      · refine q s2 D2 l2 (Moved.trans W.gtrans ((mv.mono wid).then_heap (Nat.le_succ _) fun b o hb e => ?_) mv2) S3 F3 h3 a3
        exact oth b o (fun h => hb (by rw [h]; exact List.mem_cons_self)) e
end
section
variable {prog : Program} {w : World} {A : Around} {E : Value → Shared → Prop} {s : Shared}
theorem call_setX {l : Addr} {items : Array Value} {xs : List Str} {Q : Value → Shared → Prop} (hh : A.handled = none) (hl : s.heap.IsList l items) (hi : PyProof.Rows.StrsAre items.toList xs) (hn : items.size + 1 < scanBound)
    (h : ∀ (h' : Heap) (tk : Nat) (D : SD) (ys : List Str), h'.get? s.heap.objs.size = some (sObj "set" D) → OrdX prog w D ys → ys.length ≤ items.size → (∀ x, x ∈ ys ↔ x ∈ xs) → (∀ b o, b < s.heap.objs.size → s.heap.get? b = some o → h'.get? b = some o) → Q (.ref s.heap.objs.size) { s with heap := h', toks := tk }) :
    wpAny (model prog w) A (call (.type "set") [.ref l]) Q E s := by
  obtain ⟨c0, tl, hmro⟩ := PySem.F.called_set.mro
  have hmade := PySem.F.called_set.made; have hsub := PySem.F.called_set.sub
  have hxs : xs.length = items.size := by rw [← Array.length_toList]; exact hi.length.symm
  have hxi : ∀ i v, items[i]? = some v → ∃ t, v = Value.str (xs.getD i ⟨#[]⟩) t := fun i v hv => by
    have e := hi.strs
    rw [← Array.getElem?_toList] at hv
    obtain ⟨x, t, rfl⟩ := hi.all v (List.mem_of_getElem? hv)
    refine ⟨t, ?_⟩
    rw [← e, List.getD_eq_getElem?_getD, List.getElem?_map, hv]
    rfl
  refine wpAny_call (codeAny_of_tree (show wpAny _ _ (callAny (.type "set") _) _ _ _ from wpAny_pure ⟨Code.quiet_builtin _ (by decide +kernel), codeAny_builtin PySem.F.entry_type_call ?_⟩))
  rw [Around.under_plain (weight_type_call_type "set" [.ref l] []) rfl]
  have h1 := PySem.F.called_set.notType; have h2 := PySem.F.called_set.canCreate; have hct := PySem.F.typeCall_set_1 (.ref l)
  repeat (any_goals (first | assumption | wp_step))
  refine codeAny_mono (new_led (.ref l) (E := E) (Q₁ := fun obj s₁ => obj = .ref s.heap.objs.size ∧ s₁ = { s with heap := s.heap.push (bareSet w) }) ⟨rfl, rfl⟩) fun r s₁ hr => ?_
  cases r with
  | error e => exact hr
  | ok fl =>
    cases fl with
    | ret obj =>
      obtain ⟨rfl, rfl⟩ := hr
      have hS : (s.heap.push (bareSet w)).get? s.heap.objs.size = some (bareSet w) := Heap.get?_push_size _ rfl
      have hT : Shared.TypeIs { s with heap := s.heap.push (bareSet w) } (.ref s.heap.objs.size) "set" := ⟨_, hS, rfl⟩
      have hli := PySem.F.called_set.init.lookup; have hbi := PySem.F.called_set.init.bind (.ref s.heap.objs.size)
      repeat (any_goals (first | assumption | wp_step))
      refine codeAny_mono (codeAny_call_builtin (R := wants (fun r s₂ => r = .none ∧ ∃ (h' : Heap) (tk : Nat) (D : SD) (ys : List Str), s₂ = { s with heap := h', toks := tk } ∧ h'.get? s.heap.objs.size = some (sObj "set" D) ∧ OrdX prog w D ys ∧ ys.length ≤ items.size ∧ (∀ x, x ∈ ys ↔ x ∈ xs) ∧ ∀ b o, b < s.heap.objs.size → s.heap.get? b = some o → h'.get? b = some o) E) PySem.F.called_set.init.plain PySem.F.entry_set_init (PySem.check_set_init_1 hT ?_)) fun r₂ s₂ hr₂ => ?_
      · obtain ⟨ol, hol, hcl, nl, hdl⟩ := hl
        obtain ⟨ocls, odict, odata, oslots⟩ := ol
        dsimp only at hcl hdl
        subst hcl hdl
        have hol1 : (s.heap.push (bareSet w)).get? l = some { cls := .type "list", dict := odict, data := .seq items nl, slots := oslots } := Heap.get?_push_of_some _ hol
        have hl1 : (s.heap.push (bareSet w)).IsList l items := ⟨_, hol1, rfl, nl, rfl⟩
        have n1 := PySem.F.sub_list_set; have n2 := PySem.F.sub_list_frozenset
        have n3 : (Value.type "list" == Value.type "dict") = false := by decide
        have hol' := hol1
        unfold bareSet at hol'
        unfold Builtin.«set.__init__» noKeywords Builtin.Frozenset.updateFrom; generalize hPI : pyIter = PI
        wp_walk
        subst hPI
        refine wpAny_pyIter_list hl1 (wpAny_bind (wpAny_runValue ?_))
        have hlS : l < s.heap.objs.size := Heap.lt_size hol
        have apart : l ≠ (s.heap.push (bareSet w)).objs.size := by rw [Heap.size_push]; exact Nat.ne_of_lt (Nat.lt_succ_of_lt hlS)
        have away : s.heap.objs.size ∉ [(s.heap.push (bareSet w)).objs.size, l] := by
          rw [Heap.size_push]
          intro hm
          rcases List.mem_cons.mp hm with e | hm
          · omega
          · exact Nat.ne_of_gt hlS (List.mem_singleton.mp hm)
        refine upd_loopX ((Walks.list (show A.in1.in1.in1.handled = none by simp [hh]) _ l apart items).toS) s.heap.objs.size away (fun i => xs.getD i ⟨#[]⟩) (fun i v hv => hxi i v hv) hn (items.size - 0) 0 _ (#[], 0, .fresh 0 0 (!w.params.followText "set-order")) [] (by omega) (Nat.zero_le _) ⟨⟨_, Heap.get?_push_size _ rfl, rfl, rfl⟩, hl1.push _⟩ ?fresh ?ord (Nat.zero_le _) (fun x => Iff.intro (fun z => nomatch z) (fun ⟨j, hj, _⟩ => absurd hj (Nat.not_lt_zero _))) ?rest
        case fresh => exact Heap.get?_push_of_some _ hS
        case ord =>
          refine ⟨PySem.Froz.TxOk.nil rfl, List.nodup_nil, List.Pairwise.nil, ?_⟩
          show _ ∨ (!w.params.followText "set-order") = true
          cases w.params.followText "set-order"
          · exact .inr rfl
          · exact .inl rfl
        case rest =>
          intro s3 D3 l3 mv S3 F3 h3 a3
          obtain ⟨hp3, g3, d3, tk3, os3⟩ := s3
          obtain rfl : g3 = s.gens := mv.gens
          obtain rfl : d3 = s.drawn := mv.drawn
          obtain rfl : os3 = s.os := mv.os
          refine wpAny_pure (show wpAny _ _ (ret Value.none) _ _ _ from wpAny_pure ⟨rfl, hp3, tk3, D3, l3, rfl, S3, F3, h3, fun x => ?_, fun b o hb e => ?_⟩)
          · rw [a3 x]
            constructor
            · rintro ⟨j, hj, e⟩
              rw [← hxs] at hj
              rw [← e]
              show xs.getD j ⟨#[]⟩ ∈ xs
              rw [List.getD_eq_getElem?_getD, List.getElem?_eq_getElem hj]
              exact List.getElem_mem hj
            · intro hm
              obtain ⟨j, hj, e⟩ := List.mem_iff_getElem.mp hm
              refine ⟨j, by rw [← hxs]; exact hj, ?_⟩
              show xs.getD j ⟨#[]⟩ = x
              rw [List.getD_eq_getElem?_getD, List.getElem?_eq_getElem hj]
              exact e
          · refine mv.heap b o (fun hm => ?_) (Heap.get?_push_of_some _ (Heap.get?_push_of_some _ e))
            rcases List.mem_cons.mp hm with e | hm
            · exact Nat.ne_of_lt hb e
            · have e := List.mem_singleton.mp hm
              rw [Heap.size_push] at e
              exact Nat.ne_of_lt (Nat.lt_succ_of_lt hb) e
      · cases r₂ with
        | error e => exact hr₂
        | ok fl₂ =>
          cases fl₂ with
          | ret r =>
            obtain ⟨rfl, h', tk, D, ys, rfl, hS', F', hl', hm', hk'⟩ := hr₂
            repeat (any_goals (first | assumption | wp_step))
            exact h _ _ _ _ hS' F' hl' hm' hk'
          | _ => exact hr₂.elim
    | _ => exact hr.elim
/-- sorted(S), S a set of texts -/
theorem sorted_setX {a : Addr} {D : SD} {l : List Str} {Q : Value → Shared → Prop} (hS : s.heap.get? a = some (sObj "set" D)) (F : OrdX prog w D l) (hh : A.handled = none) (h64 : l.length < 64)
    (hQ : ∀ s' p (out : Array Value) (c : Nat) (ys : List Str), (∀ b o, s.heap.get? b = some o → s'.heap.get? b = some o) → s'.gens = s.gens → s'.os = s.os → s.heap.objs.size ≤ p →
      s'.heap.get? p = some (seqObj "list" out c) → StrsAre out.toList ys → ys.Perm l → sortedS ys = true → Q (.ref p) s') :
    wpAny (model prog w) A (call (.builtin "sorted") [.ref a]) Q E s := by
  obtain ⟨es, ep, t⟩ := D
  have hsz : es.size = l.length := F.ok.sz
  have hb : es.size < scanBound := by unfold scanBound; omega
  refine Calls.call_function_entry kind_sorted plain_sorted entry_sorted (args_sorted1 _) ?_
  unfold Builtin.«sorted»
  refine wpAny_bind (m := checkCount "sorted" 1 1 _) (wpAny_pure ?_)
  refine wpAny_bind (collect_set (A := A.in1) hh ⟨_, hS, rfl, rfl⟩ F.ok.fit hb F.ris F.led fun s1 vs k1 hz g1 o1 pm => ?_)
  have hvl : vs.length = l.length := by rw [pm.length_eq, List.length_map, Array.length_toList]; exact hsz
  have hall : ∀ v ∈ vs, ∃ x u, v = .str x u := fun v hv => by
    obtain ⟨e, he, q⟩ := List.mem_map.mp (pm.mem_iff.mp hv)
    obtain ⟨⟨k, hk, _⟩, _⟩ := F.ok.el e he
    obtain ⟨u, hu⟩ := Value.isStrOf_shape hk
    exact ⟨k, u, by rw [← q]; exact hu⟩
  have hI : StrsAre vs (vs.map strOf) := strsAre_map vs hall
  have pk : (vs.map strOf).Perm l := by
    refine perm_nodup l _ F.nd (fun x hx => ?_) (by rw [List.length_map, hvl]; exact Nat.le_refl _)
    obtain ⟨e, he, q⟩ := (F.ok.mem x).mp hx
    obtain ⟨u, hu⟩ := Value.isStrOf_shape q
    exact List.mem_map.mpr ⟨.str x u, pm.mem_iff.mpr (List.mem_map.mpr ⟨e, he, hu⟩), rfl⟩
  refine wpAny_bind (wpAny_newList ?_ (by rw [hvl, sizeLine_eq]; omega))
  have hoL : (s1.heap.push (seqObj "list" vs.toArray 0)).get? s1.heap.objs.size = some (seqObj "list" vs.toArray 0) := Heap.get?_push_size _ rfl
  refine wpAny_bind (wpAny_holding (wpAny_call_entry slot_list_sort ⟨_, hoL, rfl⟩ entry_list_sort (list_sort_treeK strKind_oneLt hoL hI.keysOf (fun v₁ v₂ rest e => keyKind_strs (by rw [← e]; exact hI)) (by rw [hvl]; exact h64) fun st a1 a2 => ⟨_, rfl, ?_⟩) (args_list_sort _)))
  obtain ⟨ys, b1, b2, b3⟩ := sorted_out_str hI a1 a2
  obtain ⟨c, hc⟩ := sortedHeap_at (vs := vs) (out := (arrOf st).map (·.2)) hoL
  refine wpAny_pure ⟨_, rfl, hQ _ s1.heap.objs.size _ c ys (fun b u e => ?_) g1 o1 hz hc b1 (b2.trans pk) b3⟩
  have q := k1 b u e
  have hlt := Heap.lt_size q
  show (sortedHeap (s1.heap.push (seqObj "list" vs.toArray 0)) s1.heap.objs.size vs _).get? b = some u
  rw [sortedHeap_old (Nat.ne_of_lt hlt) (by rw [size_push']; exact Nat.lt_succ_of_lt hlt)]
  exact Heap.get?_push_of_some _ q
end
section
variable {X : Cx} {x y : Str} {p p2 pos pos2 : Pos} {e : Expr} {te : TE}
/-- sorted(set(xs)), xs a list of fewer than 64 texts -/
def tSortSet (K : PySem.W.Frag) (te : TE) : TE := fun σ H Q => te σ H fun v H1 => ∃ (a : Addr) (xs : List Str), v = .ref a ∧ SqL K H1 a (xs.map V.str) ∧ xs.length < 64 ∧
  ∀ (ys : List Str) (q : Addr), ys.Nodup → (∀ k, k ∈ ys ↔ k ∈ xs) → sortedS ys = true → H1 q = none → Q (.ref q) (upd H1 q (.lst (ys.map V.str)))
theorem pe_sortSet (hc : X.calm = true) (hg : Gl X x) (hm : X.mg x = none) (hv : bootBuiltins x = some (.builtin "sorted")) (hg2 : Gl X y) (hm2 : X.mg y = none) (hv2 : bootBuiltins y = some (.type "set")) (ha : PE X e te)
    (hn : x ≠ "__name__" := by decide) (hdb : (x == ("__debug__" : Str)) = false := by decide) (hn2 : y ≠ "__name__" := by decide) (hdb2 : (y == ("__debug__" : Str)) = false := by decide)
    (he : starEach [e] X.env = (false, eval e X.env) :: starEach [] X.env := by rfl) :
    PE X (.Call (.Name x p) [.Call (.Name y p2) [e] [] pos2] [] pos) (tSortSet X.K te) := by
  refine ⟨fun pins s σ H Q I h => ?_⟩
  refine wpAny_Call_Name_kw (ld_blt I hg hm hv ?_ hn hdb)
  refine PyProof.Rows.callWith_builtin1 ?_ rfl rfl
  show wpAny _ _ (spliced ((false, eval (.Call (.Name y p2) [e] [] pos2) X.env) :: backTo pos (starEach [] X.env))) _ _ s
  refine Calls.spliced_cons (wpAny_Call_Name_kw (ld_blt I hg2 hm2 hv2 ?_ hn2 hdb2))
  refine PyProof.Rows.callWith_type1 ?_ he rfl
  rw [he]
  show wpAny _ _ (spliced ((false, eval e X.env) :: backTo pos2 (starEach [] X.env))) _ _ s
  refine Calls.spliced_cons (thn (ha.run pins s σ H _ I h) fun u s1 ⟨v, H1, I1, r1, q1⟩ => Calls.spliced_nil ?_)
  obtain ⟨a, xs, rfl, hs, h64, q⟩ := q1
  obtain rfl : u = Value.ref a := r1
  obtain ⟨its, rv, pl, hz⟩ := I1.list hs
  have hsz : its.toArray.size = xs.length := by
    have := rv.length
    rw [List.length_map] at this
    rw [List.size_toArray]; omega
  refine call_setX (I1.ok.hd hc) pl.isList rv.strs (by rw [hsz]; unfold scanBound; omega) fun h' tk D ys S F hle hmem keep => Calls.spliced_nil ?_
  have k1 : ∀ b o, s1.heap.get? b = some o → h'.get? b = some o := fun b o e => keep b o (Heap.lt_size e) e
  refine sorted_setX (s := { s1 with heap := h', toks := tk }) S F (I1.ok.hd hc) (by omega) fun s' p out c zs k g o hp hob hst hperm hsort => ?_
  have hlen : (zs.map V.str).length ≤ sizeLine := by rw [List.length_map, hperm.length_eq, sizeLine_eq]; omega
  have hp1 : s1.heap.objs.size ≤ p := Nat.le_trans (Nat.le_of_lt (Heap.lt_size S)) hp
  have hn1 : H1 p = none := I1.hok.fresh hp1
  have J : Inv X pins σ (upd H1 p (.lst (zs.map V.str))) { s1 with heap := s'.heap, gens := s'.gens, drawn := s'.drawn, toks := s'.toks } :=
    I1.call (ch := []) (Un.laid (fun b o e => k b o (k1 b o e)) hp1 hn1) (I1.hok.laid (fun b o e => k b o (k1 b o e)) hp1 ⟨hlen, out.toList, c, vals_of_strs hst, hob⟩) (by rw [g]; exact I1.bare) (fun _ z => nomatch z)
  have e : s' = { s1 with heap := s'.heap, gens := s'.gens, drawn := s'.drawn, toks := s'.toks } := by
    cases s'
    cases s1
    cases o
    rfl
  rw [e]
  exact ⟨.ref p, _, J, rfl, q zs p (hperm.nodup_iff.mpr F.nd) (fun k => hperm.mem_iff.trans (hmem k)) hsort hn1⟩
end
end KW
namespace KW
open PySem PySem.Spec PyProof.Rows L2
/-- a tuple many times: up to a million items -/
def rRepM (K : PySem.W.Frag) : R2 := fun x y H Q => ∃ (l : Addr) (k : Nat) (xs : List V), x = .ref l ∧ y = .int k ∧ SqT K H l xs ∧ xs ≠ [] ∧ 2 ≤ k ∧ xs.length * k ≤ 1000000 ∧ ∀ p, H p = none → Q (.ref p) (upd H p (.tup (List.replicate k xs).flatten))
section
variable {X : Cx}
theorem op_repM : OpR X (binaryOp .Mult) (rRepM X.K) := by
  intro pins s σ H x y v u Q I rx ry h
  obtain ⟨l, k, xs, rfl, rfl, hT, hne, h1, hz, q⟩ := h
  cases rx
  obtain ⟨t, rfl⟩ := ry
  obtain ⟨its, r, ⟨⟨cls, dd, data, sl⟩, ho, hc, n, hd⟩, hs⟩ := I.tuple hT
  simp only at hc hd; subst hc hd
  have hle : its.length = xs.length := r.length.symm
  have hxs : 1 ≤ xs.length := by cases xs with | nil => exact absurd rfl hne | cons a b => rw [List.length_cons]; omega
  have hk : k ≤ 1000000 := Nat.le_trans (by have := Nat.mul_le_mul_right k hxs; omega) hz
  have hi : its.toArray.isEmpty = false := by cases its with | nil => (exfalso; rw [← hle] at hxs; exact absurd hxs (by decide)) | cons a b => rfl
  have hm : ((its.toArray.size : Nat) : Int) * (k : Int) ≤ 1000000 := by rw [List.size_toArray, hle, ← Int.natCast_mul]; exact Int.ofNat_le.mpr hz
  have flen : (List.replicate (k : Int).toNat its).flatten.length ≤ sizeLine := by rw [PyProof.Rows.lm_len_rep_flat, hle, sizeLine_eq, Int.toNat_natCast, Nat.mul_comm]; omega
  have c0 : (decide ((k : Int) < -(2 ^ 63)) || decide ((k : Int) ≥ 2 ^ 63)) = false := by rw [decide_eq_false (by omega), decide_eq_false (by omega), Bool.or_false]
  have c1 : (its.toArray.isEmpty || (k : Int) == 1) = false := by rw [hi, Bool.false_or]; exact beq_eq_false_iff_ne.mpr (by omega)
  have c2 : (decide ((k : Int) ≤ 0) || its.toArray.isEmpty) = false := by rw [hi, Bool.or_false]; exact decide_eq_false (by omega)
  have c4 : Builtin.Tuple.tupleTooMany (((its.toArray.size : Nat) : Int) * k) = false := by unfold Builtin.Tuple.tupleTooMany; rw [sizeLine_eq]; exact decide_eq_false (by omega)
  refine wpAny_binaryOp_repeat_ref (T := "tuple") (U := "int") (by decide) ⟨_, ho, rfl⟩ (fun s' => typeIs_int s' k t) noFill_tuple_mul PySem.F.fills_int_mul PySem.F.slot_int_rmul repeat_tuple PySem.F.slot_int_index.lookup (call_meets PySem.F.slot_int_rmul (typeIs_int s k t) PySem.F.entry_int_rmul (PySem.F.args_int_rmul_2 _ _) (int_rmul_tuple k t l its.toArray n dd sl) ⟨ho, rfl, ⟨_, ho, rfl⟩, call_meets PySem.F.slot_tuple_mul ⟨_, ho, rfl⟩ PySem.F.entry_tuple_mul (PySem.F.args_tuple_mul_2 _ _) (tuple_mulW l its.toArray n dd sl k t c0 c1 c2 (by omega) c4 (by rw [size_rep, List.size_toArray]; exact flen)) ⟨ho, ?_⟩⟩)
  rw [size_rep]
  have fl2 : (List.replicate k xs).flatten.length ≤ sizeLine := by rw [PyProof.Rows.lm_len_rep_flat, sizeLine_eq, Nat.mul_comm]; omega
  exact ⟨.ref s.heap.objs.size, _, I.laid (t' := s.toks) (o := .tup (List.replicate k xs).flatten) (fun b ob q => Heap.get?_push_of_some _ q) (Nat.le_refl _) ⟨fl2, _, r.rep k, IsTup.new _ _⟩, rfl, q _ (I.hok.fresh (Nat.le_refl _))⟩
end
end KW

/-! Which texts are sets of signs: told by sorting. -/
namespace KW
open PySem PySem.Spec PyProof.Rows L2
theorem lt_sg (x p : Nat) : ltCps (sg x).cps.toList (sg p).cps.toList = decide (x < p) := by
  rw [ltCps_eq]
  show decide (([x] : List Nat) < [p]) = _
  by_cases h : x < p
  · rw [decide_eq_true h]; exact decide_eq_true (List.Lex.rel h)
  · rw [decide_eq_false h]
    refine decide_eq_false fun e => ?_
    cases e with
    | rel h' => exact h h'
    | cons h' => cases h'
theorem rising_sg : ∀ (p : Nat) (l : List Nat), risingS (sg p) (l.map sg) = true → (p :: l).Pairwise (· ≤ ·)
  | p, [], _ => List.pairwise_singleton _ _
  | p, x :: r, h => by
    have h : (!ltCps (sg x).cps.toList (sg p).cps.toList && risingS (sg x) (r.map sg)) = true := h
    rw [Bool.and_eq_true, lt_sg, Bool.not_eq_true', decide_eq_false_iff_not] at h
    have ih := rising_sg x r h.2
    refine List.pairwise_cons.mpr ⟨fun y hy => ?_, ih⟩
    rcases List.mem_cons.mp hy with rfl | hy
    · omega
    · have := (List.pairwise_cons.mp ih).1 y hy
      omega
theorem sorted_sg : ∀ (l : List Nat), sortedS (l.map sg) = true → l.Pairwise (· ≤ ·)
  | [], _ => List.Pairwise.nil
  | x :: r, h => rising_sg x r h
theorem sg_injN {a b : Nat} (h : sg a = sg b) : a = b := by
  have e : (sg a).cps.toList = (sg b).cps.toList := congrArg (fun s : Str => s.cps.toList) h
  have e : [a] = [b] := e
  injection e
theorem asc_uniq : ∀ (l m : List Nat), l.Pairwise (· < ·) → m.Pairwise (· < ·) → (∀ c, c ∈ l ↔ c ∈ m) → l = m
  | [], [], _, _, _ => rfl
  | [], x :: m, _, _, h => absurd ((h x).mpr List.mem_cons_self) (fun z => nomatch z)
  | x :: l, [], _, _, h => absurd ((h x).mp List.mem_cons_self) (fun z => nomatch z)
  | x :: l, y :: m, hl, hm, h => by
    obtain ⟨a1, a2⟩ := List.pairwise_cons.mp hl
    obtain ⟨b1, b2⟩ := List.pairwise_cons.mp hm
    have e : x = y := by
      rcases List.mem_cons.mp ((h x).mp List.mem_cons_self) with e | e
      · exact e
      · rcases List.mem_cons.mp ((h y).mpr List.mem_cons_self) with e' | e'
        · exact e'.symm
        · have := a1 y e'; have := b1 x e; omega
    subst e
    rw [asc_uniq l m a2 b2 fun c => ?_]
    constructor
    · intro hc
      rcases List.mem_cons.mp ((h c).mp (List.mem_cons_of_mem _ hc)) with e | e
      · have := a1 c hc; omega
      · exact e
    · intro hc
      rcases List.mem_cons.mp ((h c).mpr (List.mem_cons_of_mem _ hc)) with e | e
      · have := b1 c hc; omega
      · exact e
theorem flat_one (l : List Nat) : (l.map fun c => [c]).flatten = l := by
  induction l with
  | nil => rfl
  | cons c cs ih => rw [List.map_cons, List.flatten_cons, ih]; rfl
/-- ''.join(sorted(set(list(y)))) == y, just if y ascends -/
theorem join_asc {y : Str} {ys : List Str} (nd : ys.Nodup) (mem : ∀ k, k ∈ ys ↔ k ∈ (cl y).map sg) (srt : sortedS ys = true) :
    ∃ ds : List Nat, ys = ds.map sg ∧ Txt.join (Str.ofString "") ys = stL ds ∧ ds.length ≤ y.length ∧ decide (y = stL ds) = ascB (cl y) := by
  obtain ⟨ds, rfl⟩ : ∃ ds : List Nat, ys = ds.map sg := by
    refine ⟨ys.map fun k => k.cps.toList.headD 0, ?_⟩
    rw [List.map_map]
    have e : ∀ k ∈ ys, (sg ∘ fun k : Str => k.cps.toList.headD 0) k = id k := fun k hk => by
      obtain ⟨c, _, rfl⟩ := List.mem_map.mp ((mem k).mp hk)
      rfl
    rw [List.map_congr_left e, List.map_id]
  have hmem : ∀ c, c ∈ ds ↔ c ∈ cl y := fun c => by
    have h := mem (sg c)
    constructor
    · intro hc
      obtain ⟨c', h1, h2⟩ := List.mem_map.mp (h.mp (List.mem_map.mpr ⟨c, hc, rfl⟩))
      rw [← sg_injN h2]; exact h1
    · intro hc
      obtain ⟨c', h1, h2⟩ := List.mem_map.mp (h.mpr (List.mem_map.mpr ⟨c, hc, rfl⟩))
      rw [← sg_injN h2]; exact h1
  have hle := sorted_sg ds srt
  have hnd : ds.Nodup := by
    rw [List.Nodup, List.pairwise_map] at nd
    exact nd.imp fun {a b} h e => h (by rw [e])
  have hlt : ds.Pairwise (· < ·) := (hle.and hnd).imp fun {a b} h => Nat.lt_of_le_of_ne h.1 h.2
  have hj : Txt.join (Str.ofString "") (ds.map sg) = stL ds := by
    have e : ds.map sg = (ds.map fun c => [c]).map stL := by rw [List.map_map]; rfl
    rw [e, join_sts, flat_one]
  refine ⟨ds, rfl, hj, ?_, ?_⟩
  · have := nodup_sub ds (cl y) hnd fun c hc => (hmem c).mp hc
    rw [cl_len] at this
    exact this
  · by_cases h : ascB (cl y) = true
    · rw [h]
      have e := asc_uniq (cl y) ds (asc_pw h) hlt fun c => (hmem c).symm
      refine decide_eq_true ?_
      rw [← e, stL_cl]
    · rw [Bool.not_eq_true] at h
      rw [h]
      refine decide_eq_false fun e => ?_
      rw [e, cl_stL, pw_asc hlt] at h
      cases h
def sgV : V → Bool
  | .str y => signsB y
  | _ => false
theorem alpha_let (c : Nat) : decide (c ∈ cl "abcdefghijklmnopqrstuvwxyz") = letB c := by
  have e : cl "abcdefghijklmnopqrstuvwxyz" = List.range' 97 26 := by decide +kernel
  rw [e]
  unfold letB
  rw [Bool.eq_iff_iff, decide_eq_true_iff, Bool.and_eq_true, decide_eq_true_iff, decide_eq_true_iff, List.mem_range'_1]
  omega
end KW

/-! Defs that raise nothing, called whatever exception is handled. -/
namespace KW
open PySem PySem.Spec PyProof.Rows L2
open L2H (RoomH roomH_of)
/-- what a def promises, an exception handled or none -/
structure FnC (P : Program) (w : World) (K : PySem.W.Frag) (mg : Str → Option Value) (base : Heap) (k : Nat) (f : Addr) (fd : FuncData) (ps : List Str) (sp : Sp) : Prop where
  len : ∀ vs H Q E, sp vs H Q E → vs.length = ps.length
  run : ∀ (A : Around) (outer : List Env) (s : Shared) (H : Hp) (args : Args) (us : List Value) (vs : List V) (Q : VK) (E : XK), RoomH k A → Env0 P w K mg base A outer s H → BindsTo s fd args (ps.zip us) → Vals vs us → sp vs H Q E →
    codeAny (model P w) A (.call (.ref f) args) (CR CX0 outer P w H s Q E) s
/-- the body's context -/
abbrev cxC (P : Program) (w : World) (K : PySem.W.Frag) (mg : Str → Option Value) (base : Heap) (N : List Str) (qual : Str) (scope : Scope) (f : Addr) (cd : Value) (A : Around) (outer : List Env) (s : Shared) (H : Hp) (E : XK) : Cx :=
  { cxOf CX0 P w K mg base N qual scope f cd A outer s H E with calm := false }
theorem roomC {j k : Nat} {A A' : Around} (r : Room j A) (h : k ≤ j) (hd : A'.depth = A.depth := by rfl) (hu : A'.units = A.units := by rfl) : RoomH k A' :=
  ⟨by have := (roomH_of (r.mono h)).dp; rw [hd]; exact this, by have := (roomH_of (r.mono h)).un; rw [hu]; exact this⟩
section
variable {P : Program} {w : World} {K : PySem.W.Frag} {mg : Str → Option Value} {base : Heap}
theorem env0_calm {A A' : Around} {outer : List Env} {s : Shared} {H : Hp} (e : Env0 P w K mg base A outer s H) (hf : A'.frames = A.frames := by rfl) : Env0 P w K mg base A' outer s H :=
  ⟨by rw [hf]; exact e.frames, e.mod, e.bs, e.bsz, e.funs, e.frf, e.hok, e.bare⟩
theorem inv_startC {N ps : List Str} {qual : Str} {scope : Scope} {f : Addr} {cd : Value} {A : Around} {outer : List Env} {s s1 : Shared} {H : Hp} {E : XK} {us : List Value} {vs : List V}
    (S : FnScope N ps scope) (e0 : Env0 P w K mg base A outer s H) (hl : vs.length = ps.length) (r : Vals vs us)
    (x : InCallC s s.heap.objs.size (bindL (envOfC qual scope s.heap.objs.size f cd).kindOf (ps.zip us) fun _ => none) (cellsFrom (s.heap.objs.size + 1) scope.names []) (bindC (envOfC qual scope s.heap.objs.size f cd).kindOf (ps.zip us) fun _ => none) s1) :
    Inv (cxC P w K mg base N qual scope f cd A outer s H E) [] (start N vs) H s1 := by
  have I := inv_start (CX := CX0) (A := { A with handled := none }) (E := E) S rfl (env0_calm e0) hl r x
  have ok := I.ok
  exact ⟨⟨ok.mod, ok.kind, ok.glob, ok.blt, ok.above, ok.inj, ok.has, ok.cab, (fun z => nomatch (show false = true from z)), Around.frames_deeper e0.frames, ok.stk, ok.exf, ok.bs, ok.bsz, ok.noex, ok.exfs, ok.funs, ok.frf⟩,
    I.os, I.bare, I.base, I.loc, I.cell, I.free, I.freeC, I.pin, I.hok, I.len⟩
theorem Fun.okC {x qual : Str} {st : Stmt} {f : Addr} {fd : FuncData} {N ps : List Str} {k : Nat} {sp : Sp} (F : Fun K x qual st f fd) (S : FnScope N ps (defScope st)) (len : ∀ vs H Q E, sp vs H Q E → vs.length = ps.length)
    (hbody : ∀ (cdv : Value) (A : Around) (outer : List Env) (s : Shared) (H : Hp) (vs : List V) (Q : VK) (E : XK), RoomH k (A.deeper (envOfC qual (defScope st) s.heap.objs.size f cdv)) → sp vs H Q E →
      ∃ t, PSs (cxC P w K mg base N qual (defScope st) f cdv A outer s H E).nox (defBody st) t ∧ t { nx := fun _ H' => Q .non H', rt := Q } (start N vs) H) : FnC P w K mg base (k + 1) f fd ps sp := by
  obtain ⟨oc, od, kV, doc, pm, an, cdv, ct, osl, rfl, lk, hcd⟩ := F.ex
  refine ⟨len, fun A outer s H args us vs Q E hr e0 hb r hsp => ?_⟩
  have hl := len _ _ _ _ hsp
  have KX : K.In s.heap := e0.mod.kin.keeps fun b o e => (e0.bs b o e).1
  have lim : s.heap.NoLimit := e0.mod.nolimit.keeps fun b o e => (e0.bs b o e).1
  have hkind : ∀ y ∈ ps.zip us, (defScope st).names.lookup y.1 = some .local ∨ ((defScope st).names.lookup y.1 = some .cell ∧ ((cellsFrom (s.heap.objs.size + 1) (defScope st).names []).lookup y.1).isSome = true) :=
    fun ⟨n, v⟩ hy => (S.par n (List.of_mem_zip hy).1).imp id fun q => ⟨q, PySem.W.cellsFrom_some _ _ _ (.inl q)⟩
  refine codeAny_call_function hr.depth (KX _ _ lk) rfl S.co S.gen rfl (PySem.W.codeRec_of KX hcd) (hb _ _ _ _ (wpAny_newFunctionEnv_cells S.kind hkind fun env he s1 x => ?_))
  subst he
  refine ⟨lim.keeps x.toInCall.keep, codeAny_func ?_⟩
  obtain ⟨t, ht, hq⟩ := hbody cdv A outer s H vs Q E (hr.deeper _) hsp
  have I : Inv (cxC P w K mg base N qual (defScope st) f cdv A outer s H E) [] (start N vs) H s1 := inv_startC S e0 hl r x
  refine wpAny_mono (ht.nox.run [] s1 (start N vs) H _ I hq) (fun fl s' hs => ?_) fun e s' hs => hs
  cases fl with
  | ret u => obtain ⟨v, σ', H', J, rv, q⟩ := hs; exact ⟨v, H', J.os, J.bare, J.base, J.hok, rv, q⟩
  | next => obtain ⟨σ', H', J, q⟩ := hs; exact ⟨V.non, H', J.os, J.bare, J.base, J.hok, rfl, q⟩
  | brk => obtain ⟨_, _, _, q⟩ := hs; exact q.elim
  | cont => obtain ⟨_, _, _, q⟩ := hs; exact q.elim
end
section
variable {X : Cx} {k : Nat} {f C : Addr} {fd : FuncData} {ps : List Str} {sp : Sp} {x m : Str} {q pos apos : Pos} {e o : Expr} {es : List Expr} {ta : TE} {t : TA}
theorem run_fnC {pins : List (Addr × Obj)} {σ : L2.St} {H : Hp} {s : Shared} {Q : VK} {us : List Value} {vs : List V} (F : FnC X.prog X.w X.K X.mg X.base k f fd ps sp) (hr : RoomH k X.A) (hb : Binds X.K fd ps []) (I : Inv X pins σ H s) (r : Vals vs us)
    (h : sp vs H Q E0) : wpAny (model X.prog X.w) X.A (call (.ref f) us) (EP X pins σ Q) X.xe s := by
  have hl : us.length = ps.length := by rw [← r.length]; exact F.len _ _ _ _ h
  have b := hb s us I.kIn (by rw [List.append_nil]; exact hl)
  rw [List.append_nil] at b
  refine wpAny_call (codeAny_mono (F.run X.A X.stack s H ⟨us, []⟩ us vs Q E0 hr I.env0 b r h) fun r s' hq => ?_)
  cases r with
  | error e => exact False.elim hq
  | ok fl =>
    cases fl with
    | ret u => exact I.after hq
    | next => exact False.elim hq
    | brk => exact False.elim hq
    | cont => exact False.elim hq
def tMethC (C : Addr) (m : Str) (sp : Sp) (ta : TE) (t : TA) : TE := fun σ H Q => ta σ H fun x H1 => ∃ a dx fs, x = .ref a ∧ H1 a = some (.ins C dx fs) ∧ fs.lookup m = none ∧ t σ H1 fun vs H2 => sp (x :: vs) H2 Q E0
theorem pe_methC0 {pl : Sem Bool} (he : PE X o ta) (c : Cls X.K C) (hm : Meth X.K C m f) (F : FnC X.prog X.w X.K X.mg X.base k f fd ps sp) (hr : RoomH k X.A) (hb : Binds X.K fd ps [])
    (ht : eval (.Call (.Attribute o m apos) [] [] pos) X.env = (do
      let ov ← eval o X.env
      standAt apos.atName
      let (f, first) ← holding [ov] (getMethod ov m pl)
      callWith pos f first (backTo pos (starEach [] X.env)) (backToKw pos (keywordEach [] X.env))) := by rfl) : PE X (.Call (.Attribute o m apos) [] [] pos) (tMethC C m sp ta tNil) := by
  refine ⟨fun pins s σ H Q I h => ?_⟩
  refine PySem.W.methodCall_KW (pl := pl) (thn (he.run pins s σ H _ I h) fun u s1 ⟨x, H1, I1, rx, a, dx, fs, ex, ea, l, q⟩ => ?_) ht
  subst ex
  obtain rfl : u = Value.ref a := rx
  exact getmeth_ok I1 ea c hm l (PySem.W.callWith_K0 (first := [.ref a]) I1.kIn hm.kp (run_fnC (us := [.ref a]) (vs := [.ref a]) F hr hb I1 (.cons rfl .nil) q))
theorem pe_methC {pl : Sem Bool} (he : PE X o ta) (c : Cls X.K C) (hm : Meth X.K C m f) (F : FnC X.prog X.w X.K X.mg X.base k f fd ps sp) (hr : RoomH k X.A) (hb : Binds X.K fd ps []) (ha : PA X (e :: es) t)
    (hst : starEach (e :: es) X.env = (false, eval e X.env) :: starEach es X.env := by rfl) (hpl : (backTo pos (starEach es X.env)).any (·.1) = false := by rfl)
    (ht : eval (.Call (.Attribute o m apos) (e :: es) [] pos) X.env = (do
      let ov ← eval o X.env
      standAt apos.atName
      let (f, first) ← holding [ov] (getMethod ov m pl)
      callWith pos f first (backTo pos (starEach (e :: es) X.env)) (backToKw pos (keywordEach [] X.env))) := by rfl) : PE X (.Call (.Attribute o m apos) (e :: es) [] pos) (tMethC C m sp ta t) := by
  refine ⟨fun pins s σ H Q I h => ?_⟩
  refine PySem.W.methodCall_KW (pl := pl) (thn (he.run pins s σ H _ I h) fun u s1 ⟨x, H1, I1, rx, a, dx, fs, ex, ea, l, q⟩ => ?_) ht
  subst ex
  obtain rfl : u = Value.ref a := rx
  refine getmeth_ok I1 ea c hm l (PySem.W.callWith_K (first := [.ref a]) (h₀ := X.base) I.ok.mod.kin hm.kp (thn (ha.run pos pins s1 σ H1 _ I1 q) fun us s2 ⟨vs, H2, I2, r, q2⟩ => ⟨I2.kIn, ?_⟩) hst hpl)
  exact run_fnC (us := .ref a :: us) (vs := .ref a :: vs) F hr hb I2 (.cons rfl r) q2
def tCallC (sp : Sp) (t : TA) : TE := fun σ H Q => t σ H fun vs H1 => sp vs H1 Q E0
theorem pe_callC (F : FnC X.prog X.w X.K X.mg X.base k f fd ps sp) (hr : RoomH k X.A) (hg : Gl X x) (hm : X.mg x = some (.ref f)) (hk : PySem.W.keepIn X.K (.ref f) = true) (hb : Binds X.K fd ps []) (ha : PA X (e :: es) t)
    (hdb : (x == ("__debug__" : Str)) = false := by decide) (he : starEach (e :: es) X.env = (false, eval e X.env) :: starEach es X.env := by rfl) (hpl : (backTo pos (starEach es X.env)).any (·.1) = false := by rfl) :
    PE X (.Call (.Name x q) (e :: es) [] pos) (tCallC sp t) := by
  refine ⟨fun pins s σ H Q I h => wpAny_Call_Name_kw (ld_glob I hg hm ?_ hdb)⟩
  refine PySem.W.callWith_K (h₀ := X.base) I.ok.mod.kin hk (thn (ha.run pos pins s σ H _ I h) fun us s1 ⟨vs, H1, I1, r, q⟩ => ⟨I1.kIn, ?_⟩) he hpl
  exact run_fnC F hr hb I1 r q
end
end KW

/-! A list comprehension whose element may raise. -/
namespace KW
open PySem PySem.Spec PyProof.Rows L2
open PySem.HandSPX (FlyingZ HeldZ TracedZ)
/-! ### heaps without one object -/
theorem hid_get {h : Heap} {C b : Addr} {o : Obj} (e : h.get? b = some o) (n : b ≠ C) : (PySem.W.hideAll h [C]).get? b = some o := PySem.W.hideAll_get _ e (by simpa using n)
theorem of_hid {h : Heap} {C b : Addr} {o : Obj} (e : (PySem.W.hideAll h [C]).get? b = some o) : h.get? b = some o ∧ b ≠ C := by
  refine ⟨PySem.W.of_hideAll _ e, fun z => ?_⟩
  rw [PySem.W.hideAll_none [C] (by simp [z])] at e
  cases e
theorem hid_none {h : Heap} {C b : Addr} (e : h.get? b = none) : (PySem.W.hideAll h [C]).get? b = none := by
  cases q : (PySem.W.hideAll h [C]).get? b with
  | none => rfl
  | some o => rw [(of_hid q).1] at e; cases e
theorem frames_chg {base base' h h' : Heap} : ∀ {l : List Env}, h.FunFrames base l → (∀ b ∈ frs l, base.get? b = none → base'.get? b = none) → (∀ b ∈ frs l, ∀ o, h.get? b = some o → (∀ vs, o.data ≠ .fields vs) → ∃ o', h'.get? b = some o' ∧ o'.data = o.data) → h'.FunFrames base' l
  | [], _, _, _ => trivial
  | env :: l, x, hb, hh => by
    obtain ⟨hk, ⟨L, o, hf, hn, ho, hd⟩, hr⟩ := x
    have hm : L ∈ frs (env :: l) := List.mem_filterMap.mpr ⟨env, List.mem_cons_self, hf⟩
    have sub : ∀ b ∈ frs l, b ∈ frs (env :: l) := fun b h => by
      obtain ⟨e, he, q⟩ := List.mem_filterMap.mp h
      exact List.mem_filterMap.mpr ⟨e, List.mem_cons_of_mem _ he, q⟩
    obtain ⟨o', e1, e2⟩ := hh L hm o ho hd
    exact ⟨hk, ⟨L, o', hf, hb L hm hn, e1, fun vs => e2 ▸ hd vs⟩, frames_chg hr (fun b h => hb b (sub b h)) fun b h => hh b (sub b h)⟩
theorem hok_hid {P : Program} {w : World} {H : Hp} {h : Heap} {C : Addr} (x : HOk P w H h) (n : H C = none) : HOk P w H (PySem.W.hideAll h [C]) := fun b o q =>
  (x b o q).stay (fun c u hc r => hid_get r fun z => by
    subst z
    rcases hc with hc | hc
    · rw [hc, q] at n; cases n
    · rw [n] at hc; cases hc) (fun _ r => r) fun _ _ r => r
/-- a call's exception, the object C (a namespace of ours) left out of sight -/
theorem cx_hid {P : Program} {w : World} {outer : List Env} {H : Hp} {s s' : Shared} {E : XK} {u : Value} {C : Addr} {oC : Obj} (hC : s.heap.get? C = some oC) (hd : ∀ vs, oC.data ≠ .fields vs) (nC : H C = none) (fC : C ∉ frs outer)
    (c : L2.CX P w outer H s E u s') : L2.CX P w outer H { s with heap := PySem.W.hideAll s.heap [C] } E u { s' with heap := PySem.W.hideAll s'.heap [C] } := by
  obtain ⟨a, B, H', cls, d, rfl, ⟨f1, f2, f3, f4⟩, hok, ub, na, os, ag, hE⟩ := c
  have hB : B.get? C = some oC := ub.keep C oC hC nC fC
  have hC' : s'.heap.get? C = some oC := f1 C oC hB
  have apart : ∀ {b o vs}, s'.heap.get? b = some o → o.data = .fields vs → b ≠ C := fun {b o vs} e e2 z => by
    subst z; rw [hC'] at e; cases e; exact hd _ e2
  obtain ⟨oe, vs, T, oT, ts, he, hz, hde, h1, hnT, hTe, hT, hdT, h3⟩ := f4
  refine ⟨a, PySem.W.hideAll B [C], H', cls, d, rfl, ⟨fun b o e => hid_get (f1 b o (of_hid e).1) (of_hid e).2, hid_none f2, frames_chg f3 (fun b _ e => hid_none e) (fun b hb o e _ => ⟨o, hid_get e fun z => fC (z ▸ hb), rfl⟩),
    oe, vs, T, oT, ts, hid_get he (apart he hde), hz, hde, h1, hid_none hnT, hTe, hid_get hT (apart hT hdT), hdT, h3⟩, hok_hid hok (ub.free C oC hC nC), ⟨fun b o e n hb => ?_, fun b o e hb => ?_, fun b o e n => ub.free b o (of_hid e).1 n, fun b o e hb => ?_, ub.tups, ub.frzs, ub.tbls⟩, na, os, ag, hE⟩
  · exact hid_get (ub.keep b o (of_hid e).1 n hb) (of_hid e).2
  · obtain ⟨sl, q⟩ := ub.slot b o (of_hid e).1 hb
    exact ⟨sl, hid_get q (of_hid e).2⟩
  · obtain ⟨o', q⟩ := ub.there b o (of_hid e).1 hb
    exact ⟨o', hid_get q (of_hid e).2⟩
section
variable {X : Cx} {pins : List (Addr × Obj)} {σ : L2.St} {H : Hp} {W : WX}
/-- an exception of the element goes out: noted, the block's names let go, passed on -/
theorem air_out (hs : X.stack = X.env :: X.outer) (hf : X.env.frame = some X.env.locals) (tk : Takes X W) {s0 s' : Shared} {C : Addr} {m : Str → Option Value} (I : Inv X pins σ H { s0 with heap := PySem.W.hideAll s0.heap [C] })
    (hn : s0.heap.Ns C m) (nC : H C = none) (fC : C ∉ frs X.stack) {E : XK} (hW : ∀ cls d H', E cls d H' → W cls d σ H') {u : Value} (c : L2.CX X.prog X.w X.stack H s0 E u s') {ce : Env} (hce : ce.frame = X.env.frame) {Qn : Value → Shared → Prop} {En : Value → Shared → Prop}
    (q : ∀ s1, (∃ m, s1.heap.Ns C m) → (∀ h', Heap.SameBut C s1.heap h' → ∀ cenv : Env, cenv.frame = X.env.frame → wpAny (model X.prog X.w) X.A (passOn "comprehension.variables-let-go" u cenv : Sem Value) (fun _ _ => False) X.xe { s1 with heap := h' }) → Qn u s1) :
    wpAny (model X.prog X.w) X.A (noteFrame u ce) (fun _ s1 => Qn u s1) En s' := by
  obtain ⟨oC, es, ep, hC, hdC, hm⟩ := hn
  have hd : ∀ vs, oC.data ≠ .fields vs := fun vs z => by rw [hdC] at z; cases z
  have hC' : s'.heap.get? C = some oC := by
    obtain ⟨a, B, H', cls, d, _, fl, _, ub, _⟩ := c
    exact fl.1 C oC (ub.keep C oC hC nC fC)
  obtain ⟨a, B, sI, pinsI, σI, HI, cls, d, rfl, J, nb, up, sky, na, os, ag, w⟩ := XE.of_call (s := { s0 with heap := PySem.W.hideAll s0.heap [C] }) I hW (cx_hid hC hd nC fC c)
  have hfr : X.A.frames = some (X.env :: X.outer) := by rw [I.ok.frames, hs]
  have e : (noteFrame (.ref a) ce : Sem Unit) = noteFrame (.ref a) X.env := by
    unfold noteFrame PySem.frameOf
    rw [hce]
  rw [e]
  have bC : B.get? C = none := by
    cases z : B.get? C with
    | none => rfl
    | some o =>
      have st : B.StaysIn (PySem.W.hideAll s'.heap [C]) := by
        rcases sky with x | x | x
        · exact x.1
        · exact x.1
        · exact x.1
      exact absurd rfl (of_hid (st C o z)).2
  have gone : ∀ b o, (PySem.W.hideAll s'.heap [C]).get? b = some o → s'.heap.get? b = some o := fun b o e => (of_hid e).1
  have frm : ∀ {x y : Heap}, (∀ b o, x.get? b = some o → y.get? b = some o) → x.FunFrames B (X.env :: X.outer) → y.FunFrames B (X.env :: X.outer) := fun {x y} k z => z.of_keeps fun b o e _ => ⟨o, k b o e, rfl⟩
  have nf : C ∉ frs (X.env :: X.outer) := by rw [← hs]; exact fC
  -- behind the note
  have behind : ∀ h1, HeldZ B (X.env :: X.outer) a (Zc cls d) X.env.locals h1 → s'.heap.UpToSlots h1 → Qn (.ref a) { s' with heap := h1 } := fun h1 hh up1 => by
    obtain ⟨k1, k2, k3, k4⟩ := hh
    obtain ⟨sl, hC1⟩ := up1 C oC hC' hd
    refine q _ ⟨m, up1.ns ⟨oC, es, ep, hC', hdC, hm⟩⟩ fun h' sb cenv hcf => ?_
    have oth : ∀ b, b ≠ C → h'.get? b = h1.get? b := fun b hb => sb.2 b hb
    have apart : ∀ {b o vs}, h1.get? b = some o → o.data = .fields vs → b ≠ C := fun {b o vs} e e2 z => by
      subst z; rw [hC1] at e; cases e; exact hd _ e2
    obtain ⟨oe, vs, T, oT, ts, he, hz, hde, h1v, hnT, hTe, hT, hdT, h3⟩ := k4
    have he' : h'.get? a = some oe := (oth a (apart he hde)).trans he
    have hT' : h'.get? T = some oT := (oth T (apart hT hdT)).trans hT
    unfold PySem.passOn
    refine wpAny_bind (wpAny_field he' hde h1v ?_)
    rw [if_neg (show ¬ ((Value.ref T == Value.none) = true) from by simp)]
    have fin : wpAny (model X.prog X.w) X.A (setFlight (.ref a) cenv.frame) (fun _ s4 => wpAny (model X.prog X.w) X.A (throw (.ref a) : Sem Value) (fun _ _ => False) X.xe s4) X.xe { s' with heap := h' } := by
      refine HandSPX.setFlight_anyZ (base := B) (l := X.env :: X.outer) (Z := Zc cls d) (fl := rawInt X.env.locals) (fun b o e => (oth b fun z => by rw [z, bC] at e; cases e).trans (k1 b o e)) (frames_chg k3 (fun _ _ e => e) fun b hb o e _ => ⟨o, (oth b fun z => nf (z ▸ hb)).trans e, rfl⟩)
        ⟨oe, vs, T, oT, ts, he', hz, hde, h1v, hnT, hTe, hT', hdT, h3⟩ fun h2 x1 x2 x3 x4 => wpAny_throw (tk _ _ ?_)
      rw [hcf, hf] at x3
      refine ⟨a, B, sI, pinsI, σI, HI, cls, d, rfl, J, nb, fun b o e hnf => ?_, .inr (.inr (by rw [hs]; exact ⟨x1, k2, x2, x3⟩)), na, os, ag, w⟩
      obtain ⟨sl1, e1⟩ := up b o e hnf
      have hbC : b ≠ C := (of_hid e1).2
      obtain ⟨sl2, e2⟩ := up1 b _ (of_hid e1).1 hnf
      obtain ⟨sl3, e3⟩ := x4 b _ ((oth b hbC).trans e2) hnf
      exact ⟨sl3, e3⟩
    first
      | exact wpAny_bind (wpAny_pure (wpAny_bind fin))
      | exact wpAny_bind fin
  rw [hs] at sky
  rcases sky with ⟨hB, hnB, hl, oe, vs, he, hz, hde, h1⟩ | fl | hh
  · exact HandSPX.look_newZ Zc.steady hfr (frm gone hl) hf (gone _ _ he) (fun b o e => gone b o (hB b o e)) hnB hde h1 hz behind
  · obtain ⟨f1, f2, f3, oe, vs, T, oT, ts, he, hz, hde, h1, hnT, hTe, hT, hdT, h3⟩ := fl
    exact HandSPX.looks_onZ Zc.steady hfr hf ⟨fun b o e => gone b o (f1 b o e), f2, frm gone f3, oe, vs, T, oT, ts, gone _ _ he, hz, hde, h1, hnT, hTe, gone _ _ hT, hdT, h3⟩ behind
  · obtain ⟨f1, f2, f3, oe, vs, T, oT, ts, he, hz, hde, h1, hnT, hTe, hT, hdT, h3⟩ := hh
    have tr : TracedZ s'.heap B a (Zc cls d) (rawInt X.env.locals) := ⟨oe, vs, T, oT, ts, gone _ _ he, hz, hde, h1, hnT, hTe, gone _ _ hT, hdT, h3⟩
    exact HandSPX.againZ hf tr (behind s'.heap ⟨fun b o e => gone b o (f1 b o e), f2, frm gone f3, tr⟩ (Heap.UpToSlots.refl _))
end
end KW
namespace KW
open PySem PySem.Spec PyProof.Rows L2
section
variable {M : Model} {A : Around} {E : Value → Shared → Prop} {s : Shared} {env : Env}
/-- what is wanted behind the block, C its namespace, F its frame -/
def postX (M : Model) (A : Around) (E : Value → Shared → Prop) (Q : Value → Shared → Prop) (acc : Value) (C : Addr) (F : Option Addr) (r : Result) (s' : Shared) : Prop :=
  match r with
  | .ok _ => ∃ m, s'.heap.Ns C m ∧ ∀ h', Heap.SameBut C s'.heap h' → Q acc { s' with heap := h' }
  | .error x => ∃ m, s'.heap.Ns C m ∧ ∀ h', Heap.SameBut C s'.heap h' → ∀ ce : Env, ce.locals = C → ce.frame = F → wpAny M A (PySem.passOn "comprehension.variables-let-go" x ce : Sem Value) (fun _ _ => False) E { s' with heap := h' }
theorem comp_freeX {e : Expr} {scope : Scope} {pos : Pos} {newAcc first : Sem Value} {g : Comprehension} {gs : List Comprehension} {cl : List (Str × Addr)} {Q : Value → Shared → Prop} (hcl : clausesOf e = g :: gs) (hs : ∀ x, foldedSetIterable g.iter env x = pure x)
    (hclos : closureFor scope env = pure cl) (hkind : scope.kind = .function) (hnames : ∀ x ∈ scope.names, x.2 = .local → scope.names.lookup x.1 = some .local)
    (h : wpAny M A first (fun x s₁ => wpAny M A (pyIter x) (fun it s₂ => wpAny M A newAcc (fun acc s₃ => wpAny M A (newFunctionEnv scope env.globals cl [] env.qual none .none (some env)) (fun ce s₄ =>
      codeAny M A (.compStart e 0 it acc { ce with scope := relabel scope env }) (postX M A E Q acc ce.locals ce.frame) s₄) E s₃) E s₂) E s₁) E s) : wpAny M A (comprehension e scope env pos newAcc false first none) Q E s := by
  unfold comprehension; rw [hclos, hcl]
  refine wpAny_bind (thn h fun x s₁ h₁ => wpAny_bind (wpAny_standAt (wpAny_bind (wpAny_of_eq (hs x) (wpAny_bind (wpAny_holding (thn h₁ fun it s₂ h₂ => wpAny_standIf (wpAny_bind (thn h₂ fun acc s₃ h₃ => wpAny_bind (wpAny_pure (wpAny_bind (thn h₃ fun ce s₄ h₄ => ?_))))))))))))
  dsimp only
  have hv : ∀ x ∈ (scope.names.filter fun x => (x.2 == .local || x.2 == .cell) && x.1 != (".0" : Str)).reverse, x.2 = .local → Env.kindOf { ce with scope := relabel scope env } x.1 = some .local :=
    fun x hx hl => lookup_relabel_local (hnames x (List.mem_filter.mp (List.mem_reverse.mp hx)).1 hl)
  refine wpAny_holding (wpAny_bind (wpAny_attempt (wpAny_holding (wpAny_run (codeAny_mono h₄ fun r s' hr => ?_)))))
  cases r with
  | ok f => obtain ⟨m, hn, hr⟩ := hr; exact wpAny_bind (wpAny_holding (wpAny_comp_letGo (cenv := { ce with scope := relabel scope env }) hkind _ s' m hv hn fun h' m' _ sb => wpAny_pure (hr h' sb)))
  | error x => obtain ⟨m, hn, hr⟩ := hr; exact wpAny_bind (wpAny_holding (wpAny_comp_letGo (cenv := { ce with scope := relabel scope env }) hkind _ s' m hv hn fun h' m' _ sb => wpAny_mono (hr h' sb _ rfl rfl) (fun _ _ f => f.elim) fun _ _ y => y))
end
section
variable {X : Cx} {pins : List (Addr × Obj)} {σ : L2.St} {H : Hp}
/-- [elt for target in iter if ..], elt may raise: Wout is told of the slots as they stood ahead -/
def tLcX (wi : TI) (g : TG) (tt : TT) (te : WX → TE) (Wout : WX) (vs : List Nat) : TE := fun σ H Q => tLc wi g tt (te fun cls d _ H' => Wout cls d σ H') vs σ H Q
theorem pe_lcX {elt tg iter : Expr} {ifs : List Expr} {scope : Scope} {own : List (Str × Nat)} {pos : Pos} {wi : TI} {g : TG} {tt : TT} {te : WX → TE} {Wout : WX} (hst : X.stack = X.env :: X.outer) (hfr : X.env.frame = some X.env.locals) (tk : Takes X Wout) (hc : X.calm = true) (hN : X.N.Nodup) (hi : PI X tg iter wi)
    (ok : BlkOk X.N X.env.scope scope own) (hg : ∀ (s : Shared) (H : Hp) (C : Addr) (cl : List (Str × Addr)) (fp : List Addr), PG (X.blk s H scope (compEnvC scope cl C X.env) fp) tg g)
    (ht : ∀ (s : Shared) (H : Hp) (C : Addr) (cl : List (Str × Addr)) (fp : List Addr), PTs (X.blk s H scope (compEnvC scope cl C X.env) fp) ifs tt)
    (he : ∀ (s : Shared) (H : Hp) (C : Addr) (cl : List (Str × Addr)) (fp : List Addr) (xe : Value → Shared → Prop) (W : WX), (∀ σ, PassesAt (L2.CX X.prog X.w) ((X.blk s H scope (compEnvC scope cl C X.env) fp).wish xe) σ (WE W σ)) → PE ((X.blk s H scope (compEnvC scope cl C X.env) fp).wish xe) elt (te W))
    (hs : ∀ x, foldedSetIterable iter X.env x = pure x := by intro _; rfl) : PE X (.ListComp elt [⟨tg, iter, ifs, 0⟩] scope pos) (tLcX wi g tt te Wout (own.map (·.2))) := by
  refine ⟨fun pins s σ H Q I h => ?_⟩
  rw [eval_ListComp]
  have hfree : ∀ y ∈ scope.names, y.2 = .free → ∃ c, X.env.cells.lookup y.1 = some c := fun y hy e => (ok.free y hy e).elim (fun k => I.ok.has _ (.inl k)) fun k => I.ok.has _ (.inr k)
  refine comp_freeX rfl hs (closure_ok hfree) ok.kind (fun y hy e => by rw [ok.uniq y hy, e]) (thn (hi.run pins s σ H _ I h) fun xv s1 hx => thn hx fun itv s2 h2 => ?_)
  obtain ⟨it, fp, tn, J, H2, e, I2, T, st2, f2, q⟩ := h2; subst e
  refine wpAny_newObj_type (newEnv_comp ?_) (by show 0 ≤ sizeLine; decide)
  generalize hD : s2.heap.objs.size = D
  have hDn : H2 D = none := I2.hok.fresh (Nat.le_of_eq hD); obtain ⟨W, ⟨m0, w0⟩, turn⟩ := q D hDn
  generalize hs3 : ({ s2 with heap := s2.heap.push { cls := .type "list", data := .seq ([] : List Value).toArray } } : Shared) = s3
  have I3 : Inv X pins σ (upd H2 D (.lst [])) s3 := by
    rw [← hs3]
    exact I2.laid (t' := s2.toks) (fun b o e => Heap.get?_push_of_some _ e) (Nat.le_of_eq hD) ⟨Nat.zero_le _, [], 0, .nil, by rw [← hD]; exact Heap.get?_push_size _ rfl⟩
  have h3 : s3.heap = s2.heap.push { cls := .type "list", data := .seq ([] : List Value).toArray } := by rw [← hs3]
  have f3 : ∀ b ∈ fp, FpOk X pins (upd H2 D (.lst [])) b ∧ b < s3.heap.objs.size := fun b hb => by
    obtain ⟨o, e, _⟩ := T.obj _ _ st2 b hb
    have hlt := Heap.lt_size e
    exact ⟨⟨by rw [upd_ne (by rw [← hD]; exact Nat.ne_of_lt hlt)]; exact (f2 b hb).1, (f2 b hb).2⟩, by rw [h3, Heap.size_push]; exact Nat.lt_succ_of_lt hlt⟩
  have st3 : tn 0 s3.heap := T.keep _ _ _ st2 fun b _ o e => by rw [h3]; exact Heap.get?_push_of_some _ e
  have I4 := block_start I3 ok hN f3
  have pg := hg s3 (upd H2 D (.lst [])) s3.heap.objs.size (cellsFrom (s3.heap.objs.size + 1) scope.names (cloFrom X.env.cells scope.names [])) fp; have pt := ht s3 (upd H2 D (.lst [])) s3.heap.objs.size (cellsFrom (s3.heap.objs.size + 1) scope.names (cloFrom X.env.cells scope.names [])) fp
  have pe := he s3 (upd H2 D (.lst [])) s3.heap.objs.size (cellsFrom (s3.heap.objs.size + 1) scope.names (cloFrom X.env.cells scope.names [])) fp
  show codeAny _ _ (.compStart (.ListComp elt [⟨tg, iter, ifs, 0⟩] scope pos) 0 (.ref it) (.ref D) (compEnvC scope (cellsFrom (s3.heap.objs.size + 1) scope.names (cloFrom X.env.cells scope.names [])) s3.heap.objs.size X.env)) (postX (model X.prog X.w) X.A X.xe (EP X pins σ Q) (.ref D) s3.heap.objs.size X.env.frame) { s3 with heap := pushCells (s3.heap.push { cls := .type "dict", data := .dict #[] }) scope.names }
  have nfp : ∀ b ∈ fp, (upd H2 D (.lst [])) b = none := fun b hb => (f3 b hb).1.1
  have hcF : (compEnvC scope (cellsFrom (s3.heap.objs.size + 1) scope.names (cloFrom X.env.cells scope.names [])) s3.heap.objs.size X.env).frame = X.env.frame := rfl
  generalize hce : compEnvC scope (cellsFrom (s3.heap.objs.size + 1) scope.names (cloFrom X.env.cells scope.names [])) s3.heap.objs.size X.env = ce at I4 pg pt pe hcF ⊢
  have cL : ce.locals = s3.heap.objs.size := by subst hce; rfl
  generalize hH3 : upd H2 D (.lst []) = H3 at I3 I4 pg pt pe w0 nfp f3; generalize hs4 : ({ s3 with heap := pushCells (s3.heap.push { cls := .type "dict", data := .dict #[] }) scope.names } : Shared) = s4 at I4 ⊢
  have st4 : tn 0 s4.heap := T.keep _ _ _ st3 fun b _ o e => by rw [← hs4]; exact pushCells_keeps _ _ _ _ (Heap.get?_push_of_some _ e)
  have stat : ∀ {σ' : L2.St} {H' : Hp} {s' : Shared}, Inv (X.blk s3 H3 scope ce fp) [] σ' H' s' → (∀ b ∈ fp, H' b = none) → ∀ b ∈ fp, FpOk (X.blk s3 H3 scope ce fp) [] H' b := fun {σ' H' s'} I' hn b hb =>
    ⟨hn b hb, (I'.ok.exf b hb).1, I'.ok.exfs b hb, .inl hb, fun x c e => (I'.ok.exf b hb).2 x c e, fun p hp => absurd (show p ∈ ([] : List (Addr × Obj)) ++ [] from hp) (by simp)⟩
  have back : ∀ b ∈ fp, (b ∈ X.ex ∨ X.s_0.heap.objs.size ≤ b) ∧ b ≠ X.env.locals ∧ (∀ x c, X.env.cells.lookup x = some c → c ≠ b) ∧ ∀ p ∈ X.pn ++ pins, p.1 ≠ b := fun b hb => ⟨(f3 b hb).1.2.2.2.1, (f3 b hb).1.2.1, (f3 b hb).1.2.2.2.2.1, (f3 b hb).1.2.2.2.2.2⟩
  have nst : s3.heap.objs.size ∉ frs X.stack := fun hm => (List.mem_cons.mp (I3.stkSub _ hm)).elim (fun z => Nat.ne_of_lt I3.lt z.symm) (I3.nofs (Nat.le_refl _))
  have nC : ∀ {pn : List (Addr × Obj)} {σ' : L2.St} {H' : Hp} {s' : Shared}, Inv (X.blk s3 H3 scope ce fp) pn σ' H' s' → H' s3.heap.objs.size = none := fun {pn σ' H' s'} I' => by
    have z : H' ce.locals = none := I'.free
    rw [cL] at z; exact z
  -- what the element lets out
  have out : ∀ {pn : List (Addr × Obj)} {σ' : L2.St} {H' : Hp} {s0 : Shared} {u : Value} {s' : Shared}, Inv (X.blk s3 H3 scope ce fp) pn σ' H' s0 → L2.CX X.prog X.w X.stack H' s0 (fun cls d H'' => Wout cls d σ H'') u s' →
      notedBy (model X.prog X.w) X.A ce (fun e s'' => postX (model X.prog X.w) X.A X.xe (EP X pins σ Q) (.ref D) s3.heap.objs.size X.env.frame (.error e) s'') u s' := fun {pn σ' H' s0 u s'} I' c => by
    obtain ⟨m, hn, _⟩ := I'.loc
    have hn : s0.heap.Ns ce.locals m := hn
    rw [cL] at hn
    have off : ∀ {b : Addr} {o : Obj}, s3.heap.get? b = some o → b ≠ s3.heap.objs.size := fun {b o} e => Nat.ne_of_lt (Heap.lt_size e)
    have ub : Un (frs X.stack) fp H3 H' s3.heap s0.heap := I'.base
    have I7 : Inv X pins σ H' { s0 with heap := PySem.W.hideAll s0.heap [s3.heap.objs.size] } := I3.call' (ch := fp) (s' := { s0 with heap := PySem.W.hideAll s0.heap [s3.heap.objs.size] }) I'.os
      ⟨fun b o e n h1 h2 => hid_get (ub.keep b o e n h1 h2) (off e), fun b o e n h1 h2 => (ub.slot b o e n h1 h2).imp fun _ q => hid_get q (off e), ub.free, fun b o e h => (ub.there b o e h).imp fun _ q => hid_get q (off e), ub.tups, ub.frzs, ub.tbls⟩ (hok_hid I'.hok (nC I')) I'.bare back
    exact air_out (Qn := fun e s'' => postX (model X.prog X.w) X.A X.xe (EP X pins σ Q) (.ref D) s3.heap.objs.size X.env.frame (.error e) s'') hst hfr tk I7 hn (nC I') nst (fun _ _ _ h => h) c hcF fun s1 ⟨m, hm⟩ h => ⟨m, hm, fun h' sb cenv _ hf => h h' sb cenv hf⟩
  have loop : codeAny (model X.prog X.w) X.A (.compLoop (.ListComp elt [⟨tg, iter, ifs, 0⟩] scope pos) 0 (.ref it) (.ref D) ce) (postX (model X.prog X.w) X.A X.xe (EP X pins σ Q) (.ref D) s3.heap.objs.size X.env.frame) s4 := by
    refine compLoop_any (fun n s' => ∃ i H', Inv (X.blk s3 H3 scope ce fp) [] (wipe σ (own.map (·.2))) H' s' ∧ tn i s'.heap ∧ (∀ b ∈ fp, H' b = none) ∧ W i n H') ?_ m0 ⟨0, H3, I4, st4, nfp, w0⟩
    rintro n s5 ⟨i, H5, I5, st5, n5, w5⟩
    rcases turn i n H5 w5 with ⟨stop, qq⟩ | ⟨go, Nx, hNx, step⟩
    · refine thnF (T.done (X.blk s3 H3 scope ce fp) rfl rfl rfl hc i [] s5 _ H5 (fun _ _ => False) I5 (stat I5 n5) st5 stop) fun r s6 ⟨hr, I6⟩ => ?_
      subst hr
      have I7 : Inv X pins σ H5 s6 := I3.call' (ch := fp) I6.os I6.base I6.hok I6.bare back
      obtain ⟨m, hn, _⟩ := I6.loc; have hn : s6.heap.Ns ce.locals m := hn
      rw [cL] at hn
      obtain ⟨f0, f1, f2, f3, f4, f5⟩ := I3.fpOk (Nat.le_refl _) (nC I6)
      exact ⟨m, hn, fun h'' sb => ⟨.ref D, H5, I7.turned (t' := s6.toks) (fun b o hb e => (sb.2 b hb).trans e) f0 f1 f3 f4 f5, rfl, qq⟩⟩
    · refine thnF (T.item (X.blk s3 H3 scope ce fp) rfl rfl rfl hc i [] s5 _ H5 (fun _ _ => False) I5 (stat I5 n5) st5 go) fun r s6 ⟨u, hr, h6⟩ => ?_
      subst hr
      refine thnF h6 fun _ s7 ⟨x, H7, I7, r7, y7, st7, n7⟩ => thnF (pg.run _ s7 _ H7 x u _ (I7.pinned (stat I7 n7) (T.obj _ _ st7)) r7 (step x H7 y7)) fun _ s8 ⟨σ8, H8, I8, hw8, q8⟩ => thnF (pt.run _ s8 σ8 H8 _ I8 q8) fun b s9 ⟨H9, I9, q9⟩ => ?_
      have fin : ∀ {s' : Shared} {H' : Hp}, Inv (X.blk s3 H3 scope ce fp) ([] ++ pinsAt fp s7.heap) σ8 H' s' → Nx H' → ∃ m, m < n ∧ ∃ i H', Inv (X.blk s3 H3 scope ce fp) [] (wipe σ (own.map (·.2))) H' s' ∧ tn i s'.heap ∧ (∀ b ∈ fp, H' b = none) ∧ W i m H' := fun {s' H'} I' nx => by
        obtain ⟨m', hm, w'⟩ := hNx H' nx
        have pin' : ∀ b ∈ fp, ∀ o, s7.heap.get? b = some o → s'.heap.get? b = some o ∧ H' b = none := fun b hb o e =>
          let z := I'.pin (b, o) (List.mem_append_right _ (List.mem_append_right _ (mem_pinsAt hb e))); ⟨z.1, z.2.1⟩
        refine ⟨m', hm, i + 1, H', (I'.unpinned (pins := [])).weak (by rw [← hw8, wipe_length]) (fun j v e => by rw [← hw8] at e; exact (wipe_some e).1), T.keep _ _ _ st7 fun b hb o e => (pin' b hb o e).1, fun b hb => ?_, w'⟩
        obtain ⟨o, e, _⟩ := T.obj _ _ st7 b hb
        exact (pin' b hb o e).2
      cases b with
      | false => simp only [Bool.false_eq_true, if_false] at q9 ⊢; exact fin I9 q9
      | true =>
        simp only [if_true] at q9 ⊢
        have P := pe (fun u s' => ∃ (pn : List (Addr × Obj)) (σ' : L2.St) (H' : Hp) (s0 : Shared), Inv (X.blk s3 H3 scope ce fp) pn σ' H' s0 ∧ L2.CX X.prog X.w X.stack H' s0 (fun cls d H'' => Wout cls d σ H'') u s') (fun cls d _ H' => Wout cls d σ H') fun σ' pn H' s0 u s' I' c => ⟨pn, σ', H', s0, I'.unwish, c⟩
        refine wpAny_mono (P.run _ s9 σ8 H9 _ (I9.wish _) q9) (fun z s10 hz => ?_) fun u s' ⟨pn, σ', H', s0, I', c⟩ => out I' c
        obtain ⟨yv, H10, I10, r10, acc, hD10, hz10, nx⟩ := hz
        exact app_ok (X := X.blk s3 H3 scope ce fp) I10.unwish hD10 hz10 r10 fun s11 I11 => fin I11 nx
  exact codeAny_compStart_list loop (T.self X.A 0 _ _ _ st4 loop)
end
end KW

/-! Data that is not the bag's, empty dicts among it: repr. -/
namespace KW
open PySem PySem.Spec PyProof.Rows L2
mutual
inductive Dz (b : Addr) (K : PySem.W.Frag) (H : Hp) : V → PyData → Prop
  | non : Dz b K H .non .none
  | bl (k : Bool) : Dz b K H (.bl k) (.bool k)
  | int (i : Int) : Dz b K H (.int i) (.int i)
  | str (x : Str) : Dz b K H (.str x) (.str x)
  | lst {a : Addr} {xs : List V} {ds : List PyData} : H a = some (.lst xs) → a ≠ b → DzAll b K H xs ds → Dz b K H (.ref a) (.list ds)
  | tup {a : Addr} {xs : List V} {ds : List PyData} : SqT K H a xs → DzAll b K H xs ds → Dz b K H (.ref a) (.tuple ds)
  | dk {a : Addr} : H a = some (.dK []) → a ≠ b → Dz b K H (.ref a) (.dict [])
inductive DzAll (b : Addr) (K : PySem.W.Frag) (H : Hp) : List V → List PyData → Prop
  | nil : DzAll b K H [] []
  | cons {v : V} {vs : List V} {d : PyData} {ds : List PyData} : Dz b K H v d → DzAll b K H vs ds → DzAll b K H (v :: vs) (d :: ds)
end
section
variable {b : Addr} {H H' : Hp} {K : PySem.W.Frag}
mutual
theorem Dz.keep0 (kl : ∀ a xs, a ≠ b → H a = some (.lst xs) → H' a = some (.lst xs)) (kt : ∀ a xs, SqT K H a xs → SqT K H' a xs) (kd : ∀ a, a ≠ b → H a = some (.dK []) → H' a = some (.dK [])) : ∀ (d : PyData) (v : V), Dz b K H v d → Dz b K H' v d
  | .none, _, h => by cases h; exact .non
  | .bool k, _, h => by cases h; exact .bl k
  | .int i, _, h => by cases h; exact .int i
  | .str x, _, h => by cases h; exact .str x
  | .list ds, _, h => by
    cases h with
    | lst e n t => exact .lst (kl _ _ n e) n (DzAll.keep0 kl kt kd ds _ t)
  | .tuple ds, _, h => by
    cases h with
    | tup e t => exact .tup (kt _ _ e) (DzAll.keep0 kl kt kd ds _ t)
  | .dict _, _, h => by
    cases h with
    | dk e n => exact .dk (kd _ n e) n
theorem DzAll.keep0 (kl : ∀ a xs, a ≠ b → H a = some (.lst xs) → H' a = some (.lst xs)) (kt : ∀ a xs, SqT K H a xs → SqT K H' a xs) (kd : ∀ a, a ≠ b → H a = some (.dK []) → H' a = some (.dK [])) : ∀ (ds : List PyData) (vs : List V), DzAll b K H vs ds → DzAll b K H' vs ds
  | [], _, h => by cases h; exact .nil
  | d :: ds, _, h => by
    cases h with
    | cons x t => exact .cons (Dz.keep0 kl kt kd d _ x) (DzAll.keep0 kl kt kd ds _ t)
end
theorem sqT_keep {a : Addr} {xs : List V} (k : KeepB b H H') (hb : LstOrNo H b) (h : SqT K H a xs) : SqT K H' a xs := by
  obtain ⟨a', e, h'⟩ := TupAt.keep (K := K) k hb.no ⟨a, rfl, h⟩
  injection e with e
  rw [e]; exact h'
theorem Dz.keep {v : V} {d : PyData} (k : KeepB b H H') (hb : LstOrNo H b) (h : Dz b K H v d) : Dz b K H' v d := Dz.keep0 (fun _ _ n e => k _ _ n e) (fun _ _ e => sqT_keep k hb e) (fun _ n e => k _ _ n e) d v h
theorem DzAll.keep {vs : List V} {ds : List PyData} (k : KeepB b H H') (hb : LstOrNo H b) (h : DzAll b K H vs ds) : DzAll b K H' vs ds := DzAll.keep0 (fun _ _ n e => k _ _ n e) (fun _ _ e => sqT_keep k hb e) (fun _ n e => k _ _ n e) ds vs h
theorem Dz.same {v : V} {d : PyData} (k : Same H H') (h : Dz b K H v d) : Dz b K H' v d := Dz.keep0 (fun _ _ _ e => k _ _ e) (fun _ _ e => sqT_same k e) (fun _ _ e => k _ _ e) d v h
theorem DzAll.same {vs : List V} {ds : List PyData} (k : Same H H') (h : DzAll b K H vs ds) : DzAll b K H' vs ds := DzAll.keep0 (fun _ _ _ e => k _ _ e) (fun _ _ e => sqT_same k e) (fun _ _ e => k _ _ e) ds vs h
mutual
theorem Dn.dz0 : ∀ (d : PyData) (v : V), Dn b H v d → Dz b K H v d
  | .none, _, h => by cases h; exact .non
  | .bool k, _, h => by cases h; exact .bl k
  | .int i, _, h => by cases h; exact .int i
  | .str x, _, h => by cases h; exact .str x
  | .list ds, _, h => by
    cases h with
    | lst e n t => exact .lst e n (DnAll.dz0 ds _ t)
  | .tuple ds, _, h => by
    cases h with
    | tup e n t => exact .tup (SqT.of e) (DnAll.dz0 ds _ t)
  | .dict _, _, h => by cases h
theorem DnAll.dz0 : ∀ (ds : List PyData) (vs : List V), DnAll b H vs ds → DzAll b K H vs ds
  | [], _, h => by cases h; exact .nil
  | d :: ds, _, h => by
    cases h with
    | cons x t => exact .cons (Dn.dz0 d _ x) (DnAll.dz0 ds _ t)
end
theorem Dn.dz {v : V} {d : PyData} (h : Dn b H v d) : Dz b K H v d := Dn.dz0 d v h
theorem DnAll.dz {vs : List V} {ds : List PyData} (h : DnAll b H vs ds) : DzAll b K H vs ds := DnAll.dz0 ds vs h
theorem Dz.ty {v : V} {d : PyData} (h : Dz b K H v d) : Ty7 K H v (kindD d) := by
  cases h with
  | non => exact .non
  | bl k => exact .bl
  | int i => exact .int
  | str x => exact .str
  | lst e n t => exact .lst e
  | tup e t => exact .of_tup e
  | dk e n => exact .dK e
theorem DzAll.len : ∀ {vs : List V} {ds : List PyData}, DzAll b K H vs ds → vs.length = ds.length
  | _, [], h => by cases h; rfl
  | _, d :: ds, h => by
    cases h with
    | cons x t => exact congrArg Nat.succ t.len
theorem DzAll.app : ∀ {vs us : List V} {ds es : List PyData}, DzAll b K H vs ds → DzAll b K H us es → DzAll b K H (vs ++ us) (ds ++ es)
  | _, _, [], _, h, h2 => by cases h; exact h2
  | _, _, d :: ds, _, h, h2 => by
    cases h with
    | cons x t => exact .cons x (t.app h2)
theorem DzAll.rep {v : V} {d : PyData} (h : Dz b K H v d) : ∀ n : Nat, DzAll b K H (List.replicate n v) (List.replicate n d)
  | 0 => .nil
  | n + 1 => .cons h (DzAll.rep h n)
theorem DzAll.get : ∀ {vs : List V} {ds : List PyData} {i : Nat} {v : V}, DzAll b K H vs ds → vs[i]? = some v → ∃ d, ds[i]? = some d ∧ Dz b K H v d
  | _, [], i, v, h, e => by cases h; cases e
  | _, d :: ds, i, v, h, e => by
    cases h with
    | cons x t =>
      cases i with
      | zero => cases e; exact ⟨d, rfl, x⟩
      | succ i => exact t.get e
theorem DzAll.take : ∀ {vs : List V} {ds : List PyData} (n : Nat), DzAll b K H vs ds → DzAll b K H (vs.take n) (ds.take n)
  | _, _, 0, _ => .nil
  | _, [], n + 1, h => by cases h; exact .nil
  | _, d :: ds, n + 1, h => by
    cases h with
    | cons x t => exact .cons x (t.take n)
theorem DzAll.drop : ∀ {vs : List V} {ds : List PyData} (n : Nat), DzAll b K H vs ds → DzAll b K H (vs.drop n) (ds.drop n)
  | _, _, 0, h => h
  | _, [], n + 1, h => by cases h; exact .nil
  | _, d :: ds, n + 1, h => by
    cases h with
    | cons x t => exact t.drop n
theorem DzAll.set : ∀ {vs : List V} {ds : List PyData} {v : V} {d : PyData} (i : Nat), DzAll b K H vs ds → Dz b K H v d → DzAll b K H (vs.set i v) (ds.set i d)
  | _, [], _, _, i, h, _ => by cases h; exact .nil
  | _, d :: ds, _, _, i, h, hv => by
    cases h with
    | cons x t =>
      cases i with
      | zero => exact .cons hv t
      | succ i => exact .cons x (t.set i hv)
theorem DzAll.mem : ∀ {vs : List V} {ds : List PyData} {v : V}, DzAll b K H vs ds → v ∈ vs → ∃ d ∈ ds, Dz b K H v d
  | _, [], v, h, e => by cases h; cases e
  | _, d :: ds, v, h, e => by
    cases h with
    | cons x t =>
      rcases List.mem_cons.mp e with rfl | e
      · exact ⟨d, List.mem_cons_self, x⟩
      · obtain ⟨d', h1, h2⟩ := t.mem e
        exact ⟨d', List.mem_cons_of_mem _ h1, h2⟩
end
section
variable {X : Cx} {pins : List (Addr × Obj)} {σ : L2.St} {H : Hp} {s : Shared} {b : Addr}
/-- an empty dict's object -/
theorem dz_dict (I : Inv X pins σ H s) {a : Addr} (e : H a = some (.dK [])) : ∃ o n, s.heap.get? a = some o ∧ o.cls = .type "dict" ∧ o.data = .dict #[] n ∧ (a == sysModules) = false := by
  obtain ⟨_, hd, vs, hv, ob, es, ep, h1, h2, h3, h4, h5, h6⟩ := dk_of I.hok e
  cases hv
  have hes : es.toList = [] := by
    generalize es.toList = l at h5
    cases h5
    rfl
  have hes : es = #[] := by rw [← Array.toArray_toList (xs := es), hes]
  subst hes
  exact ⟨ob, ep, h1, h2.1, h3, hd⟩
mutual
theorem Dz.shows (I : Inv X pins σ H s) : ∀ (d : PyData) (v : V) (u : Value), Dz b X.K H v d → RelV v u → d.showable = true → d.shown.length ≤ sizeLine → ∃ as bs, Reads s.heap u d as ∧ ReadAtMost s.heap d.depth bs ∧ ReprK X.prog X.w bs s.heap d.depth u d.shown
  | .none, _, _, h, r, _, _ => by
    cases h; cases r
    exact ⟨_, [], Reads.none, (fun _ h => nomatch h), by simp only [PyData.shown]; exact .of_is ReprIs.none _ _ _⟩
  | .bool k, _, _, h, r, _, _ => by
    cases h; cases r
    exact ⟨_, [], Reads.bool k, (fun _ h => nomatch h), by simp only [PyData.shown]; exact .of_is (ReprIs.bool k) _ _ _⟩
  | .int i, _, _, h, r, hs, _ => by
    cases h; obtain ⟨t, rfl⟩ := r
    exact ⟨_, [], Reads.int i t, (fun _ h => nomatch h), by simp only [PyData.shown]; exact .of_is (ReprIs.int t (by simpa [PyData.showable] using hs)) _ _ _⟩
  | .str x, _, _, h, r, _, hz => by
    cases h; obtain ⟨t, rfl⟩ := r
    exact ⟨_, [], Reads.str x t, (fun _ h => nomatch h), by simp only [PyData.shown]; exact .of_is (ReprIs.str x t (by simpa only [PyData.shown] using hz)) _ _ _⟩
  | .list ds, _, _, h, r, hs, hz => by
    cases h with
    | lst e n t =>
      cases r
      obtain ⟨its, rv, ⟨o, nn, ho, hc, _, hd⟩, _⟩ := I.list (SqL.of (K := X.K) e)
      have hz' : (listText (PyData.shownAll ds)).length ≤ sizeLine := by simpa only [PyData.shown] using hz
      obtain ⟨as, bs, h4, hb, hk⟩ := DzAll.shows I ds _ its t rv (by simpa [PyData.showable] using hs) fun t ht => Nat.le_trans (listText_mem_le ht) hz'
      have q := Reads.list ho hc hd h4
      have hna := not_mem_of_deeper q (by simp only [PyData.depth]; exact Nat.lt_succ_self _) hb
      refine ⟨_, _ :: bs, q, ReadAtMost.cons q (by simp only [PyData.depth]; exact Nat.le_succ _) hb, ?_⟩
      simp only [PyData.depth, PyData.shown]
      cases its with
      | nil =>
        cases h4
        simp only [PyData.shownAll, listText_nil]
        exact ReprK.listEmpty ho hc hd
      | cons y l => exact ReprK.list ho hc hd hna (by simpa using hk.length_eq) (fun i z e => hk.item i z (by simpa using e))
  | .tuple ds, _, _, h, r, hs, hz => by
    cases h with
    | tup e t =>
      cases r
      obtain ⟨its, rv, ⟨o, ho, hc, nn, hd⟩, _⟩ := I.tuple e
      have hz' : (tupleText (PyData.shownAll ds)).length ≤ sizeLine := by simpa only [PyData.shown] using hz
      obtain ⟨as, bs, h4, hb, hk⟩ := DzAll.shows I ds _ its t rv (by simpa [PyData.showable] using hs) fun t ht => Nat.le_trans (tupleText_mem_le ht) hz'
      have q := Reads.tuple ho hc hd h4
      have hna := not_mem_of_deeper q (by simp only [PyData.depth]; exact Nat.lt_succ_self _) hb
      refine ⟨_, _ :: bs, q, ReadAtMost.cons q (by simp only [PyData.depth]; exact Nat.le_succ _) hb, ?_⟩
      simp only [PyData.depth, PyData.shown]
      exact ReprK.tuple ho hc hd hna hk
  | .dict _, _, _, h, r, _, _ => by
    cases h with
    | dk e n =>
      cases r
      obtain ⟨o, nn, ho, hc, hd, hsys⟩ := dz_dict I e
      have q : Reads s.heap (.ref _) (.dict []) _ := Reads.dict (kvs := []) ho hc hd .nil .nil
      refine ⟨_, [_], q, ReadAtMost.cons q (Nat.zero_le _) (fun _ h => nomatch h), ?_⟩
      exact ReprK.dict (as := []) (d := 0) ho hc hd hsys (by simp) .nil
theorem DzAll.shows (I : Inv X pins σ H s) : ∀ (ds : List PyData) (vs : List V) (us : List Value), DzAll b X.K H vs ds → Vals vs us → PyData.showableAll ds = true → (∀ t ∈ PyData.shownAll ds, t.length ≤ sizeLine) →
    ∃ as bs, ReadsAll s.heap us ds as ∧ ReadAtMost s.heap (PyData.depthAll ds) bs ∧ ReprAllK X.prog X.w bs s.heap (PyData.depthAll ds) us (PyData.shownAll ds)
  | [], _, _, h, r, _, _ => by
    cases h; cases r
    exact ⟨_, [], ReadsAll.nil, (fun _ h => nomatch h), by simp only [PyData.shownAll]; exact .nil⟩
  | d :: ds, _, _, h, r, hs, hz => by
    cases h with
    | cons h1 h2 =>
      cases r with
      | cons r1 r2 =>
        have hs' : d.showable = true ∧ PyData.showableAll ds = true := by simpa [PyData.showableAll] using hs
        obtain ⟨as, b1, q1, m1, k1⟩ := Dz.shows I d _ _ h1 r1 hs'.1 (hz _ (by simp only [PyData.shownAll]; exact List.mem_cons_self))
        obtain ⟨bs, b2, q2, m2, k2⟩ := DzAll.shows I ds _ _ h2 r2 hs'.2 fun t ht => hz t (by simp only [PyData.shownAll]; exact List.mem_cons_of_mem _ ht)
        refine ⟨_, b1 ++ b2, ReadsAll.cons q1 q2, ?_, ?_⟩
        · exact ReadAtMost.append (m1.mono (by simp only [PyData.depthAll]; exact Nat.le_max_left _ _)) (m2.mono (by simp only [PyData.depthAll]; exact Nat.le_max_right _ _))
        · simp only [PyData.depthAll, PyData.shownAll]
          exact .cons ((k1.more fun b hb => List.mem_append_left _ hb).level_le (Nat.le_max_left _ _)) (k2.more_le (fun b hb => List.mem_append_right _ hb) (Nat.le_max_right _ _))
end
/-- what can be shown -/
structure ShowZ (d : PyData) : Prop where
  told : d.showable = true
  deep : d.depth ≤ 64
  fit : d.shown.length ≤ sizeLine
theorem Dz.showsBy (I : Inv X pins σ H s) {a : Addr} {d : PyData} (h : Dz b X.K H (.ref a) d) (z : ShowZ d) : ∃ T idr, ShowsBy X.prog X.w s.heap a d T idr := by
  cases h with
  | @lst _ xs ds e n t =>
    obtain ⟨its, rv, ⟨o, nn, ho, hc, _, hd⟩, _⟩ := I.list (SqL.of (K := X.K) e)
    have hz' : (listText (PyData.shownAll ds)).length ≤ sizeLine := by simpa only [PyData.shown] using z.fit
    obtain ⟨as, bs, h4, hb, hk⟩ := DzAll.shows I ds _ its t rv (by simpa [PyData.showable] using z.told) fun t ht => Nat.le_trans (listText_mem_le ht) hz'
    have hna := not_mem_of_deeper (Reads.list ho hc hd h4) (by simp only [PyData.depth]; exact Nat.lt_succ_self _) hb
    refine ⟨"list", "list.__repr__", PySem.F.slot_list_repr.toG, PySem.F.slot_list_str, PySem.F.slot_list_format, fun s hk0 => ⟨o, hk0 _ _ ho, hc⟩, fun A E s Q hg hu hk0 hQ => ?_⟩
    simp only [PyData.depth] at hu
    simp only [PyData.shown] at hQ
    cases its with
    | nil =>
      cases h4
      simp only [PyData.shownAll, listText_nil] at hQ
      exact call_list_repr_empty ⟨o, hk0 _ _ ho, hc⟩ (hk0 _ _ ho) hd (hQ s.heap _ _ fun _ _ e => e)
    | cons y l => exact call_list_reprK ho hc hd hna (by simpa using hk.length_eq) (fun i y e => hk.item i y (by simpa using e)) hg (fun b _ => Clear.nil b) hu hk0 hQ hz'
  | @tup _ xs ds e t =>
    obtain ⟨its, rv, ⟨o, ho, hc, nn, hd⟩, _⟩ := I.tuple e
    have hz' : (tupleText (PyData.shownAll ds)).length ≤ sizeLine := by simpa only [PyData.shown] using z.fit
    obtain ⟨as, bs, h4, hb, hk⟩ := DzAll.shows I ds _ its t rv (by simpa [PyData.showable] using z.told) fun t ht => Nat.le_trans (tupleText_mem_le ht) hz'
    have hna := not_mem_of_deeper (Reads.tuple ho hc hd h4) (by simp only [PyData.depth]; exact Nat.lt_succ_self _) hb
    refine ⟨"tuple", "tuple.__repr__", PySem.F.slot_tuple_repr, PySem.F.slot_tuple_str, PySem.F.slot_tuple_format, fun s hk0 => ⟨o, hk0 _ _ ho, hc⟩, fun A E s Q hg hu hk0 hQ => ?_⟩
    simp only [PyData.depth] at hu
    simp only [PyData.shown] at hQ
    exact call_tuple_reprK ho hc hd hna hk hg (fun b _ => Clear.nil b) hu hk0 hQ hz'
  | dk e n =>
    obtain ⟨o, nn, ho, hc, hd, hsys⟩ := dz_dict I e
    have hsm : sysModules ∉ ([a] ++ [] : List Addr) := by
      intro hm
      have := List.mem_singleton.mp hm
      rw [← this] at hsys
      simp at hsys
    exact showsBy_of_reads (Reads.dict (kvs := []) (as := []) (bs := []) ho hc hd .nil .nil) z.told (fun _ => hsm) z.fit
end
section
variable {X : Cx}
theorem call_reprZ (free : X.A.guards = some []) (room : X.A.units + 100 < cLine) : CallR X (.builtin "repr") (fun xs H Q => ∃ b x d, xs = [x] ∧ Dz b X.K H x d ∧ ShowZ d ∧ Q (.str d.shown) H) := by
  intro pins s σ H xs us Q I r h
  obtain ⟨b, x, d, rfl, dz, z, q⟩ := h
  obtain ⟨u, rfl, ru⟩ := vals1 r
  have fin : ∀ h' t tk, (∀ b o, s.heap.get? b = some o → h'.get? b = some o) → EP X pins σ Q (.str d.shown t) { s with heap := h', toks := tk } := fun h' t tk k => ⟨.str d.shown, H, I.kept k, ⟨_, rfl⟩, q⟩
  cases x with
  | ref a =>
    obtain rfl : u = Value.ref a := ru
    obtain ⟨T, idr, S⟩ := dz.showsBy I z
    have hdp := z.deep
    exact call_repr_slot (by omega) (S.typeIs s fun _ _ e => e) S.slotRepr (S.call X.A.in1 _ s _ free (by show X.A.units + 1 + d.depth < cLine; omega) (fun _ _ e => e) fun h' u tk hk => ⟨_, _, rfl, fin h' u tk hk⟩)
  | non => cases ru; cases dz; exact PySem.P.repr_of_none (fin _ _ _ fun _ _ e => e)
  | bl k => cases ru; cases dz; exact PySem.P.repr_of_bool (fin _ _ _ fun _ _ e => e)
  | int i => obtain ⟨t, rfl⟩ := ru; cases dz; exact PySem.P.repr_of_int (by simpa [PyData.showable] using z.told) (fin _ _ _ fun _ _ e => e)
  | str y => obtain ⟨t, rfl⟩ := ru; cases dz; exact PySem.P.repr_of_str (fin _ _ _ fun _ _ e => e) z.fit
  | _ => cases dz
end
end KW

/-! == and in: odd data against texts. -/
namespace KW
open PySem PySem.Spec PyProof.Rows L2
open PySem.SeqAt (EqAt RcAt)
section
variable {A : Around} {s : Shared}
theorem dict_declines_str (l : Addr) (es : Array DictEntry) (n : Nat) (dd : Option Addr) (sl : Array (Option Value)) (b : Str) (u : Tok) :
    Meets (Builtin.«dict.__eq__» ⟨[.ref l, .str b u], []⟩) (fun _ R s => s.heap.get? l = some { cls := .type "dict", dict := dd, data := .dict es n, slots := sl } ∧ R (.ok (.ret .notImplemented)) s) :=
  .of_wp fun prog w A R s h => by
    obtain ⟨hp, g, d, tk, os⟩ := s
    obtain ⟨hl, h⟩ := h
    have f1 := PySem.F.sub_str_dict
    wp_walk using wpAny_loadPart' hl
    exact ⟨_, rfl, h⟩
theorem str_declines_dict (b : Str) (u : Tok) (l : Addr) (es : Array DictEntry) (n : Nat) (dd : Option Addr) (sl : Array (Option Value)) :
    Meets (Builtin.«str.__eq__» ⟨[.str b u, .ref l], []⟩) (fun _ R s => s.heap.get? l = some { cls := .type "dict", dict := dd, data := .dict es n, slots := sl } ∧ R (.ok (.ret .notImplemented)) s) :=
  .of_wp fun prog w A R s h => by
    obtain ⟨hp, g, d, tk, os⟩ := s
    obtain ⟨hl, h⟩ := h
    wp_walk using wpAny_loadPart' hl, wpAny_load hl
    exact ⟨_, rfl, h⟩
/-- the object of a dict -/
def IsDct (h : Heap) (l : Addr) (es : Array DictEntry) : Prop := ∃ o, h.get? l = some o ∧ o.cls = .type "dict" ∧ ∃ n, o.data = .dict es n
theorem rc_dict_str {l : Addr} {es : Array DictEntry} (b : Str) (u : Tok) (hl : IsDct s.heap l es) (hu : A.units < cLine) : RcAt A s (.ref l) (.str b u) false := fun prog w E Q h => by
  obtain ⟨⟨cls, dd, data, sl⟩, ho, hc, n, hd⟩ := hl
  simp only at hc hd; subst hc hd
  exact SeqAt.rc_eq_decline_or (k := false) ⟨_, ho, rfl⟩ (typeIs_str s b u) (by decide) PySem.F.sub_str_dict PySem.F.slot_dict_eq PySem.F.slot_str_eq_refl
    (fun _ hq => call_meets PySem.F.slot_dict_eq ⟨_, ho, rfl⟩ PySem.F.entry_dict_eq (PySem.F.args_dict_eq_2 _ _) (dict_declines_str l es n dd sl b u) ⟨ho, hq⟩)
    (fun _ hq => call_meets PySem.F.slot_str_eq_refl (typeIs_str s b u) PySem.F.entry_str_eq (PySem.F.args_str_eq_2 _ _) (str_declines_dict b u l es n dd sl) ⟨ho, hq⟩)
    (fun _ hq => wpAny_of_eq (rfl : isSame (.ref l) (.str b u) = pure false) hq) (.inr hu) h
theorem rc_str_dict {l : Addr} {es : Array DictEntry} (b : Str) (u : Tok) (hl : IsDct s.heap l es) (hu : A.units < cLine) : RcAt A s (.str b u) (.ref l) false := fun prog w E Q h => by
  obtain ⟨⟨cls, dd, data, sl⟩, ho, hc, n, hd⟩ := hl
  simp only at hc hd; subst hc hd
  exact SeqAt.rc_eq_decline_or (k := false) (typeIs_str s b u) ⟨_, ho, rfl⟩ (by decide) PySem.F.sub_dict_str PySem.F.slot_str_eq PySem.F.slot_dict_eq_refl
    (fun _ hq => call_meets PySem.F.slot_str_eq (typeIs_str s b u) PySem.F.entry_str_eq (PySem.F.args_str_eq_2 _ _) (str_declines_dict b u l es n dd sl) ⟨ho, hq⟩)
    (fun _ hq => call_meets PySem.F.slot_dict_eq_refl ⟨_, ho, rfl⟩ PySem.F.entry_dict_eq (PySem.F.args_dict_eq_2 _ _) (dict_declines_str l es n dd sl b u) ⟨ho, hq⟩)
    (fun _ hq => wpAny_of_eq (rfl : isSame (.str b u) (.ref l) = pure false) hq) (.inr hu) h
theorem eq_dict_str {l : Addr} {es : Array DictEntry} (b : Str) (u : Tok) (hl : IsDct s.heap l es) (hu : A.units < cLine) : EqAt A s (.ref l) (.str b u) false := fun prog w E Q h => by
  unfold eqBool
  exact wpAny_holding (wpAny_ite_split (fun hab => absurd (eq_of_beq hab) nofun) (fun _ => wpAny_bind (rc_dict_str b u hl hu prog w E _ (wpAny_truthy_bool h))))
theorem eq_str_dict {l : Addr} {es : Array DictEntry} (b : Str) (u : Tok) (hl : IsDct s.heap l es) (hu : A.units < cLine) : EqAt A s (.str b u) (.ref l) false := fun prog w E Q h => by
  unfold eqBool
  exact wpAny_holding (wpAny_ite_split (fun hab => absurd (eq_of_beq hab) nofun) (fun _ => wpAny_bind (rc_str_dict b u hl hu prog w E _ (wpAny_truthy_bool h))))
end
/-- data that is this text -/
def isStrD (d : PyData) (k : Str) : Bool := match d with
  | .str y => y == k
  | _ => false
section
variable {X : Cx} {pins : List (Addr × Obj)} {σ : L2.St} {H : Hp} {s : Shared} {b : Addr} {A : Around}
theorem Dz.eqStr (I : Inv X pins σ H s) (hu : A.units < cLine) {d : PyData} {v : V} {u : Value} (h : Dz b X.K H v d) (r : RelV v u) (k : Str) (t : Tok) : EqAt A s u (.str k t) (isStrD d k) ∧ EqAt A s (.str k t) u (isStrD d k) ∧ RcAt A s u (.str k t) (isStrD d k) := by
  cases h with
  | non => cases r; exact ⟨SeqAt.EqAt.none_str k t, SeqAt.EqAt.str_none k t, SeqAt.RcAt.none_str k t⟩
  | bl q => cases r; exact ⟨SeqAt.EqAt.bool_str q k t, SeqAt.EqAt.str_bool k t q, SeqAt.RcAt.bool_str q k t⟩
  | int i => obtain ⟨w, rfl⟩ := r; exact ⟨SeqAt.EqAt.int_str i w k t, SeqAt.EqAt.str_int k t i w, SeqAt.RcAt.int_str i w k t⟩
  | str x =>
    obtain ⟨w, rfl⟩ := r
    refine ⟨SeqAt.EqAt.str_str x w k t, ?_, SeqAt.RcAt.str_str x w k t⟩
    have q := SeqAt.EqAt.str_str (A := A) (s := s) k t x w
    rw [show (k == x) = isStrD (.str x) k from by unfold isStrD; rw [Bool.eq_iff_iff, beq_iff_eq, beq_iff_eq]; exact eq_comm] at q
    exact q
  | lst e n x =>
    cases r
    obtain ⟨its, rv, ⟨o, nn, ho, hc, _, hd⟩, _⟩ := I.list (SqL.of (K := X.K) e)
    have hl : s.heap.IsList _ its.toArray := ⟨_, ho, hc, _, hd⟩
    exact ⟨SeqAt.EqAt.list_str k t hl hu, SeqAt.EqAt.str_list k t hl hu, SeqAt.RcAt.list_str k t hl hu⟩
  | tup e x =>
    cases r
    obtain ⟨its, rv, ⟨o, ho, hc, nn, hd⟩, _⟩ := I.tuple e
    have hl : s.heap.IsTuple _ its.toArray := ⟨_, ho, hc, _, hd⟩
    exact ⟨SeqAt.EqAt.tuple_str k t hl hu, SeqAt.EqAt.str_tuple k t hl hu, SeqAt.RcAt.tuple_str k t hl hu⟩
  | dk e n =>
    cases r
    obtain ⟨o, nn, ho, hc, hd, _⟩ := dz_dict I e
    have hl : IsDct s.heap _ #[] := ⟨o, ho, hc, nn, hd⟩
    exact ⟨eq_dict_str k t hl hu, eq_str_dict k t hl hu, rc_dict_str k t hl hu⟩
end
section
variable {X : Cx}
/-- x == 'text', x odd -/
def rEqS (K : PySem.W.Frag) : R2 := fun x y H Q => ∃ (b : Addr) (d : PyData) (k : Str), Dz b K H x d ∧ y = .str k ∧ Q (.bl (isStrD d k)) H
theorem op_eqS (hu : X.A.units + 64 < cLine) : OpR X (compareOp .Eq) (rEqS X.K) := by
  intro pins s σ H x y v u Q I rx ry h
  obtain ⟨b, d, k, dz, rfl, q⟩ := h
  obtain ⟨t, rfl⟩ := ry
  exact (dz.eqStr (A := X.A) I (by omega) rx k t).2.2 _ _ _ _ ⟨.bl _, H, I, rfl, q⟩
/-- x in ('text', ..), x odd -/
def rInS (K : PySem.W.Frag) : R2 := fun x y H Q => ∃ (b : Addr) (d : PyData) (q : Addr) (ks : List Str), Dz b K H x d ∧ y = .ref q ∧ SqT K H q (ks.map V.str) ∧ Q (.bl (ks.any fun k => isStrD d k)) H
theorem op_inS (hu : X.A.units + 64 < cLine) : OpR X (compareOp .In) (rInS X.K) := by
  intro pins s σ H x y v u Q I rx ry h
  obtain ⟨b, d, q, ks, dz, rfl, hq, h⟩ := h
  cases ry
  obtain ⟨its, rv, ⟨o, ho, hc, nn, hd⟩, _⟩ := I.tuple hq
  have hst := rv.strs
  refine SeqAt.in_tupleAt (fun y => isStrD d (strOf y)) ⟨_, ho, hc, _, hd⟩ (fun y hy => ?_) ?_
  · obtain ⟨k, t, rfl⟩ := hst.all y (by simpa using hy)
    exact (dz.eqStr (A := X.A.in1) I (by show X.A.units + 1 < cLine; omega) rx k t).2.1
  · have e : its.toArray.any (fun y => isStrD d (strOf y)) = ks.any fun k => isStrD d k := by
      rw [List.any_toArray, ← hst.strs, List.any_map]
      rfl
    rw [e]
    exact ⟨.bl _, H, I, rfl, h⟩
def oneStrD : List PyData → Str → Bool
  | [d], k => isStrD d k
  | _, _ => false
/-- x == ('text',), x a tuple of odd values -/
def rEqF (K : PySem.W.Frag) : R2 := fun x y H Q => ∃ (b a : Addr) (xs : List V) (ds : List PyData) (p : Addr) (k : Str), x = .ref a ∧ SqT K H a xs ∧ DzAll b K H xs ds ∧ y = .ref p ∧ SqT K H p [.str k] ∧ Q (.bl (oneStrD ds k)) H
theorem op_eqF (hu : X.A.units + 64 < cLine) : OpR X (compareOp .Eq) (rEqF X.K) := by
  intro pins s σ H x y v u Q I rx ry h
  obtain ⟨b, a, xs, ds, p, k, rfl, ha, dz, rfl, hp, h⟩ := h
  cases rx
  cases ry
  obtain ⟨its, rv, ⟨o, ho, hc, nn, hd⟩, _⟩ := I.tuple ha
  obtain ⟨its2, rv2, ⟨o2, ho2, hc2, nn2, hd2⟩, _⟩ := I.tuple hp
  cases rv2 with
  | cons r2 t2 =>
    cases t2
    obtain ⟨t, rfl⟩ := r2
    have hl1 : s.heap.IsTuple a its.toArray := ⟨_, ho, hc, _, hd⟩
    have hl2 : s.heap.IsTuple p [Value.str k t].toArray := ⟨_, ho2, hc2, _, hd2⟩
    have hlen : its.length = ds.length := rv.length.symm.trans dz.len
    have go : ∀ c : Bool, c = oneStrD ds k → EP X pins σ Q (.bool c) s := fun c e => by
      rw [e]; exact ⟨.bl _, H, I, rfl, h⟩
    refine SeqAt.RcAt.tuples (A := X.A) (e := fun _ => isStrD (ds.headD .none) k) hl1 hl2 (by omega) (fun j j1 j2 => ?_) _ _ _ _ (go _ ?_)
    · have hj : j = 0 := by simp at j2; exact j2
      subst hj
      cases dz with
      | nil => cases rv; exact absurd j1 (Nat.not_lt_zero _)
      | cons x1 x2 =>
        cases rv with
        | cons r1 r3 => exact (x1.eqStr (A := X.A.in1) I (by show X.A.units + 1 < cLine; omega) r1 k t).1
    · have e1 : its.toArray.size = ds.length := by rw [List.size_toArray, hlen]
      rw [e1]
      match ds with
      | [] => rfl
      | [d] => simp [oneStrD]
      | d :: e :: r => simp [oneStrD]
end
end KW

/-! sorted(set(x)) of a text. -/
namespace KW
open PySem PySem.Spec PyProof.Rows L2
open PySem.Froz (TxOk sObj SD addTx tailTx is_str upd_const get_upd add_x)
section
variable {prog : Program} {w : World} {A : Around} {E : Value → Shared → Prop} {s : Shared}
theorem call_setT {x : Str} {t : Tok} {Q : Value → Shared → Prop} (hh : A.handled = none) (hn : x.cps.size + 1 < scanBound)
    (h : ∀ (h' : Heap) (tk : Nat) (D : SD) (ys : List Str), h'.get? s.heap.objs.size = some (sObj "set" D) → OrdX prog w D ys → ys.length ≤ x.cps.size → (∀ k, k ∈ ys ↔ k ∈ (cl x).map sg) → (∀ b o, b < s.heap.objs.size → s.heap.get? b = some o → h'.get? b = some o) → Q (.ref s.heap.objs.size) { s with heap := h', toks := tk }) :
    wpAny (model prog w) A (call (.type "set") [.str x t]) Q E s := by
  obtain ⟨c0, tl, hmro⟩ := PySem.F.called_set.mro
  have hmade := PySem.F.called_set.made; have hsub := PySem.F.called_set.sub
  refine wpAny_call (codeAny_of_tree (show wpAny _ _ (callAny (.type "set") _) _ _ _ from wpAny_pure ⟨Code.quiet_builtin _ (by decide +kernel), codeAny_builtin PySem.F.entry_type_call ?_⟩))
  rw [Around.under_plain (weight_type_call_type "set" [.str x t] []) rfl]
  have h1 := PySem.F.called_set.notType; have h2 := PySem.F.called_set.canCreate; have hct := PySem.F.typeCall_set_1 (.str x t)
  repeat (any_goals (first | assumption | wp_step))
  refine codeAny_mono (new_led (.str x t) (E := E) (Q₁ := fun obj s₁ => obj = .ref s.heap.objs.size ∧ s₁ = { s with heap := s.heap.push (bareSet w) }) ⟨rfl, rfl⟩) fun r s₁ hr => ?_
  cases r with
  | error e => exact hr
  | ok fl =>
    cases fl with
    | ret obj =>
      obtain ⟨rfl, rfl⟩ := hr
      have hS : (s.heap.push (bareSet w)).get? s.heap.objs.size = some (bareSet w) := Heap.get?_push_size _ rfl
      have hT : Shared.TypeIs { s with heap := s.heap.push (bareSet w) } (.ref s.heap.objs.size) "set" := ⟨_, hS, rfl⟩
      have hli := PySem.F.called_set.init.lookup; have hbi := PySem.F.called_set.init.bind (.ref s.heap.objs.size)
      repeat (any_goals (first | assumption | wp_step))
      refine codeAny_mono (codeAny_call_builtin (R := wants (fun r s₂ => r = .none ∧ ∃ (h' : Heap) (tk : Nat) (D : SD) (ys : List Str), s₂ = { s with heap := h', toks := tk } ∧ h'.get? s.heap.objs.size = some (sObj "set" D) ∧ OrdX prog w D ys ∧ ys.length ≤ x.cps.size ∧ (∀ k, k ∈ ys ↔ k ∈ (cl x).map sg) ∧ ∀ b o, b < s.heap.objs.size → s.heap.get? b = some o → h'.get? b = some o) E) PySem.F.called_set.init.plain PySem.F.entry_set_init (PySem.check_set_init_1 hT ?_)) fun r₂ s₂ hr₂ => ?_
      · have n1 := PySem.F.sub_str_set; have n2 := PySem.F.sub_str_frozenset
        have n3 : (Value.type "str" == Value.type "dict") = false := by decide
        unfold bareSet at hS
        unfold Builtin.«set.__init__» noKeywords Builtin.Frozenset.updateFrom; generalize hPI : pyIter = PI
        wp_walk
        subst hPI
        refine wpAny_pyIter_str fun o St W hst => wpAny_bind (wpAny_runValue ?_)
        have away : s.heap.objs.size ∉ [(s.heap.push (bareSet w)).objs.size] := by
          rw [Heap.size_push]
          intro hm
          have e := List.mem_singleton.mp hm
          omega
        refine upd_loopX (n := x.cps.size) ((W A.in1.in1.in1 (by simp [hh])).toS) s.heap.objs.size away (fun i => sg (x.cps.toList.getD i 0)) (fun i v hv => ?val) hn (x.cps.size - 0) 0 _ (#[], 0, .fresh 0 0 (!w.params.followText "set-order")) [] (by omega) (Nat.zero_le _) hst ?fresh ?ord (Nat.zero_le _) (fun k => Iff.intro (fun z => nomatch z) (fun ⟨j, hj, _⟩ => absurd hj (Nat.not_lt_zero _))) ?rest
        case val =>
          obtain ⟨c, u, e1, e2⟩ := hv
          refine ⟨u, ?_⟩
          rw [e2, List.getD_eq_getElem?_getD, Array.getElem?_toList, e1]
          rfl
        case fresh => exact Heap.get?_push_of_some _ hS
        case ord =>
          refine ⟨PySem.Froz.TxOk.nil rfl, List.nodup_nil, List.Pairwise.nil, ?_⟩
          show _ ∨ (!w.params.followText "set-order") = true
          cases w.params.followText "set-order"
          · exact .inr rfl
          · exact .inl rfl
        case rest =>
          intro s3 D3 l3 mv S3 F3 h3 a3
          obtain ⟨hp3, g3, d3, tk3, os3⟩ := s3
          obtain rfl : g3 = s.gens := mv.gens
          obtain rfl : d3 = s.drawn := mv.drawn
          obtain rfl : os3 = s.os := mv.os
          refine wpAny_pure (show wpAny _ _ (ret Value.none) _ _ _ from wpAny_pure ⟨rfl, hp3, tk3, D3, l3, rfl, S3, F3, h3, fun k => ?_, fun b o hb e => ?_⟩)
          · rw [a3 k, List.mem_map]
            constructor
            · rintro ⟨j, hj, e⟩
              have hj' : j < x.cps.toList.length := by rw [Array.length_toList]; exact hj
              refine ⟨x.cps.toList.getD j 0, ?_, e⟩
              rw [List.getD_eq_getElem?_getD, List.getElem?_eq_getElem hj']
              exact List.getElem_mem hj'
            · rintro ⟨c, hc, e⟩
              obtain ⟨j, hj, e2⟩ := List.mem_iff_getElem.mp (show c ∈ x.cps.toList from hc)
              refine ⟨j, by rw [← Array.length_toList]; exact hj, ?_⟩
              show sg (x.cps.toList.getD j 0) = k
              rw [List.getD_eq_getElem?_getD, List.getElem?_eq_getElem hj]
              rw [← e, ← e2]
              rfl
          · refine mv.heap b o (fun hm => ?_) (Heap.get?_push_of_some _ (Heap.get?_push_of_some _ e))
            rcases List.mem_cons.mp hm with e | hm
            · exact Nat.ne_of_lt hb e
            · have e := List.mem_singleton.mp hm
              rw [Heap.size_push] at e
              exact Nat.ne_of_lt (Nat.lt_succ_of_lt hb) e
      · cases r₂ with
        | error e => exact hr₂
        | ok fl₂ =>
          cases fl₂ with
          | ret r =>
            obtain ⟨rfl, h', tk, D, ys, rfl, hS', F', hl', hm', hk'⟩ := hr₂
            repeat (any_goals (first | assumption | wp_step))
            exact h _ _ _ _ hS' F' hl' hm' hk'
          | _ => exact hr₂.elim
    | _ => exact hr.elim
end
section
variable {X : Cx} {x y : Str} {p p2 pos pos2 : Pos} {e : Expr} {te : TE}
/-- sorted(set(x)), x a text of fewer than 64 signs -/
def tSortSetT (K : PySem.W.Frag) (te : TE) : TE := fun σ H Q => te σ H fun v H1 => ∃ (x : Str), v = .str x ∧ x.length < 64 ∧
  ∀ (ys : List Str) (q : Addr), ys.Nodup → (∀ k, k ∈ ys ↔ k ∈ (cl x).map sg) → sortedS ys = true → H1 q = none → Q (.ref q) (upd H1 q (.lst (ys.map V.str)))
theorem pe_sortSetT (hc : X.calm = true) (hg : Gl X x) (hm : X.mg x = none) (hv : bootBuiltins x = some (.builtin "sorted")) (hg2 : Gl X y) (hm2 : X.mg y = none) (hv2 : bootBuiltins y = some (.type "set")) (ha : PE X e te)
    (hn : x ≠ "__name__" := by decide) (hdb : (x == ("__debug__" : Str)) = false := by decide) (hn2 : y ≠ "__name__" := by decide) (hdb2 : (y == ("__debug__" : Str)) = false := by decide)
    (he : starEach [e] X.env = (false, eval e X.env) :: starEach [] X.env := by rfl) :
    PE X (.Call (.Name x p) [.Call (.Name y p2) [e] [] pos2] [] pos) (tSortSetT X.K te) := by
  refine ⟨fun pins s σ H Q I h => ?_⟩
  refine wpAny_Call_Name_kw (ld_blt I hg hm hv ?_ hn hdb)
  refine PyProof.Rows.callWith_builtin1 ?_ rfl rfl
  show wpAny _ _ (spliced ((false, eval (.Call (.Name y p2) [e] [] pos2) X.env) :: backTo pos (starEach [] X.env))) _ _ s
  refine Calls.spliced_cons (wpAny_Call_Name_kw (ld_blt I hg2 hm2 hv2 ?_ hn2 hdb2))
  refine PyProof.Rows.callWith_type1 ?_ he rfl
  rw [he]
  show wpAny _ _ (spliced ((false, eval e X.env) :: backTo pos2 (starEach [] X.env))) _ _ s
  refine Calls.spliced_cons (thn (ha.run pins s σ H _ I h) fun u s1 ⟨v, H1, I1, r1, q1⟩ => Calls.spliced_nil ?_)
  obtain ⟨z, rfl, h64, q⟩ := q1
  obtain ⟨t, rfl⟩ := r1
  have hsz : z.cps.size = z.length := rfl
  refine call_setT (I1.ok.hd hc) (by rw [hsz]; unfold scanBound; omega) fun h' tk D ys S F hle hmem keep => Calls.spliced_nil ?_
  have k1 : ∀ b o, s1.heap.get? b = some o → h'.get? b = some o := fun b o e => keep b o (Heap.lt_size e) e
  refine sorted_setX (s := { s1 with heap := h', toks := tk }) S F (I1.ok.hd hc) (by omega) fun s' p out c zs k g o hp hob hst hperm hsort => ?_
  have hlen : (zs.map V.str).length ≤ sizeLine := by rw [List.length_map, hperm.length_eq, sizeLine_eq]; omega
  have hp1 : s1.heap.objs.size ≤ p := Nat.le_trans (Nat.le_of_lt (Heap.lt_size S)) hp
  have hn1 : H1 p = none := I1.hok.fresh hp1
  have J : Inv X pins σ (upd H1 p (.lst (zs.map V.str))) { s1 with heap := s'.heap, gens := s'.gens, drawn := s'.drawn, toks := s'.toks } :=
    I1.call (ch := []) (Un.laid (fun b o e => k b o (k1 b o e)) hp1 hn1) (I1.hok.laid (fun b o e => k b o (k1 b o e)) hp1 ⟨hlen, out.toList, c, vals_of_strs hst, hob⟩) (by rw [g]; exact I1.bare) (fun _ z => nomatch z)
  have e : s' = { s1 with heap := s'.heap, gens := s'.gens, drawn := s'.drawn, toks := s'.toks } := by
    cases s'
    cases s1
    cases o
    rfl
  rw [e]
  exact ⟨.ref p, _, J, rfl, q zs p (hperm.nodup_iff.mpr F.nd) (fun k => hperm.mem_iff.trans (hmem k)) hsort hn1⟩
end
end KW

/-! text[::-1] -/
namespace KW
open PySem PySem.Spec PyProof.Rows L2
def revS (z : Str) : Str := ⟨z.cps.toList.reverse.toArray⟩
theorem revS_cl (z : Str) : cl (revS z) = (cl z).reverse := by
  show (z.cps.toList.reverse.toArray).toList = z.cps.toList.reverse
  simp
theorem revS_len (z : Str) : (revS z).length = z.length := by
  show (z.cps.toList.reverse.toArray).size = z.cps.size
  simp
theorem picked_rev (x : Str) (t : Tok) : ((slicePicked x none none (some (-1, t))).filterMap (x.cps[·]?)).toArray = x.cps.toList.reverse.toArray := by
  show ((sliceRange ((x.cps.size : Int) - 1) (-1) (-1)).filterMap (x.cps[·]?)).toArray = _
  rw [PySem.W.krv_sliceRange, PySem.W.krv_range, List.filterMap_reverse, PySem.W.krv_all]
section
variable {X : Cx}
/-- z[::-1] of a text -/
def tRevS (te : TE) : TE := fun σ H Q => te σ H fun x H1 => ∃ z : Str, x = .str z ∧ z.length ≤ sizeLine ∧ Q (.str (revS z)) H1
theorem pe_revS {e : Expr} {te : TE} {k : Nat} {p1 p2 p3 pos : Pos} (he : PE X e te) : PE X (.Subscript e (.Slice none none (some (.UnaryOp .USub (.Constant (.int 1) k p1) p2)) p3) pos) (tRevS te) := by
  refine ⟨fun pins s σ H Q I h => ?_⟩
  refine Subscript_ (thn (he.run pins s σ H _ I h) fun v s1 ⟨x, H1, I1, r1, q1⟩ => ?_)
  obtain ⟨z, ex, hz, q⟩ := q1
  subst ex
  obtain ⟨t, rfl⟩ := r1
  have hst : PO X (some (.UnaryOp .USub (.Constant (.int 1) k p1) p2)) (tPart (tUn (rU fun i => .int (-i)) (tC (.int 1)))) := po_some (pe_un un_neg pe_int)
  refine wpAny_Slice (thn (po_none.run pins s1 σ H1 (fun o H2 => o = none ∧ H2 = H1) I1 ⟨rfl, rfl⟩) fun vl s2 ⟨l, H2, I2, pl, el, e2⟩ => ?_)
  subst el e2
  refine thn (po_none.run pins s2 σ H2 (fun o H3 => o = none ∧ H3 = H2) I2 ⟨rfl, rfl⟩) fun vu s3 ⟨u, H3, I3, pu, eu, e3⟩ => ?_
  subst eu e3
  refine thn (hst.run pins s3 σ H3 (fun o H4 => o = some (-1) ∧ H4 = H3) I3 ⟨1, rfl, -1, rfl, rfl, rfl⟩) fun vs s4 ⟨o, H4, I4, ps, eo, e4⟩ => ?_
  subst eo e4
  have I5 : Inv X pins σ H4 { s4 with heap := s4.heap.push { cls := .type "slice", data := .fields #[vl, vu, vs] } } := I4.kept (t' := s4.toks) fun b ob q => Heap.get?_push_of_some _ q
  obtain ⟨l, rfl, hl⟩ := IsPart.raw pl
  obtain ⟨u, rfl, hu⟩ := IsPart.raw pu
  obtain ⟨st, rfl, hst⟩ := IsPart.raw ps
  obtain rfl : l = none := by
    cases l with
    | none => rfl
    | some _ => cases hl
  obtain rfl : u = none := by
    cases u with
    | none => rfl
    | some _ => cases hu
  obtain ⟨t1, rfl⟩ : ∃ t1, st = some (-1, t1) := by
    rcases st with _ | ⟨i, t1⟩
    · cases hst
    · exact ⟨t1, by have e : i = -1 := Option.some.inj hst; rw [e]⟩
  show wpAny (model X.prog X.w) X.A (subscriptTail e (.Slice none none (some (.UnaryOp .USub (.Constant (.int 1) k p1) p2)) p3) (.str z t) (.ref s4.heap.objs.size)) (EP X pins σ Q) X.xe { s4 with heap := s4.heap.push { cls := .type "slice", data := .fields #[partValue none, partValue none, partValue (some (-1, t1))] } }
  refine tail_any (ops := [.str z t, .ref s4.heap.objs.size]) (typeIs_str _ _ _) F.slot_str_getitem.lookup ?_ (by with_unfolding_all rfl)
  refine wpAny_getItem_str_slice (l := none) (u := none) (st := some (-1, t1)) (Heap.IsSliceOf.new _ _ _ _) rfl ?_
  show Made.post (if ((-1 : Int) == 1 && _) = true then Made.val (.str z t) else Made.str ⟨((slicePicked z none none (some (-1, t1))).filterMap (z.cps[·]?)).toArray⟩) (EP X pins σ Q) _
  rw [show ((-1 : Int) == 1) = false from rfl, Bool.false_and, if_neg Bool.false_ne_true, picked_rev]
  exact ⟨by show (revS z).length ≤ sizeLine; rw [revS_len]; exact hz, .str (revS z), H4, I5.tok _, ⟨_, rfl⟩, q⟩
end
end KW
namespace KW
open PySem PySem.Spec PyProof.Rows L2
/-! Data of odd shapes: its size. -/
structure Sz (n w : Nat) (d : PyData) : Prop where
  deep : d.depth ≤ n
  wt : d.weight ≤ w
  told : d.showable = true
  short : d.leavesShort 40 = true
structure SzAll (n w : Nat) (ds : List PyData) : Prop where
  deep : PyData.depthAll ds ≤ n
  wt : PyData.weightAll ds ≤ ds.length * (w + 1)
  told : PyData.showableAll ds = true
  short : PyData.leavesShortAll 40 ds = true
theorem SzAll.nil {n w : Nat} : SzAll n w [] := ⟨by simp [PyData.depthAll], by simp [PyData.weightAll], by simp [PyData.showableAll], by simp [PyData.leavesShortAll]⟩
theorem SzAll.cons {n w : Nat} {d : PyData} {ds : List PyData} (h : Sz n w d) (t : SzAll n w ds) : SzAll n w (d :: ds) := by
  constructor
  · simp only [PyData.depthAll]; exact Nat.max_le.mpr ⟨h.deep, t.deep⟩
  · simp only [PyData.weightAll, List.length_cons]
    have h1 := h.wt
    have h2 := t.wt
    have e : (ds.length + 1) * (w + 1) = ds.length * (w + 1) + (w + 1) := by rw [Nat.add_mul, Nat.one_mul]
    omega
  · simp [PyData.showableAll, h.told, t.told]
  · simp [PyData.leavesShortAll, h.short, t.short]
theorem SzAll.of {n w : Nat} : ∀ {ds : List PyData}, (∀ d ∈ ds, Sz n w d) → SzAll n w ds
  | [], _ => .nil
  | d :: ds, h => .cons (h d List.mem_cons_self) (.of fun e he => h e (List.mem_cons_of_mem _ he))
theorem SzAll.tuple {n w : Nat} {ds : List PyData} (h : SzAll n w ds) : Sz (n + 1) (ds.length * (w + 1)) (.tuple ds) :=
  ⟨by simp only [PyData.depth]; exact Nat.succ_le_succ h.deep, by simp only [PyData.weight]; exact h.wt, by simpa [PyData.showable] using h.told, by simpa [PyData.leavesShort] using h.short⟩
theorem SzAll.list {n w : Nat} {ds : List PyData} (h : SzAll n w ds) : Sz (n + 1) (ds.length * (w + 1)) (.list ds) :=
  ⟨by simp only [PyData.depth]; exact Nat.succ_le_succ h.deep, by simp only [PyData.weight]; exact h.wt, by simpa [PyData.showable] using h.told, by simpa [PyData.leavesShort] using h.short⟩
theorem Sz.mono {n m w v : Nat} {d : PyData} (h : Sz n w d) (h1 : n ≤ m) (h2 : w ≤ v) : Sz m v d := ⟨Nat.le_trans h.deep h1, Nat.le_trans h.wt h2, h.told, h.short⟩
theorem Sz.shows {d : PyData} (h : Sz 64 300000 d) : ShowZ d := by
  refine ⟨h.told, h.deep, ?_⟩
  have h1 := PyData.shown_le 40 (by decide) d h.short
  have h2 := h.wt
  have e : sizeLine = 16777216 := by unfold sizeLine; decide
  omega
theorem Sz.str {y : Str} {w : Nat} (hc : CodesOk (cl y)) (hw : y.length ≤ w) : Sz 0 w (.str y) := by
  refine ⟨by simp [PyData.depth], by simp only [PyData.weight]; exact hw, by simp [PyData.showable], ?_⟩
  simp only [PyData.leavesShort, List.all_eq_true, decide_eq_true_eq]
  intro c h
  have := hc c h
  have e : (16 : Nat) ^ 8 = 4294967296 := by decide
  omega
theorem Sz.int {i : Int} (h0 : 0 ≤ i) (h1 : i ≤ 1000) : Sz 0 16 (.int i) := by
  have h := Pl.int h0 h1
  refine ⟨h.deep, h.wt, h.told, ?_⟩
  have h2 := h.small
  simp only [PyData.intsShort, decide_eq_true_eq] at h2
  simp only [PyData.leavesShort, decide_eq_true_eq]
  omega
/-- what stands at a tuple's place, as far as a token's test can tell -/
def vD : PyData → V
  | .str y => .str y
  | .int i => .int i
  | .bool k => .bl k
  | _ => .non
def tokZ (z : Str) : PyData → Bool
  | .tuple ds => tokV z (ds.map vD)
  | _ => false
def plainZ : PyData → Bool
  | .tuple ds => plainV (ds.map vD)
  | _ => false
section
variable {b : Addr} {K : PySem.W.Frag} {H : Hp} {z : Str}
theorem Dz.vd {v : V} {d : PyData} (h : Dz b K H v d) : v = vD d ∨ (strV v = false ∧ (∀ a c, withinV a c v = false) ∧ vD d = .non) := by
  cases h <;> first | exact .inl rfl | exact .inr ⟨rfl, fun _ _ => rfl, rfl⟩
theorem Dz.strv {v : V} {d : PyData} (h : Dz b K H v d) : strV v = strV (vD d) := by
  rcases h.vd with rfl | ⟨h1, _, h2⟩
  · rfl
  · rw [h1, h2]; rfl
theorem Dz.withv {v : V} {d : PyData} (h : Dz b K H v d) (a c : Int) : withinV a c v = withinV a c (vD d) := by
  rcases h.vd with rfl | ⟨_, h1, h2⟩
  · rfl
  · rw [h1, h2]; rfl
theorem strV_str {x : V} (h : strV x = true) : ∃ k, x = .str k := by
  cases x <;> first | exact ⟨_, rfl⟩ | cases h
theorem Dz.str_inv {d : PyData} {y : Str} (h : Dz b K H (.str y) d) : d = .str y := by cases h; rfl
theorem tokV_dz {xs : List V} {ds : List PyData} (h : DzAll b K H xs ds) : tokV z xs = tokV z (ds.map vD) := by
  cases h with
  | nil => rfl
  | @cons x r d es h1 h2 =>
    cases hs : strV x with
    | false =>
      rw [tokV_nostr hs]
      exact (tokV_nostr (by rw [← h1.strv]; exact hs)).symm
    | true =>
      obtain ⟨k, rfl⟩ := strV_str hs
      obtain rfl := h1.str_inv
      cases h2 with
      | nil => rfl
      | @cons y r e es h3 h4 =>
        cases h4 with
        | nil =>
          cases hy : strV y with
          | false =>
            rw [tokV_two hy]
            exact (tokV_two (by rw [← h3.strv]; exact hy)).symm
          | true =>
            obtain ⟨q, rfl⟩ := strV_str hy
            obtain rfl := h3.str_inv
            rfl
        | @cons u r e2 es h5 h6 =>
          cases h6 with
          | nil =>
            rw [tokV_three, h3.withv, h5.withv]
            exact tokV_three.symm
          | cons h7 h8 =>
            rw [tokV_long]
            exact tokV_long.symm
theorem plainV_dz {xs : List V} {ds : List PyData} (h : DzAll b K H xs ds) : plainV xs = plainV (ds.map vD) := by
  cases h with
  | nil => rfl
  | @cons x r d es h1 h2 =>
    cases h1 <;> rfl
/-- texts at a tuple's places are short, of true codes -/
def TopOk : PyData → Prop
  | .tuple ds => ∀ y, PyData.str y ∈ ds → y.length ≤ 60 ∧ CodesOk (cl y)
  | _ => True
theorem DzAll.of_mem {xs : List V} {ds : List PyData} {y : Str} (h : DzAll b K H xs ds) (hm : V.str y ∈ xs) : PyData.str y ∈ ds := by
  obtain ⟨d, h1, h2⟩ := h.mem hm
  obtain rfl := h2.str_inv
  exact h1
theorem tok_or {v : V} {d : PyData} {Q : VK} (h : Dz b K H v d) (ht : TopOk d) (k : ∀ H', Same H H' → Q (.bl (tokZ z d)) H') :
    (∃ n, Ty7 K H v n ∧ (n == "tuple") = false ∧ Q (.bl false) H) ∨ ∃ (a : Addr) (xs : List V), v = .ref a ∧ SqT K H a xs ∧ (∀ x ∈ xs, ∃ n, Ty7 K H x n) ∧ (∀ y, V.str y ∈ xs → y.length ≤ 1000) ∧ ∀ H', Same H H' → Q (.bl (tokV z xs)) H' := by
  cases h with
  | non => exact .inl ⟨_, Ty7.non, by decide, k H (Same.refl _)⟩
  | bl q => exact .inl ⟨_, Ty7.bl, by decide, k H (Same.refl _)⟩
  | int i => exact .inl ⟨_, Ty7.int, by decide, k H (Same.refl _)⟩
  | str x => exact .inl ⟨_, Ty7.str, by decide, k H (Same.refl _)⟩
  | lst e n t => exact .inl ⟨_, Ty7.lst e, by decide, k H (Same.refl _)⟩
  | dk e n => exact .inl ⟨_, Ty7.dK e, by decide, k H (Same.refl _)⟩
  | tup e t =>
    refine .inr ⟨_, _, rfl, e, fun x hx => ?_, fun y hy => Nat.le_trans (ht y (t.of_mem hy)).1 (by decide), fun H' s => ?_⟩
    · obtain ⟨d, _, h2⟩ := t.mem hx
      exact ⟨_, h2.ty⟩
    · rw [tokV_dz t]
      exact k H' s
theorem plain_or {v : V} {d : PyData} {Q : VK} (h : Dz b K H v d) (ht : TopOk d) (k : ∀ H', Same H H' → Q (.bl (tokZ z d && plainZ d)) H') :
    (∃ n, Ty7 K H v n ∧ (n == "tuple") = false ∧ Q (.bl false) H) ∨ ∃ (a : Addr) (xs : List V), v = .ref a ∧ SqT K H a xs ∧ (∀ x ∈ xs, ∃ n, Ty7 K H x n) ∧ (∀ y, V.str y ∈ xs → y.length ≤ 1000) ∧ ∀ H', Same H H' → Q (.bl (tokV z xs && plainV xs)) H' := by
  cases h with
  | non => exact .inl ⟨_, Ty7.non, by decide, k H (Same.refl _)⟩
  | bl q => exact .inl ⟨_, Ty7.bl, by decide, k H (Same.refl _)⟩
  | int i => exact .inl ⟨_, Ty7.int, by decide, k H (Same.refl _)⟩
  | str x => exact .inl ⟨_, Ty7.str, by decide, k H (Same.refl _)⟩
  | lst e n t => exact .inl ⟨_, Ty7.lst e, by decide, k H (Same.refl _)⟩
  | dk e n => exact .inl ⟨_, Ty7.dK e, by decide, k H (Same.refl _)⟩
  | tup e t =>
    refine .inr ⟨_, _, rfl, e, fun x hx => ?_, fun y hy => Nat.le_trans (ht y (t.of_mem hy)).1 (by decide), fun H' s => ?_⟩
    · obtain ⟨d, _, h2⟩ := t.mem hx
      exact ⟨_, h2.ty⟩
    · rw [tokV_dz t, plainV_dz t]
      exact k H' s
end
theorem eqv_strs : ∀ xs ys : List Str, PyData.eqvAll (xs.map PyData.str) (ys.map PyData.str) = decide (xs = ys)
  | [], [] => by simp [PyData.eqvAll]
  | [], y :: ys => by simp [PyData.eqvAll]
  | x :: xs, [] => by simp [PyData.eqvAll]
  | x :: xs, y :: ys => by
    rw [List.map_cons, List.map_cons]
    show PyData.eqvAll (.str x :: xs.map PyData.str) (.str y :: ys.map PyData.str) = _
    have ih := eqv_strs xs ys
    simp only [PyData.eqvAll, PyData.eqv, ih]
    by_cases h1 : x = y
    · subst h1; simp
    · simp [h1]
theorem eqv_txts (xs ys : List (List Nat)) : PyData.eqv (txtsD xs) (txtsD ys) = decide (xs.map stL = ys.map stL) := by
  have e := eqv_strs (xs.map stL) (ys.map stL)
  rw [List.map_map, List.map_map] at e
  show PyData.eqv (.list _) (.list _) = _
  simp only [PyData.eqv]
  exact e
/-- list(y) == sorted(set(y)), just if y ascends -/
theorem list_asc {y : Str} {ys : List Str} (nd : ys.Nodup) (mem : ∀ k, k ∈ ys ↔ k ∈ (cl y).map sg) (srt : sortedS ys = true) :
    ∃ ds : List Nat, ys = ds.map sg ∧ ds.length ≤ y.length ∧ (∀ c ∈ ds, c ∈ cl y) ∧ decide (cl y = ds) = ascB (cl y) := by
  obtain ⟨ds, e, _, h2, h3⟩ := join_asc nd mem srt
  refine ⟨ds, e, h2, fun c hc => ?_, ?_⟩
  · have h := (mem (sg c)).mp (by rw [e]; exact List.mem_map.mpr ⟨c, hc, rfl⟩)
    obtain ⟨c', h1, h2⟩ := List.mem_map.mp h
    rw [← sg_injN h2]; exact h1
  · rw [← h3]
    refine decide_eq_decide.mpr ⟨fun h => ?_, fun h => ?_⟩
    · rw [← h, stL_cl]
    · rw [h, cl_stL]
/-- a text over a signs' set that ascends is no longer than it -/
theorem over_asc {z y : Str} (h1 : overB z y = true) (h2 : ascB (cl y) = true) : y.length ≤ z.length := by
  have hnd : (cl y).Nodup := (asc_pw h2).imp fun {a b} h e => by omega
  have := nodup_sub (cl y) (cl z) hnd fun c hc => of_decide_eq_true (List.all_eq_true.mp h1 c hc)
  rw [cl_len, cl_len] at this
  exact this
end KW
namespace KW
open PySem PySem.Spec PyProof.Rows L2
theorem Pq.sz {n w : Nat} {d : PyData} (h : Pq n w d) : Sz n w d := ⟨h.deep, h.wt, h.told, PyData.leavesShort_of_canLay0 40 _ h.lay h.small⟩
theorem Sz.nodict : Sz 1 0 (.dict []) := ⟨by simp [PyData.depth, PyData.depthKv], by simp [PyData.weight, PyData.weightKv], by simp [PyData.showable, PyData.showableKv], by simp [PyData.leavesShort, PyData.leavesShortKv]⟩
/-- data of odd shapes, small -/
def OddZ (b : Addr) (K : PySem.W.Frag) (H : Hp) (v : V) : Prop := ∃ d, Dz b K H v d ∧ Sz 8 9000 d ∧ (∀ y, d = .str y → y.length ≤ 60 ∧ CodesOk (cl y)) ∧ TopOk d
section
variable {b : Addr} {K : PySem.W.Frag} {H H' : Hp}
theorem OddZ.same {v : V} (h : OddZ b K H v) (s : Same H H') : OddZ b K H' v := by
  obtain ⟨d, h1, h2⟩ := h
  exact ⟨d, h1.same s, h2⟩
theorem OddZ.keep {v : V} (h : OddZ b K H v) (k : KeepB b H H') (hb : LstOrNo H b) : OddZ b K H' v := by
  obtain ⟨d, h1, h2⟩ := h
  exact ⟨d, h1.keep k hb, h2⟩
theorem OddZ.non : OddZ b K H .non := ⟨.none, .non, Pq.non.sz.mono (by decide) (by decide), (fun _ e => nomatch e), trivial⟩
theorem OddZ.bl {k : Bool} : OddZ b K H (.bl k) := ⟨.bool k, .bl k, (Pq.bl k).sz.mono (by decide) (by decide), (fun _ e => nomatch e), trivial⟩
theorem OddZ.int {i : Int} (h : -(10 ^ 31) < i ∧ i < 10 ^ 31) : OddZ b K H (.int i) := ⟨.int i, .int i, (Pq.int h).sz.mono (by decide) (by decide), (fun _ e => nomatch e), trivial⟩
theorem OddZ.str {y : Str} (h : (decide (y.length ≤ 60) && (cl y).all fun c => decide (c < 0x110000)) = true) : OddZ b K H (.str y) := by
  rw [Bool.and_eq_true, decide_eq_true_eq, List.all_eq_true] at h
  have hc : CodesOk (cl y) := fun c hc => of_decide_eq_true (h.2 c hc)
  refine ⟨.str y, .str y, (Sz.str hc h.1).mono (by decide) (by decide), fun z e => ?_, trivial⟩
  injection e with e
  subst e
  exact ⟨h.1, hc⟩
theorem OddZ.lst {a : Addr} {xs : List V} {ds : List PyData} (e : H a = some (.lst xs)) (n : a ≠ b) (t : DzAll b K H xs ds) (z : Sz 8 9000 (.list ds)) : OddZ b K H (.ref a) := ⟨_, .lst e n t, z, (fun _ e => nomatch e), trivial⟩
theorem OddZ.tup {a : Addr} {xs : List V} {ds : List PyData} (e : H a = some (.tup xs)) (t : DzAll b K H xs ds) (z : Sz 8 9000 (.tuple ds)) (hk : TopOk (.tuple ds)) : OddZ b K H (.ref a) := ⟨_, .tup (SqT.of e) t, z, (fun _ e => nomatch e), hk⟩
theorem OddZ.dk {a : Addr} (e : H a = some (.dK [])) (n : a ≠ b) : OddZ b K H (.ref a) := ⟨_, .dk e n, Sz.nodict.mono (by decide) (by decide), (fun _ e => nomatch e), trivial⟩
theorem OddZ.ty {v : V} (h : OddZ b K H v) : ∃ n, Ty7 K H v n := by
  obtain ⟨d, h1, _⟩ := h
  exact ⟨_, h1.ty⟩
end
theorem Sz.one {n w : Nat} {d : PyData} (h : Sz n w d) : Sz (n + 1) (w + 1) (.tuple [d]) := by
  have q := (SzAll.cons h .nil).tuple
  exact q.mono (Nat.le_refl _) (by rw [List.length_singleton]; omega)
theorem Sz.oneL {n w : Nat} {d : PyData} (h : Sz n w d) : Sz (n + 1) (w + 1) (.list [d]) := by
  have q := (SzAll.cons h .nil).list
  exact q.mono (Nat.le_refl _) (by rw [List.length_singleton]; omega)
/-- things that the law asks about -/
def ThingZ (b : Addr) (K : PySem.W.Frag) (H : Hp) (v : V) : Prop := ∃ d, Dz b K H v d ∧ ShowZ d ∧ TopOk d
section
variable {b : Addr} {K : PySem.W.Frag} {H H' : Hp}
theorem ThingZ.same {v : V} (h : ThingZ b K H v) (s : Same H H') : ThingZ b K H' v := by
  obtain ⟨d, h1, h2⟩ := h
  exact ⟨d, h1.same s, h2⟩
theorem ThingZ.keep {v : V} (h : ThingZ b K H v) (k : KeepB b H H') (hb : LstOrNo H b) : ThingZ b K H' v := by
  obtain ⟨d, h1, h2⟩ := h
  exact ⟨d, h1.keep k hb, h2⟩
theorem OddZ.thing {v : V} (h : OddZ b K H v) : ThingZ b K H v := by
  obtain ⟨d, h1, h2, _, h4⟩ := h
  exact ⟨d, h1, (h2.mono (by decide) (by decide)).shows, h4⟩
theorem odd_all : ∀ {xs : List V}, (∀ x ∈ xs, OddZ b K H x) → ∃ ds, DzAll b K H xs ds ∧ SzAll 8 9000 ds ∧ ∀ y, PyData.str y ∈ ds → y.length ≤ 60 ∧ CodesOk (cl y)
  | [], _ => ⟨[], .nil, .nil, fun _ h => nomatch h⟩
  | x :: xs, h => by
    obtain ⟨d, h1, h2, h3, _⟩ := h x List.mem_cons_self
    obtain ⟨ds, t1, t2, t3⟩ := odd_all fun y hy => h y (List.mem_cons_of_mem _ hy)
    refine ⟨d :: ds, .cons h1 t1, .cons h2 t2, fun y hy => ?_⟩
    rcases List.mem_cons.mp hy with e | hy
    · exact h3 y e.symm
    · exact t3 y hy
theorem thing_tup {a : Addr} {xs : List V} (e : SqT K H a xs) (h : ∀ x ∈ xs, OddZ b K H x) (hl : xs.length ≤ 30) : ThingZ b K H (.ref a) := by
  obtain ⟨ds, t1, t2, t3⟩ := odd_all h
  have e2 := t1.len
  exact ⟨_, .tup e t1, (t2.tuple.mono (by decide) (by omega)).shows, t3⟩
theorem thing_lst {a : Addr} {xs : List V} (e : H a = some (.lst xs)) (n : a ≠ b) (h : ∀ x ∈ xs, OddZ b K H x) (hl : xs.length ≤ 30) : ThingZ b K H (.ref a) := by
  obtain ⟨ds, t1, t2, t3⟩ := odd_all h
  have e2 := t1.len
  exact ⟨_, .lst e n t1, (t2.list.mono (by decide) (by omega)).shows, trivial⟩
theorem signs_codes {z : Str} (hz : SignsOk z) : CodesOk (cl z) := fun c hc => by
  unfold SignsOk signsB at hz
  simp only [Bool.and_eq_true, decide_eq_true_eq] at hz
  have h := List.all_eq_true.mp (show (cl z).all letB = true from hz.1.2) c hc
  unfold letB at h
  rw [Bool.and_eq_true, decide_eq_true_eq, decide_eq_true_eq] at h
  omega
theorem OddZ.over {z y : Str} (hz : SignsOk z) (h : ∀ c ∈ cl y, c ∈ cl z) (hl : y.length ≤ 60) : OddZ b K H (.str y) := by
  have hc : CodesOk (cl y) := fun c hc => signs_codes hz c (h c hc)
  refine ⟨.str y, .str y, (Sz.str hc hl).mono (by decide) (by decide), fun x e => ?_, trivial⟩
  injection e with e
  subst e
  exact ⟨hl, hc⟩
theorem tok_odd {z : Str} {t : List V} (hz : SignsOk z) (ht : tokV z t = true) : 1 ≤ t.length ∧ t.length ≤ 3 ∧ ∀ x ∈ t, OddZ b K H x := by
  obtain ⟨kd, rest, rfl, hk⟩ := tok_inv ht
  have hkd : OddZ b K H (.str kd) := by
    rcases hk with ⟨rfl, _⟩ | ⟨y, rfl, _⟩ | ⟨y, rfl, _⟩ | ⟨d, n, rfl | rfl, _⟩ <;> exact .str (by decide +kernel)
  rcases hk with ⟨_, rfl⟩ | ⟨y, _, rfl, h1, _, h3⟩ | ⟨y, _, rfl, h1⟩ | ⟨d, n, _, rfl, h1, h2, h3, h4⟩
  · exact ⟨Nat.le_of_ble_eq_true rfl, Nat.le_of_ble_eq_true rfl, List.forall_mem_cons.mpr ⟨hkd, fun _ h => nomatch h⟩⟩
  · exact ⟨Nat.le_of_ble_eq_true rfl, Nat.le_of_ble_eq_true rfl, List.forall_mem_cons.mpr ⟨hkd, List.forall_mem_cons.mpr ⟨.over hz (fun c hc => of_decide_eq_true (List.all_eq_true.mp h1 c hc)) (by omega), fun _ h => nomatch h⟩⟩⟩
  · unfold choiceB at h1
    simp only [Bool.and_eq_true, decide_eq_true_eq] at h1
    have hzl := hz.len
    exact ⟨Nat.le_of_ble_eq_true rfl, Nat.le_of_ble_eq_true rfl, List.forall_mem_cons.mpr ⟨hkd, List.forall_mem_cons.mpr ⟨.over hz (fun c hc => of_decide_eq_true (List.all_eq_true.mp h1.1.2 c hc)) (by omega), fun _ h => nomatch h⟩⟩⟩
  · exact ⟨Nat.le_of_ble_eq_true rfl, Nat.le_of_ble_eq_true rfl, List.forall_mem_cons.mpr ⟨hkd, List.forall_mem_cons.mpr ⟨.int (by omega), List.forall_mem_cons.mpr ⟨.int (by omega), fun _ h => nomatch h⟩⟩⟩⟩
end
end KW
namespace KW
open PySem PySem.Spec PyProof.Rows L2
theorem tok_thing {b a : Addr} {K : PySem.W.Frag} {H : Hp} {z : Str} {t : List V} (e : SqT K H a t) (hz : SignsOk z) (ht : tokV z t = true) : ∃ d, Dz b K H (.ref a) d ∧ ShowZ d ∧ TopOk d ∧ tokZ z d = true := by
  obtain ⟨_, h3, h⟩ := tok_odd (b := b) (K := K) (H := H) hz ht
  obtain ⟨ds, t1, t2, t3⟩ := odd_all h
  have e2 := t1.len
  exact ⟨_, .tup e t1, (t2.tuple.mono (by decide) (by omega)).shows, t3, by show tokV z (ds.map vD) = true; rw [← tokV_dz t1]; exact ht⟩
end KW

/-! Several except clauses, with names and without. -/
namespace KW
open PySem PySem.Spec PyProof.Rows L2
/-- an except clause: its class, the slot of its name, what its suite does -/
structure Clse where
  c : Value
  i : Option Nat
  ts : Addr → Value → Option Addr → TS
def Clse.ends (k : Clse) (D : Ends) : Ends := match k.i with
  | none => D
  | some i => { nx := fun σ' H' => D.nx (σ'.set i none) H', rt := D.rt, bk := fun σ' H' => D.bk (σ'.set i none) H', ct := fun σ' H' => D.ct (σ'.set i none) H' }
def Clse.slot (k : Clse) (a : Addr) (σ : L2.St) : L2.St := match k.i with
  | none => σ
  | some i => σ.set i (some (.ref a))
/-- what the clauses wish of an exception of the body -/
def wMix (K : PySem.W.Frag) (Wout : WX) (D : Ends) : List Clse → WX
  | [] => Wout
  | k :: r => fun cls d σ H => ∃ b, PySem.W.exmOne K cls k.c = some b ∧ (b = true → ∀ a, H a = none → k.ts a cls d (k.ends D) (k.slot a σ) H) ∧ (b = false → wMix K Wout D r cls d σ H)
inductive HdsM (X : Cx) : List ExceptHandler → List Clse → Prop
  | nil : HdsM X [] []
  | cons {x : Str} {c : Value} {ts : Addr → Value → Option Addr → TS} {b₀ : Stmt} {suite : List Stmt} {np pos' : Pos} {hds : List ExceptHandler} {l : List Clse} (hc : Names X x c)
      (hsu : ∀ (a : Addr) (oe : Obj) (cls : Value) (d : Option Addr) (pn : List (Addr × Obj)), Zc cls d oe → (∃ vs, oe.data = .fields vs) → PSs (X.suite a ((a, oe) :: pn)) (b₀ :: suite) (ts a cls d)) (r : HdsM X hds l) :
      HdsM X (.ExceptHandler (some (.Name x np)) none (b₀ :: suite) pos' :: hds) (⟨c, none, ts⟩ :: l)
  | named {x n : Str} {i : Nat} {c : Value} {ts : Addr → Value → Option Addr → TS} {b₀ : Stmt} {suite : List Stmt} {np pos' : Pos} {hds : List ExceptHandler} {l : List Clse} (hN : X.N.Nodup) (hi : X.N[i]? = some n) (hln : X.env.kindOf n = some .local) (hc : Names X x c)
      (hsu : ∀ (a : Addr) (oe : Obj) (cls : Value) (d : Option Addr) (pn : List (Addr × Obj)), Zc cls d oe → (∃ vs, oe.data = .fields vs) → PSs (X.suite a ((a, oe) :: pn)) (b₀ :: suite) (ts a cls d)) (r : HdsM X hds l) :
      HdsM X (.ExceptHandler (some (.Name x np)) (some n) (b₀ :: suite) pos' :: hds) (⟨c, some i, ts⟩ :: l)
section
variable {X : Cx} {body : List Stmt} {h₀ : ExceptHandler} {hds : List ExceptHandler} {l : List Clse} {pos : Pos} {tb : WX → TS} {Wout : WX}
theorem ps_try_mix (hs : X.stack = X.env :: X.outer) (hf : X.env.frame = some X.env.locals) (tk : Takes X Wout)
    (hb : ∀ (W : WX) (pn : List (Addr × Obj)) (xe : Value → Shared → Prop), Takes (X.tr pn xe) W → PassesOwn (model X.prog X.w) X.A X.env xe → PSs (X.tr pn xe) body (tb W))
    (hh : HdsM X (h₀ :: hds) l) : PS X (.Try body (h₀ :: hds) [] [] pos) (fun D σ H => tb (wMix X.K Wout D l) D σ H) := by
  refine ⟨fun pins s σ H D I h => ?_⟩
  have ok := I.ok
  have hfr : X.A.frames = some (X.env :: X.outer) := by rw [ok.frames, hs]
  refine wpAny_Try_except ?_
  refine wpAny_mono ((hb (wMix X.K Wout D l) (X.pn ++ pins) (fun e s₁ => wpAny (model X.prog X.w) X.A (noteFrame e X.env) (fun _ s₂ => wpAny (model X.prog X.w) X.A (setFlight e none) (fun _ s₃ =>
    wpAny (model X.prog X.w) X.A (handleBy e X.env (h₀ :: hds)) (SP X pins D) X.xe s₃) X.xe s₂) X.xe s₁) (fun u s' xx => ?_) PassesOwn.looking).run [] s σ H D (I.toTry _) h) (fun f s1 hsp => ?_) (fun e s1 he => he)
  · obtain ⟨a, B, sI, pins', σ', H', cls, d, rfl, J', nb, up, sky, na, os, ag, w⟩ := xx
    have J : Inv X pins σ' H' sI := J'.ofTry ok
    have sky' : Sky B (X.env :: X.outer) a (Zc cls d) X.env.locals s'.heap := by rw [← hs]; exact sky
    show wpAny (model X.prog X.w) X.A (noteFrame (.ref a) X.env) _ _ _
    refine Sky.land Zc.steady hfr hf sky' fun h3 fl3 up3 => ?_
    have J3 : Inv X pins σ' H' { s' with heap := h3 } := J.landed nb fl3.1 (up.trans up3) os ag
    obtain ⟨oe3, vs3, he3, hz3, hd3⟩ := fl3.there
    have notFr : ∀ {h : Heap} {o : Obj} {vs : Array Value}, h.FunFrames B (X.env :: X.outer) → h.get? a = some o → o.data = .fields vs → a ∉ frs (X.env :: X.outer) := fun {h o vs} ff e dd hm => by
      obtain ⟨_, o', e', hnf⟩ := ff.mem hm
      rw [e] at e'; cases e'
      exact hnf _ dd
    have nfr := notFr fl3.2.2.1 he3 hd3
    have nL : a ≠ X.env.locals := fun z => nfr (List.mem_filterMap.mpr ⟨X.env, List.mem_cons_self, by rw [hf, z]⟩)
    have nF : a ∉ X.fs := fun hm => by
      obtain ⟨e, he, q⟩ := List.mem_filterMap.mp hm
      exact nfr (List.mem_filterMap.mpr ⟨e, List.mem_cons_of_mem _ he, q⟩)
    have S3 := J3.suite he3 hd3 na nL nF
    have LT : PySem.W.Looks (model X.prog X.w) h3 (typeOf (.ref a)) cls := fun A Q E s k q => wpAny_typeOf_ref (k _ _ he3) (by rw [hz3.1]; exact q)
    have test : ∀ {x : Str} {c : Value} {np : Pos}, Names X x c → ∀ {Q : Value → Shared → Prop} {E : Value → Shared → Prop}, Q c { s' with heap := h3 } → wpAny (model X.prog X.w) (X.A.mark (some (.ref a))) (eval (.Name x np) X.env) Q E { s' with heap := h3 } := by
      intro x c np hc Q E q
      obtain ⟨hg, hdbg, hm | ⟨hm, hv, hnn⟩⟩ := id hc
      · exact ld_glob (X := X.suite a ((a, oe3) :: (X.pn ++ pins))) S3 hg hm q hdbg
      · exact ld_blt (X := X.suite a ((a, oe3) :: (X.pn ++ pins))) S3 hg hm hv q hnn hdbg
    have go : ∀ {hds' : List ExceptHandler} {l' : List Clse}, HdsM X hds' l' → wMix X.K Wout D l' cls d σ' H' →
        wpAny (model X.prog X.w) X.A (handleBy (.ref a) X.env hds') (SP X pins D) X.xe { s' with heap := h3 } := by
      intro hds' l' hk
      induction hk with
      | nil =>
        intro w
        refine wpAny_handleBy_nil ?_
        obtain ⟨k1, k2, k3, oe, vs, T, oT, ts', he, hz, hd, h1, hr⟩ := id fl3
        unfold PySem.passOn
        refine wpAny_bind (wpAny_field he hd h1 ?_)
        rw [if_neg (show ¬ ((Value.ref T == Value.none) = true) from by simp)]
        have fin : wpAny (model X.prog X.w) X.A (setFlight (.ref a) X.env.frame) (fun _ s4 => wpAny (model X.prog X.w) X.A (throw (.ref a) : Sem Flow) (SP X pins D) X.xe s4) X.xe { s' with heap := h3 } := by
          rw [hf]
          refine HandSPX.setFlight_upZ fl3 fun h4 hh4 up4 => wpAny_throw (tk _ _ ?_)
          exact ⟨a, B, sI, pins, σ', H', cls, d, rfl, J, nb, (up.trans up3).trans up4, .inr (.inr (by rw [hs]; exact hh4)), na, os, ag, w⟩
        first
          | exact wpAny_bind (wpAny_pure (wpAny_bind fin))
          | exact wpAny_bind fin
      | @cons x c ts b₀ suite np pos' hds2 l2 hc hsu r ih =>
        intro w
        obtain ⟨b, hb1, hyes, hno⟩ := w
        refine wpAny_handleBy_cons (codeAny_handlers_test ?_) (by intro q; cases q)
        have LM := PySem.W.exm_one (M := model X.prog X.w) (J3.kIn) LT hb1
        refine test hc (LM.here ?_)
        cases b with
        | true =>
          refine codeAny_handlers_suite ?_
          refine HandSPX.lands_againZ fl3 fun h4 fl4 up4 => ?_
          have J4 : Inv X pins σ' H' { s' with heap := h4 } := J.landed nb fl4.1 ((up.trans up3).trans up4) os ag
          obtain ⟨oe4, vs4, he4, hz4, hd4⟩ := fl4.there
          have S4 := J4.suite he4 hd4 na nL nF
          refine wpAny_mono ((hsu a oe4 cls d (X.pn ++ pins) hz4 ⟨_, hd4⟩).run [] _ _ H' _ S4 (hyes rfl a na)) (fun f s6 hsp => ?_) (fun _ _ z => False.elim z)
          cases f with
          | next =>
            obtain ⟨σ6, H6, S6, q6⟩ := hsp
            exact ⟨_, _, S6.unsuite ok, q6⟩
          | brk =>
            obtain ⟨σ6, H6, S6, q6⟩ := hsp
            exact ⟨_, _, S6.unsuite ok, q6⟩
          | cont =>
            obtain ⟨σ6, H6, S6, q6⟩ := hsp
            exact ⟨_, _, S6.unsuite ok, q6⟩
          | ret u =>
            obtain ⟨v6, σ6, H6, S6, r6, q6⟩ := hsp
            exact ⟨_, _, _, S6.unsuite ok, r6, q6⟩
        | false =>
          show wpAny _ X.A (handleBy (.ref a) X.env hds2) _ _ _
          exact ih (hno rfl)
      | @named x n i c ts b₀ suite np pos' hds2 l2 hN hi hln hc hsu r ih =>
        intro w
        obtain ⟨b, hb1, hyes, hno⟩ := w
        have hloc : Loc X.env.scope n := .inl hln
        refine wpAny_handleBy_cons (codeAny_handlers_test ?_) (by intro q; cases q)
        have LM := PySem.W.exm_one (M := model X.prog X.w) (J3.kIn) LT hb1
        refine test hc (LM.here ?_)
        cases b with
        | true =>
          refine codeAny_handlers_suite_as ?_
          refine HandSPX.lands_againZ fl3 fun h4 fl4 up4 => ?_
          have J4 : Inv X pins σ' H' { s' with heap := h4 } := J.landed nb fl4.1 ((up.trans up3).trans up4) os ag
          obtain ⟨oe4, vs4, he4, hz4, hd4⟩ := fl4.there
          have S4 := J4.suite he4 hd4 na nL nF
          refine store_ok (X := X.suite a ((a, oe4) :: (X.pn ++ pins))) (v := .ref a) S4 hN hi hloc rfl (fun s5 S5 => ?_) (.inr hln)
          refine wpAny_mono ((hsu a oe4 cls d (X.pn ++ pins) hz4 ⟨_, hd4⟩).run [] s5 _ H' _ S5 (hyes rfl a na)) (fun f s6 hsp => ?_) (fun _ _ z => False.elim z)
          have end_ : ∀ {σ6 : L2.St} {H6 : Hp} {Q : Shared → Prop}, Inv (X.suite a ((a, oe4) :: (X.pn ++ pins))) [] σ6 H6 s6 → (∀ s7, Inv X pins (σ6.set i none) H6 s7 → Q s7) →
              wpAny (model X.prog X.w) X.A (do bindName X.env n .none; unbindBehindTheSuite X.env n pos') (fun _ s7 => Q s7) X.xe s6 := fun {σ6 H6 Q} S6 hq => gone_ok (S6.unsuite ok) hN hi hln hq
          cases f with
          | next =>
            obtain ⟨σ6, H6, S6, q6⟩ := hsp
            exact end_ S6 fun s7 J7 => ⟨_, _, J7, q6⟩
          | brk =>
            obtain ⟨σ6, H6, S6, q6⟩ := hsp
            exact end_ S6 fun s7 J7 => ⟨_, _, J7, q6⟩
          | cont =>
            obtain ⟨σ6, H6, S6, q6⟩ := hsp
            exact end_ S6 fun s7 J7 => ⟨_, _, J7, q6⟩
          | ret u =>
            obtain ⟨v6, σ6, H6, S6, r6, q6⟩ := hsp
            exact end_ S6 fun s7 J7 => ⟨_, _, _, J7, r6, q6⟩
        | false =>
          show wpAny _ X.A (handleBy (.ref a) X.env hds2) _ _ _
          exact ih (hno rfl)
    exact go hh w
  · cases f with
    | next =>
      obtain ⟨σ', H', J', q⟩ := hsp
      exact wpAny_execs_nil ⟨σ', H', J'.ofTry ok, q⟩
    | brk =>
      obtain ⟨σ', H', J', q⟩ := hsp
      exact ⟨σ', H', J'.ofTry ok, q⟩
    | cont =>
      obtain ⟨σ', H', J', q⟩ := hsp
      exact ⟨σ', H', J'.ofTry ok, q⟩
    | ret u =>
      obtain ⟨v, σ', H', J', r, q⟩ := hsp
      exact ⟨v, σ', H', J'.ofTry ok, r, q⟩
end
end KW

/-! Odd data against ('flush',), in ((), ('flush',)); a list against one of the same things; upper. -/
namespace KW
open PySem PySem.Spec PyProof.Rows L2
open PySem.SeqAt (EqAt RcAt)
section
variable {A : Around} {s : Shared}
theorem dict_declines_tuple (l b : Addr) (es : Array DictEntry) (n : Nat) (dd : Option Addr) (sl : Array (Option Value)) (its : Array Value) (n2 : Nat) (dd2 : Option Addr) (sl2 : Array (Option Value)) :
    Meets (Builtin.«dict.__eq__» ⟨[.ref l, .ref b], []⟩) (fun _ R s => s.heap.get? l = some { cls := .type "dict", dict := dd, data := .dict es n, slots := sl } ∧ s.heap.get? b = some { cls := .type "tuple", dict := dd2, data := .seq its n2, slots := sl2 } ∧ R (.ok (.ret .notImplemented)) s) :=
  .of_wp fun prog w A R s h => by
    obtain ⟨hp, g, d, tk, os⟩ := s
    obtain ⟨hl, hb, h⟩ := h
    have f1 := PySem.F.sub_tuple_dict
    wp_walk using wpAny_loadPart' hl, wpAny_load hb
    exact ⟨_, rfl, h⟩
theorem tuple_declines_dict (l b : Addr) (es : Array DictEntry) (n : Nat) (dd : Option Addr) (sl : Array (Option Value)) (its : Array Value) (n2 : Nat) (dd2 : Option Addr) (sl2 : Array (Option Value)) :
    Meets (Builtin.«tuple.__eq__» ⟨[.ref b, .ref l], []⟩) (fun _ R s => s.heap.get? l = some { cls := .type "dict", dict := dd, data := .dict es n, slots := sl } ∧ s.heap.get? b = some { cls := .type "tuple", dict := dd2, data := .seq its n2, slots := sl2 } ∧ R (.ok (.ret .notImplemented)) s) :=
  .of_wp fun prog w A R s h => by
    obtain ⟨hp, g, d, tk, os⟩ := s
    obtain ⟨hl, hb, h⟩ := h
    have f1 := PySem.F.sub_dict_tuple
    wp_walk using wpAny_loadPart' hb, wpAny_load hl
    exact ⟨_, rfl, h⟩
theorem rc_dict_tuple {l b : Addr} {es : Array DictEntry} {its : Array Value} (hl : IsDct s.heap l es) (hb : s.heap.IsTuple b its) (hu : A.units < cLine) : RcAt A s (.ref l) (.ref b) false := fun prog w E Q h => by
  obtain ⟨⟨cls, dd, data, sl⟩, ho, hc, n, hd⟩ := hl
  obtain ⟨⟨cls2, dd2, data2, sl2⟩, ho2, hc2, n2, hd2⟩ := id hb
  simp only at hc hd hc2 hd2; subst hc hd hc2 hd2
  have hne : l ≠ b := fun e => by
    subst e
    have z := congrArg Obj.cls (Option.some.inj (ho.symm.trans ho2))
    have z : Value.type "dict" = Value.type "tuple" := z
    exact absurd z (by decide)
  exact SeqAt.rc_eq_decline_or (k := false) ⟨_, ho, rfl⟩ ⟨_, ho2, rfl⟩ (by decide) PySem.F.sub_tuple_dict PySem.F.slot_dict_eq PySem.F.slot_tuple_eq_refl
    (fun _ hq => call_meets PySem.F.slot_dict_eq ⟨_, ho, rfl⟩ PySem.F.entry_dict_eq (PySem.F.args_dict_eq_2 _ _) (dict_declines_tuple l b es n dd sl its n2 dd2 sl2) ⟨ho, ho2, hq⟩)
    (fun _ hq => call_meets PySem.F.slot_tuple_eq_refl ⟨_, ho2, rfl⟩ PySem.F.entry_tuple_eq (PySem.F.args_tuple_eq_2 _ _) (tuple_declines_dict l b es n dd sl its n2 dd2 sl2) ⟨ho, ho2, hq⟩)
    (fun _ hq => wpAny_isSame_ref_other hne ho ho2 (by simp) hq) (.inr hu) h
end
/-- data that is (text,) -/
def isFlD : PyData → Str → Bool
  | .tuple ds, k => oneStrD ds k
  | _, _ => false
section
variable {X : Cx} {pins : List (Addr × Obj)} {σ : L2.St} {H : Hp} {s : Shared} {b : Addr} {A : Around}
theorem Dz.eqOne (I : Inv X pins σ H s) (hu : A.units + 4 < cLine) {d : PyData} {v : V} {u : Value} (h : Dz b X.K H v d) (r : RelV v u) {p : Addr} {k : Str} (hp : SqT X.K H p [.str k]) : RcAt A s u (.ref p) (isFlD d k) := by
  obtain ⟨its2, rv2, ⟨o2, ho2, hc2, nn2, hd2⟩, _⟩ := I.tuple hp
  have hp2 : s.heap.IsTuple p its2.toArray := ⟨_, ho2, hc2, _, hd2⟩
  cases h with
  | non => cases r; exact SeqAt.RcAt.none_tuple hp2 (by omega)
  | bl q => cases r; exact SeqAt.RcAt.bool_tuple q hp2 (by omega)
  | int i => obtain ⟨w, rfl⟩ := r; exact SeqAt.RcAt.int_tuple i w hp2 (by omega)
  | str x => obtain ⟨w, rfl⟩ := r; exact SeqAt.RcAt.str_tuple x w hp2 (by omega)
  | lst e n x =>
    cases r
    obtain ⟨its, rv, ⟨o, nn, ho, hc, _, hd⟩, _⟩ := I.list (SqL.of (K := X.K) e)
    exact SeqAt.RcAt.list_tuple ⟨_, ho, hc, _, hd⟩ hp2 (by omega)
  | dk e n =>
    cases r
    obtain ⟨o, nn, ho, hc, hd, _⟩ := dz_dict I e
    exact rc_dict_tuple ⟨o, ho, hc, nn, hd⟩ hp2 (by omega)
  | @tup a xs ds ha dz =>
    cases r
    obtain ⟨its, rv, ⟨o, ho, hc, nn, hd⟩, _⟩ := I.tuple ha
    cases rv2 with
    | cons r2 t2 =>
      cases t2
      obtain ⟨t, rfl⟩ := r2
      have hl1 : s.heap.IsTuple a its.toArray := ⟨_, ho, hc, _, hd⟩
      have hlen : its.length = ds.length := rv.length.symm.trans dz.len
      have q := SeqAt.RcAt.tuples (A := A) (e := fun _ => isStrD (ds.headD .none) k) hl1 hp2 (by omega) (fun j j1 j2 => by
        have hj : j = 0 := by simp at j2; exact j2
        subst hj
        cases dz with
        | nil => cases rv; exact absurd j1 (Nat.not_lt_zero _)
        | cons x1 x2 =>
          cases rv with
          | cons r1 r3 => exact (x1.eqStr (A := A.in1) I (by show A.units + 1 < cLine; omega) r1 k t).1)
      have e1 : its.toArray.size = ds.length := by rw [List.size_toArray, hlen]
      rw [e1] at q
      match ds, q with
      | [], q => exact q
      | [d], q => simpa [isFlD, oneStrD] using q
      | d :: e :: r, q => simpa [isFlD, oneStrD] using q
end
section
variable {X : Cx}
/-- x == ('flush',), x odd -/
def rEqO (K : PySem.W.Frag) : R2 := fun x y H Q => ∃ (b : Addr) (d : PyData) (p : Addr) (k : Str), Dz b K H x d ∧ y = .ref p ∧ SqT K H p [.str k] ∧ Q (.bl (isFlD d k)) H
theorem op_eqO (hu : X.A.units + 64 < cLine) : OpR X (compareOp .Eq) (rEqO X.K) := by
  intro pins s σ H x y v u Q I rx ry h
  obtain ⟨b, d, p, k, dz, rfl, hp, h⟩ := h
  cases ry
  exact dz.eqOne (A := X.A) I (by omega) rx hp _ _ _ _ ⟨.bl _, H, I, rfl, h⟩
/-- x in ((), (text,)), x a tuple that is another than these -/
def rInO (K : PySem.W.Frag) : R2 := fun x y H Q => ∃ (b a : Addr) (xs : List V) (ds : List PyData) (q p1 p2 : Addr) (k : Str), x = .ref a ∧ SqT K H a xs ∧ DzAll b K H xs ds ∧ y = .ref q ∧ SqT K H q [.ref p1, .ref p2] ∧ SqT K H p1 [] ∧ SqT K H p2 [.str k] ∧
  Q (.bl (decide (ds = []) || oneStrD ds k)) H
theorem oneStr_eq (ds : List PyData) (k : Str) : ((List.range (min 1 ds.length)).all (fun _ => isStrD (ds.headD .none) k) && 1 == ds.length) = oneStrD ds k := by
  match ds with
  | [] => rfl
  | [d] => simp [oneStrD]
  | d :: e :: r => simp [oneStrD]
theorem op_inO (hu : X.A.units + 64 < cLine) : OpR X (compareOp .In) (rInO X.K) := by
  intro pins s σ H x y v u Q I rx ry h
  obtain ⟨b, a, xs, ds, q, p1, p2, k, rfl, ha, dz, rfl, hq, hp1, hp2, h⟩ := h
  cases rx
  cases ry
  obtain ⟨its, rv, ⟨o, ho, hc, nn, hd⟩, _⟩ := I.tuple ha
  obtain ⟨itq, rvq, ⟨oq, hoq, hcq, nnq, hdq⟩, _⟩ := I.tuple hq
  obtain ⟨it1, rv1, ⟨o1, ho1, hc1, nn1, hd1⟩, _⟩ := I.tuple hp1
  obtain ⟨it2, rv2, ⟨o2, ho2, hc2, nn2, hd2⟩, _⟩ := I.tuple hp2
  have hl : s.heap.IsTuple a its.toArray := ⟨_, ho, hc, _, hd⟩
  have h1 : s.heap.IsTuple p1 it1.toArray := ⟨_, ho1, hc1, _, hd1⟩
  have h2 : s.heap.IsTuple p2 it2.toArray := ⟨_, ho2, hc2, _, hd2⟩
  have hlen : its.length = ds.length := rv.length.symm.trans dz.len
  cases rv1
  cases rv2 with
  | cons r2 t2 =>
    cases t2
    obtain ⟨t, rfl⟩ := r2
    cases rvq with
    | cons ra ta => cases ta with
      | cons rb tb =>
        cases tb
        cases ra
        cases rb
        have q1 : EqAt X.A.in1 s (.ref p1) (.ref a) (decide (ds = [])) := by
          by_cases n1 : p1 = a
          · subst n1
            have e := hd1.symm.trans ((congrArg Obj.data (Option.some.inj (ho1.symm.trans ho))).trans hd)
            injection e with e
            have e := congrArg Array.size e
            have e2 : its.length = 0 := by simpa using e.symm
            have e3 : ds = [] := List.eq_nil_of_length_eq_zero (by omega)
            rw [decide_eq_true e3]
            exact SeqAt.EqAt.same _
          refine SeqAt.EqAt.of_refs n1 ?_
          have z := SeqAt.RcAt.tuples (A := X.A.in1) (e := fun _ => true) h1 hl (by show X.A.units + 1 < cLine; omega) (fun j j1 j2 => absurd j1 (Nat.not_lt_zero _))
          have e : ((List.range (min ([] : List Value).toArray.size its.toArray.size)).all (fun _ => true) && ([] : List Value).toArray.size == its.toArray.size) = decide (ds = []) := by
            rw [show its.toArray.size = its.length from List.size_toArray, hlen]
            cases ds with
            | nil => rfl
            | cons d r => simp
          rw [e] at z
          exact z
        have q2 : EqAt X.A.in1 s (.ref p2) (.ref a) (oneStrD ds k) := by
          by_cases n2 : p2 = a
          · subst n2
            have e := hd2.symm.trans ((congrArg Obj.data (Option.some.inj (ho2.symm.trans ho))).trans hd)
            injection e with e
            have e : its = [Value.str k t] := by
              have := congrArg Array.toList e
              simpa using this.symm
            subst e
            cases rv with
            | @cons x _ xr _ r1 r3 =>
              cases r3
              cases dz with
              | cons x1 x2 =>
                cases x2
                cases x1 with
                | str y =>
                  obtain ⟨w, e⟩ := r1
                  injection e with e
                  subst e
                  rw [show oneStrD [PyData.str k] k = true from beq_self_eq_true k]
                  exact SeqAt.EqAt.same _
                | int i => obtain ⟨w, e⟩ := r1; cases e
                | _ => cases r1
          refine SeqAt.EqAt.of_refs n2 ?_
          have z := SeqAt.RcAt.tuples (A := X.A.in1) (e := fun _ => isStrD (ds.headD .none) k) h2 hl (by show X.A.units + 1 < cLine; omega) (fun j j1 j2 => by
            have hj : j = 0 := by simp at j1; exact j1
            subst hj
            cases dz with
            | nil => cases rv; exact absurd j2 (Nat.not_lt_zero _)
            | cons x1 x2 =>
              cases rv with
              | cons r1 r3 => exact (x1.eqStr (A := X.A.in1.in1) I (by show X.A.units + 1 + 1 < cLine; omega) r1 k t).2.1)
          have e : ((List.range (min ([Value.str k t] : List Value).toArray.size its.toArray.size)).all (fun _ => isStrD (ds.headD .none) k) && ([Value.str k t] : List Value).toArray.size == its.toArray.size) = oneStrD ds k := by
            rw [show its.toArray.size = its.length from List.size_toArray, hlen]
            exact oneStr_eq ds k
          rw [e] at z
          exact z
        have n12 : p1 ≠ p2 := fun e => by
          subst e
          have z := hd1.symm.trans ((congrArg Obj.data (Option.some.inj (ho1.symm.trans ho2))).trans hd2)
          injection z with z
          have z := congrArg Array.size z
          simp at z
        refine SeqAt.in_tupleAt (fun y => if y = .ref p1 then decide (ds = []) else oneStrD ds k) ⟨_, hoq, hcq, _, hdq⟩ (fun y hy => ?_) ?_
        · have hy : y = .ref p1 ∨ y = .ref p2 := by simpa using hy
          rcases hy with rfl | rfl
          · rw [if_pos rfl]; exact q1
          · rw [if_neg fun e => n12 (Value.ref.inj e).symm]; exact q2
        · have e : ([Value.ref p1, Value.ref p2] : List Value).toArray.any (fun y => if y = .ref p1 then decide (ds = []) else oneStrD ds k) = (decide (ds = []) || oneStrD ds k) := by
            rw [List.any_toArray]
            show ((if Value.ref p1 = Value.ref p1 then _ else _) || ((if Value.ref p2 = Value.ref p1 then _ else _) || false)) = _
            rw [if_pos rfl, if_neg fun e => n12 (Value.ref.inj e).symm, Bool.or_false]
          rw [e]
          exact ⟨.bl _, H, I, rfl, h⟩
end
end KW
namespace KW
open PySem PySem.Spec PyProof.Rows L2
open PySem.SeqAt (EqAt RcAt)
section
variable {X : Cx}
theorem op_orR {f : Value → Value → Sem Value} {R1 R2 : R2} (h1 : OpR X f R1) (h2 : OpR X f R2) : OpR X f (fun x y H Q => R1 x y H Q ∨ R2 x y H Q) := by
  intro pins s σ H x y v u Q I rx ry h
  rcases h with h | h
  · exact h1 pins s σ H x y v u Q I rx ry h
  · exact h2 pins s σ H x y v u Q I rx ry h
theorem relV_same {b : Addr} {K : PySem.W.Frag} {H : Hp} {d : PyData} {v : V} {u1 u2 : Value} {A : Around} {s : Shared} (h : Dz b K H v d) (r1 : RelV v u1) (r2 : RelV v u2) : EqAt A s u1 u2 true := by
  cases h with
  | str x =>
    obtain ⟨t1, rfl⟩ := r1
    obtain ⟨t2, rfl⟩ := r2
    have q := SeqAt.EqAt.str_str (A := A) (s := s) x t1 x t2
    rwa [beq_self_eq_true] at q
  | int i =>
    obtain ⟨t1, rfl⟩ := r1
    obtain ⟨t2, rfl⟩ := r2
    have q := SeqAt.EqAt.int_int (A := A) (s := s) i t1 i t2
    rwa [beq_self_eq_true] at q
  | _ =>
    cases r1
    cases r2
    exact SeqAt.EqAt.same _
/-- two lists of the same things -/
def rEqSame (K : PySem.W.Frag) : R2 := fun x y H Q => ∃ (a b : Addr) (xs : List V), x = .ref a ∧ y = .ref b ∧ SqL K H a xs ∧ SqL K H b xs ∧ (∀ x ∈ xs, ∃ c d, Dz c K H x d) ∧ Q (.bl true) H
theorem op_eqSame (hu : X.A.units + 64 < cLine) : OpR X (compareOp .Eq) (rEqSame X.K) := by
  intro pins s σ H x y v u Q I rx ry h
  obtain ⟨a, b, xs, rfl, rfl, ha, hb, hz, h⟩ := h
  cases rx
  cases ry
  obtain ⟨its, rv, ⟨o, nn, ho, hc, _, hd⟩, _⟩ := I.list ha
  obtain ⟨its2, rv2, ⟨o2, nn2, ho2, hc2, _, hd2⟩, _⟩ := I.list hb
  have hlen : its.toArray.size = its2.toArray.size := by
    rw [show its.toArray.size = its.length from List.size_toArray, show its2.toArray.size = its2.length from List.size_toArray, ← rv.length, ← rv2.length]
  have z := SeqAt.RcAt.lists (A := X.A) (e := fun _ => true) (s := s) ⟨_, ho, hc, _, hd⟩ ⟨_, ho2, hc2, _, hd2⟩ hlen (by omega) (fun j j1 j2 => by
    have hj1 : j < its.length := j1
    have hj2 : j < its2.length := j2
    have hj : j < xs.length := by rw [rv.length]; exact hj1
    have ex : xs[j]? = some xs[j] := List.getElem?_eq_getElem hj
    obtain ⟨c, d, dz⟩ := hz xs[j] (List.getElem_mem hj)
    obtain ⟨u1, e1, q1⟩ := rv.get ex
    obtain ⟨u2, e2, q2⟩ := rv2.get ex
    have f1 : its.toArray[j] = u1 := by
      have := List.getElem?_eq_getElem hj1
      rw [e1] at this
      simpa using (Option.some.inj this).symm
    have f2 : its2.toArray[j] = u2 := by
      have := List.getElem?_eq_getElem hj2
      rw [e2] at this
      simpa using (Option.some.inj this).symm
    rw [f1, f2]
    exact relV_same dz q1 q2)
  rw [show (List.range its.toArray.size).all (fun _ => true) = true from List.all_eq_true.mpr fun _ _ => rfl] at z
  exact z _ _ _ _ ⟨.bl _, H, I, rfl, h⟩
end
section
variable {X : Cx} {o : Expr} {te : TE} {p1 p2 : Pos}
def tUpper (te : TE) : TE := fun σ H Q => te σ H fun x H1 => ∃ z, x = .str z ∧ z.length ≤ 5592405 ∧ Q (.str (Txt.upper z)) H1
theorem pe_upper (he : PE X o te) (hb : attributeBase o "upper" X.env (eval o X.env) = eval o X.env := by rfl) (hl : (p1.endLine == p2.line) = true := by rfl) : PE X (.Call (.Attribute o "upper" p1) [] [] p2) (tUpper te) :=
  ⟨fun pins s σ H Q I h => J1.ev_upper hb hl (thn (he.run pins s σ H _ I h) fun v s1 ⟨x, H1, I1, r1, z, e, hz, q⟩ => by
    subst e
    obtain ⟨t, rfl⟩ := r1
    exact ⟨z, t, rfl, hz, fun t' k => ⟨.str (Txt.upper z), H1, I1.tok _, ⟨_, rfl⟩, q⟩⟩)⟩
end
theorem upper_st {z : Str} (h : ∀ c ∈ cl z, c < 128) : cl (Txt.upper z) = (cl z).map PyProof.Rows.up1 := by
  have e : z = SX.S (cl z) := (stL_cl z).symm
  rw [e, SX.upper_S (List.all_eq_true.mpr fun c hc => decide_eq_true (h c (by rw [e] at hc; exact hc)))]
end KW
namespace KW
open PySem PySem.Spec PyProof.Rows L2
/-! What a reader answers, odd tokens among them. -/
def tD : PyData → List V
  | .tuple ds => ds.map vD
  | _ => []
def distV (wd : Nat) : List V → Bool
  | [.str _, .int d, _] => decide (d ≤ (wd : Int))
  | _ => true
/-- a plain token over the signs within the width -/
def goodZ (z : Str) (wd : Nat) (d : PyData) : Bool := tokZ z d && plainZ d && distV wd (tD d)
inductive Out where
  | none
  | short (d : Int) (k : Nat)
  | told (x : List Nat)
def outT (wd : Nat) (line : List Nat) (kl : Nat) (t : List V) : Out := match badT kl t with
  | some b => .short b.1 b.2
  | Option.none => .told (textT line t)
def outZ (z : Str) (wd : Nat) (line : List Nat) (kl : Nat) (d : PyData) : Out := if goodZ z wd d = true then outT wd line kl (tD d) else .none
def Out.vs : Out → List V
  | .none => [.str "none"]
  | .short d k => [.str "short", .int d, .int k]
  | .told x => [.str "told", .str (stL x)]
def Out.line (o : Out) (line : List Nat) : List Nat := match o with
  | .told x => line ++ x
  | _ => line
def Out.kept (o : Out) (wd kl : Nat) (d : PyData) : Nat := match o with
  | .told _ => klT wd kl (tD d)
  | _ => kl
section
variable {b : Addr} {K : PySem.W.Frag} {H : Hp} {z : Str} {wd : Nat}
/-- good data stands as a token within the width -/
theorem good_tok {v : V} {d : PyData} (h : Dz b K H v d) (hg : goodZ z wd d = true) : ∃ a, v = .ref a ∧ SqT K H a (tD d) ∧ TokW z wd (tD d) := by
  unfold goodZ at hg
  rw [Bool.and_eq_true, Bool.and_eq_true] at hg
  obtain ⟨⟨h1, h2⟩, h3⟩ := hg
  cases h with
  | @tup a xs ds ha t =>
    have hv : tokV z xs = true := by rw [tokV_dz t]; exact h1
    have e : xs = ds.map vD := by
      have hall : ∀ (xs : List V) (ds : List PyData), DzAll b K H xs ds → (∀ x ∈ xs, strV x = true ∨ intV x = true) → xs = ds.map vD := by
        intro xs
        induction xs with
        | nil => intro ds t _; cases t; rfl
        | cons x r ih =>
          intro ds t hx
          cases t with
          | @cons _ _ d es t1 t2 =>
            rw [List.map_cons, ← ih es t2 fun y hy => hx y (List.mem_cons_of_mem _ hy)]
            have e : x = vD d := by
              rcases t1.vd with e | ⟨e1, e2, _⟩
              · exact e
              · rcases hx x List.mem_cons_self with h | h
                · rw [e1] at h; cases h
                · cases x <;> first | (cases h; done) | skip
                  rename_i i
                  have := e2 i i
                  simp [withinV] at this
            rw [← e]
      refine hall xs ds t fun x hx => ?_
      obtain ⟨kd, rest, rfl, hk⟩ := tok_inv hv
      rcases List.mem_cons.mp hx with rfl | hx
      · exact .inl rfl
      · rcases hk with ⟨_, rfl⟩ | ⟨y, _, rfl, _⟩ | ⟨y, _, rfl, _⟩ | ⟨d, n, _, rfl, _⟩
        · cases hx
        · rw [List.mem_singleton.mp hx]; exact .inl rfl
        · rw [List.mem_singleton.mp hx]; exact .inl rfl
        · rcases List.mem_cons.mp hx with rfl | hx
          · exact .inr rfl
          · rw [List.mem_singleton.mp hx]; exact .inr rfl
    refine ⟨a, rfl, ?_, ?_, ?_, fun d n e' => ?_⟩
    · rw [e] at ha; exact ha
    · exact h1
    · exact h2
    · rw [e'] at h3
      exact of_decide_eq_true h3
  | _ => cases h1
end
end KW
namespace KW
open PySem PySem.Spec PyProof.Rows L2
section
variable {b : Addr} {K : PySem.W.Frag} {H : Hp} {z : Str} {wd : Nat}
theorem distV_dz {xs : List V} {ds : List PyData} (h : DzAll b K H xs ds) : distV wd xs = distV wd (ds.map vD) := by
  cases h with
  | nil => rfl
  | @cons x r d es h1 h2 =>
    cases h2 with
    | nil => cases h1 <;> rfl
    | @cons y r e es h3 h4 =>
      cases h4 with
      | nil => cases h1 <;> cases h3 <;> rfl
      | @cons u r f es h5 h6 =>
        cases h6 with
        | nil => cases h1 <;> cases h3 <;> rfl
        | cons _ _ => cases h1 <;> cases h3 <;> rfl
def goodV (z : Str) (wd : Nat) (xs : List V) : Bool := tokV z xs && plainV xs && distV wd xs
theorem goodV_dz {xs : List V} {ds : List PyData} (h : DzAll b K H xs ds) : goodZ z wd (.tuple ds) = goodV z wd xs := by
  show (tokV z (ds.map vD) && plainV (ds.map vD) && distV wd (ds.map vD)) = _
  rw [← tokV_dz h, ← plainV_dz h, ← distV_dz h]
  rfl
theorem plain_other {k : Str} {r : List V} (h1 : k ≠ "text") (h2 : k ≠ "copy") (h3 : k ≠ "flush") : plainV (.str k :: r) = false :=
  decide_eq_false fun e => by
    rcases e with e | e | e
    · exact h1 e
    · exact h2 e
    · exact h3 e
theorem goodV_other {k : Str} {r : List V} (h1 : k ≠ "text") (h2 : k ≠ "copy") (h3 : k ≠ "flush") : goodV z wd (.str k :: r) = false := by
  unfold goodV
  rw [plain_other h1 h2 h3, Bool.and_false, Bool.false_and]
theorem goodV_flush : goodV z wd [.str "flush"] = true := by
  unfold goodV
  rw [tokV_flush]
  rfl
theorem goodV_text {y : Str} : goodV z wd [.str "text", .str y] = (overB z y && decide (1 ≤ y.length) && decide (y.length ≤ 40)) := by
  unfold goodV
  rw [tokV_textS, show plainV [.str "text", .str y] = true from by show decide (("text" : Str) = "text" ∨ ("text" : Str) = "copy" ∨ ("text" : Str) = "flush") = true; decide +kernel]
  simp [distV]
theorem goodV_copy {x y : V} (hw : wd ≤ 12) : goodV z wd [.str "copy", x, y] = (withinV 1 wd x && withinV 1 40 y) := by
  unfold goodV
  rw [tokV_copyS (.inl rfl), show plainV [.str "copy", x, y] = true from by show decide (("copy" : Str) = "text" ∨ ("copy" : Str) = "copy" ∨ ("copy" : Str) = "flush") = true; decide +kernel, Bool.and_true]
  cases x <;> first | rfl | skip
  rename_i i
  show (((decide (1 ≤ i) && decide (i ≤ 12)) && withinV 1 40 y) && decide (i ≤ (wd : Int))) = ((decide (1 ≤ i) && decide (i ≤ (wd : Int))) && withinV 1 40 y)
  by_cases h : i ≤ (wd : Int)
  · rw [decide_eq_true h, decide_eq_true (show i ≤ 12 by omega), Bool.and_true, Bool.and_true]
  · rw [decide_eq_false h, Bool.and_false, Bool.and_false, Bool.false_and]
theorem goodV_nil : goodV z wd [] = false := rfl
theorem goodV_tok {xs : List V} (h : tokV z xs = false) : goodV z wd xs = false := by
  unfold goodV
  rw [h]; rfl
end
end KW
namespace KW
open PySem PySem.Spec PyProof.Rows L2
theorem good_12 {z : Str} {d : PyData} (h1 : tokZ z d = true) (h2 : plainZ d = true) : goodZ z 12 d = true := by
  unfold goodZ
  rw [h1, h2, Bool.true_and, Bool.true_and]
  cases d with
  | tuple ds =>
    have h1 : tokV z (ds.map vD) = true := h1
    show distV 12 (ds.map vD) = true
    obtain ⟨kd, rest, e, hk⟩ := tok_inv h1
    rw [e]
    rcases hk with ⟨_, rfl⟩ | ⟨y, _, rfl, _⟩ | ⟨y, _, rfl, _⟩ | ⟨d, n, _, rfl, d1, d2, _⟩
    · rfl
    · rfl
    · rfl
    · exact decide_eq_true d2
  | _ => cases h1
theorem outZ_no {z : Str} {wd : Nat} {line : List Nat} {kl : Nat} {d : PyData} (h : (tokZ z d && plainZ d) = false) : outZ z wd line kl d = .none := by
  unfold outZ goodZ
  rw [h]
  rfl
theorem outZ_yes {z : Str} {wd : Nat} {line : List Nat} {kl : Nat} {d : PyData} (h : (tokZ z d && plainZ d) = true) : outZ z wd line kl d = if distV wd (tD d) = true then outT wd line kl (tD d) else .none := by
  unfold outZ goodZ
  rw [h, Bool.true_and]
/-- tokens one behind another, acc: what they told so far -/
def aO (z : Str) (wd : Nat) (line : List Nat) : List PyData → List Nat → Nat → Out × Nat
  | [], acc, kl => (.told acc, kl)
  | d :: ds, acc, kl => match outZ z wd (line ++ acc) kl d with
    | .told x => aO z wd line ds (acc ++ x) (klT wd kl (tD d))
    | o => (o, kl)
end KW
namespace KW
open PySem PySem.Spec PyProof.Rows L2
theorem kd_codes {kd : Str} (h : kd = "flush" ∨ kd = "text" ∨ kd = "any" ∨ kd = "copy" ∨ kd = "say") : CodesOk (cl kd) ∧ kd.length ≤ 60 := by
  have q : ∀ k : Str, ((decide (k.length ≤ 60) && (cl k).all fun c => decide (c < 0x110000)) = true) → CodesOk (cl k) ∧ k.length ≤ 60 := fun k e => by
    rw [Bool.and_eq_true, decide_eq_true_eq, List.all_eq_true] at e
    exact ⟨fun c hc => of_decide_eq_true (e.2 c hc), e.1⟩
  rcases h with rfl | rfl | rfl | rfl | rfl <;> exact q _ (by decide +kernel)
theorem tok_oddZ {b a : Addr} {K : PySem.W.Frag} {H : Hp} {z : Str} {t : List V} (e : SqT K H a t) (hz : SignsOk z) (ht : tokV z t = true) : OddZ b K H (.ref a) := by
  obtain ⟨_, h3, h⟩ := tok_odd (b := b) (K := K) (H := H) hz ht
  obtain ⟨ds, t1, t2, t3⟩ := odd_all h
  have e2 := t1.len
  have t4 : SzAll 0 110 ds := .of fun d hd => by
    obtain ⟨kd, rest, rfl, hk⟩ := tok_inv ht
    have hty : (∃ y, d = .str y) ∨ ∃ i : Int, d = .int i ∧ 0 ≤ i ∧ i ≤ 1000 := by
      cases t1 with
      | @cons _ _ d0 es q1 q2 =>
        rcases List.mem_cons.mp hd with rfl | hd
        · exact .inl ⟨_, q1.str_inv⟩
        · rcases hk with ⟨_, rfl⟩ | ⟨y, _, rfl, _⟩ | ⟨y, _, rfl, _⟩ | ⟨n, m, _, rfl, n1, n2, m1, m2⟩
          · cases q2; cases hd
          · cases q2 with
            | cons r1 r2 =>
              cases r2
              rw [List.mem_singleton.mp hd]
              exact .inl ⟨_, r1.str_inv⟩
          · cases q2 with
            | cons r1 r2 =>
              cases r2
              rw [List.mem_singleton.mp hd]
              exact .inl ⟨_, r1.str_inv⟩
          · cases q2 with
            | cons r1 r2 =>
              cases r2 with
              | cons r3 r4 =>
                cases r4
                cases r1
                cases r3
                rcases List.mem_cons.mp hd with rfl | hd
                · exact .inr ⟨_, rfl, by omega, by omega⟩
                · rw [List.mem_singleton.mp hd]
                  exact .inr ⟨_, rfl, by omega, by omega⟩
    rcases hty with ⟨y, rfl⟩ | ⟨i, rfl, i0, i1⟩
    · exact (Sz.str (t3 y hd).2 (t3 y hd).1).mono (by decide) (by decide)
    · exact (Sz.int i0 i1).mono (by decide) (by decide)
  exact ⟨_, .tup e t1, t4.tuple.mono (by decide) (by omega), (fun _ e => nomatch e), t3⟩
end KW
namespace KW
open PySem PySem.Spec PyProof.Rows L2
theorem good_tokw {z : Str} {wd : Nat} {d : PyData} (hg : goodZ z wd d = true) : TokW z wd (tD d) := by
  unfold goodZ at hg
  rw [Bool.and_eq_true, Bool.and_eq_true] at hg
  obtain ⟨⟨h1, h2⟩, h3⟩ := hg
  cases d with
  | tuple ds =>
    refine ⟨h1, h2, fun d n e' => ?_⟩
    rw [e'] at h3
    exact of_decide_eq_true h3
  | _ => cases h1
theorem copyN_in {L : List Nat} {d : Nat} (hd : 1 ≤ d) (hl : d ≤ L.length) {S : Nat → Prop} (h : ∀ c ∈ L, S c) : ∀ n, ∀ c ∈ copyN L d n, S c
  | 0 => fun c hc => nomatch hc
  | n + 1 => fun c hc => by
    have ih := copyN_in hd hl h n
    have hcl := copyN_len L d n
    rcases List.mem_append.mp (show c ∈ copyN L d n ++ [(L ++ copyN L d n).getD (L.length + n - d) 0] from hc) with hc | hc
    · exact ih c hc
    · have e := List.mem_singleton.mp hc
      have hi : L.length + n - d < (L ++ copyN L d n).length := by rw [List.length_append]; omega
      rw [List.getD_eq_getElem?_getD, List.getElem?_eq_getElem hi] at e
      have hm : c ∈ L ++ copyN L d n := by rw [e]; exact List.getElem_mem hi
      rcases List.mem_append.mp hm with hm | hm
      · exact h c hm
      · exact ih c hm
/-- what a good token tells -/
theorem out_told {z : Str} {wd kl : Nat} {L x : List Nat} {d : PyData} (hz : SignsOk z) (h : outZ z wd L kl d = .told x) (hk : kl ≤ wd) (hl : kl ≤ L.length) :
    x.length ≤ 40 ∧ klT wd kl (tD d) ≤ wd ∧ klT wd kl (tD d) ≤ (L ++ x).length ∧ (CodesOk L → CodesOk x) := by
  unfold outZ at h
  cases hg : goodZ z wd d with
  | false => rw [hg] at h; cases h
  | true =>
    rw [hg, if_pos rfl] at h
    have htw := good_tokw hg
    generalize tD d = t at h htw
    unfold outT at h
    cases hb : badT kl t with
    | some b => rw [hb] at h; cases h
    | none =>
      rw [hb] at h
      injection h with h
      subst h
      have htl := textT_len (line := L) htw.ok htw.pl.1
      have := (size_nn htw.ok).2
      refine ⟨by omega, klT_le htw.ok hk, klT_line htw.ok htw.pl.1 hl, fun hc => ?_⟩
      rcases htw.cases with rfl | ⟨y, rfl, h1, h2, h3⟩ | ⟨d, n, rfl, h1, h2, h3, h4⟩
      · exact fun c hc => nomatch hc
      · exact fun c hc' => signs_codes hz c (of_decide_eq_true (List.all_eq_true.mp h1 c hc'))
      · have hdk : d ≤ (kl : Int) := by
          by_cases e : d ≤ (kl : Int)
          · exact e
          · rw [show badT kl [.str "copy", .int d, .int n] = some (d, kl) from if_neg e] at hb
            cases hb
        exact copyN_in (by omega) (by omega) hc n.toNat
def finK (o : Out) (k kl : Nat) : Nat := match o with
  | .told _ => k
  | _ => kl
theorem aO_step {z : Str} {wd kl : Nat} {line acc x : List Nat} {d : PyData} {ds : List PyData} (h : outZ z wd (line ++ acc) kl d = .told x) : aO z wd line (d :: ds) acc kl = aO z wd line ds (acc ++ x) (klT wd kl (tD d)) := by
  show (match outZ z wd (line ++ acc) kl d with | .told x => aO z wd line ds (acc ++ x) (klT wd kl (tD d)) | o => (o, kl)) = _
  rw [h]
theorem aO_none {z : Str} {wd kl : Nat} {line acc : List Nat} {d : PyData} {ds : List PyData} (h : outZ z wd (line ++ acc) kl d = .none) : aO z wd line (d :: ds) acc kl = (.none, kl) := by
  show (match outZ z wd (line ++ acc) kl d with | .told x => aO z wd line ds (acc ++ x) (klT wd kl (tD d)) | o => (o, kl)) = _
  rw [h]
theorem aO_short {z : Str} {wd kl : Nat} {line acc : List Nat} {d : PyData} {ds : List PyData} {e : Int} {k : Nat} (h : outZ z wd (line ++ acc) kl d = .short e k) : aO z wd line (d :: ds) acc kl = (.short e k, kl) := by
  show (match outZ z wd (line ++ acc) kl d with | .told x => aO z wd line ds (acc ++ x) (klT wd kl (tD d)) | o => (o, kl)) = _
  rw [h]
/-- what the tokens tell, all of them: its length, its codes, what is kept -/
theorem aO_told {z : Str} {wd : Nat} {line : List Nat} (hz : SignsOk z) : ∀ (ds : List PyData) (acc : List Nat) (kl : Nat) (x : List Nat) (k : Nat), aO z wd line ds acc kl = (.told x, k) → kl ≤ wd → kl ≤ (line ++ acc).length →
    x.length ≤ acc.length + 40 * ds.length ∧ k ≤ wd ∧ k ≤ (line ++ x).length ∧ (CodesOk (line ++ acc) → CodesOk (line ++ x))
  | [], acc, kl, x, k, h, h1, h2 => by
    injection h with e1 e2
    injection e1 with e1
    subst e1 e2
    exact ⟨by omega, h1, h2, fun h => h⟩
  | d :: ds, acc, kl, x, k, h, h1, h2 => by
    cases ho : outZ z wd (line ++ acc) kl d with
    | none => rw [aO_none ho] at h; cases h
    | short e q => rw [aO_short ho] at h; cases h
    | told y =>
      rw [aO_step ho] at h
      obtain ⟨o1, o2, o3, o4⟩ := out_told hz ho h1 h2
      obtain ⟨q1, q2, q3, q4⟩ := aO_told hz ds (acc ++ y) _ x k h o2 (by rw [← List.append_assoc]; exact o3)
      refine ⟨by rw [List.length_append] at q1; rw [List.length_cons]; omega, q2, q3, fun hc => q4 ?_⟩
      rw [← List.append_assoc]
      intro c hm
      rcases List.mem_append.mp hm with hm | hm
      · exact hc c hm
      · exact o4 hc c hm
end KW

/-! An instance is called: its class' own __call__. -/
namespace KW
open PySem PySem.Spec PyProof.Rows L2
section
variable {X : Cx} {CX : CXT} {k : Nat} {f C : Addr} {fd : FuncData} {ps : List Str} {sp : Sp} {E : L2.St → XK} {x : Str} {p pos : Pos} {e : Expr} {es : List Expr} {tr : TE} {t : TA}
/-- r(..), r an instance of C -/
def tCallOwn (C : Addr) (sp : Sp) (E : L2.St → XK) (tr : TE) (t : TA) : TE := fun σ H Q => tr σ H fun v H1 => ∃ a, v = .ref a ∧ t σ H1 fun vs H2 => ∃ dx fs, H2 a = some (.ins C dx fs) ∧ sp (.ref a :: vs) H2 Q (E σ)
theorem pe_callOwn (F : FnOk X.prog X.w X.K X.mg X.base CX k f fd ps sp) (hr : Room k X.A) (at_ : PySem.W.findIn X.K (.ref C) "__call__" = some (some (.ref f))) (fn : PySem.W.isFn X.K (.ref f) = true) (hfn : PySem.W.fnIn X.K f = true) (hb : L2.Binds X.K fd ps []) (hx : ∀ σ, PassesAt CX X σ (E σ))
    (hrv : PE X (.Name x p) tr) (ha : PA X (e :: es) t) (he : starEach (e :: es) X.env = (false, eval e X.env) :: starEach es X.env := by rfl) (hpl : (backTo pos (starEach es X.env)).any (·.1) = false := by rfl) :
    PE X (.Call (.Name x p) (e :: es) [] pos) (tCallOwn C sp E tr t) := by
  refine ⟨fun pins s σ H Q I h => ?_⟩
  refine wpAny_Call_Name_kw (thn (hrv.run pins s σ H _ I h) fun u s1 ⟨v, H1, I1, rv, a, ev, q1⟩ => ?_)
  subst ev
  obtain rfl : u = Value.ref a := rv
  rw [he]
  have hpl2 : ((backTo pos ((false, eval e X.env) :: starEach es X.env)).any (·.1) || (backToKw pos (keywordEach [] X.env)).any (·.1.isNone)) = false := by
    show ((false || (backTo pos (starEach es X.env)).any (·.1)) || false) = false
    rw [hpl]; rfl
  have sp1 : wpAny (model X.prog X.w) X.A (spliced (backTo pos ((false, eval e X.env) :: starEach es X.env))) (fun us s2 => ∃ vs H2, L2.Inv X pins σ H2 s2 ∧ Vals vs us ∧ ∃ dx fs, H2 a = some (.ins C dx fs) ∧ sp (.ref a :: vs) H2 Q (E σ)) X.xe s1 := by
    have z := ha.run pos pins s1 σ H1 _ I1 q1
    rw [he] at z
    exact thn z fun us s2 ⟨vs, H2, I2, r, dx, fs, hi, q⟩ => ⟨vs, H2, I2, r, dx, fs, hi, q⟩
  unfold callWith
  refine wpAny_bind (wpAny_holding (wpAny_mono (PySem.Calls.evalArgs_plain (Q := fun a' s2 => ∃ us vs H2, a' = ⟨us, []⟩ ∧ L2.Inv X pins σ H2 s2 ∧ Vals vs us ∧ ∃ dx fs, H2 a = some (.ins C dx fs) ∧ sp (.ref a :: vs) H2 Q (E σ)) (thn sp1 fun us s2 ⟨vs, H2, z⟩ => ⟨us, vs, H2, rfl, z⟩)) (fun a' s2 hh => wpAny_bind (wpAny_standAt ?_)) fun _ _ y => y))
  obtain ⟨us, vs, H2, rfl, I2, r, dx, fs, hi, q⟩ := hh
  obtain ⟨mA, J, _⟩ := ins_get I2.hok hi
  obtain ⟨od, J, _⟩ := J.look
  have L := PySem.W.kco_keeper (M := model X.prog X.w) J rfl
  simp only [hpl2]
  refine wpAny_bind (L.here ?_)
  have tail : ∀ {t : Sem Value}, wpAny (model X.prog X.w) X.A t (EP X pins σ Q) X.xe s2 → wpAny (model X.prog X.w) X.A (t >>= fun r => holding [r] point >>= fun _ => pure r) (EP X pins σ Q) X.xe s2 :=
    fun ht => wpAny_bind (wpAny_mono ht (fun r s₂ hr => wpAny_bind (wpAny_holding (wpAny_point (wpAny_pure hr)))) fun _ _ y => y)
  refine tail (wpAny_operateT (wpAny_call (PySem.W.kco_code I2.kIn J rfl at_ fn hfn ?_)))
  have r2 : Vals (V.ref a :: vs) (Value.ref a :: us) := .cons rfl r
  have hl : (Value.ref a :: us).length = ps.length := by
    have e := F.len _ _ _ _ q
    rw [r2.length] at e
    exact e
  have b := hb s2 (Value.ref a :: us) I2.kIn (by rw [List.append_nil]; exact hl)
  rw [List.append_nil] at b
  refine codeAny_mono (F.run X.A X.stack s2 H2 ⟨Value.ref a :: us, []⟩ (Value.ref a :: us) (V.ref a :: vs) Q (E σ) hr I2.env0 b r2 q) fun r s' hq => ?_
  cases r with
  | error e => exact hx σ pins H2 s2 e s' I2 hq
  | ok fl =>
    cases fl with
    | ret u => exact I2.after hq
    | next => exact False.elim hq
    | brk => exact False.elim hq
    | cont => exact False.elim hq
end
end KW

/-! Several readers beside one another, each with its state. -/
namespace KW
open PySem PySem.Spec PyProof.Rows L2
/-- a reader: its object, its list of signs, the list that is its state, its width, what it wrote, how much it keeps -/
structure RS where
  a : Addr
  l : Addr
  s : Addr
  w : Nat
  line : List Nat
  kl : Nat
structure RdOk (C : Addr) (H : Hp) (z : Str) (n : Nat) (r : RS) : Prop where
  rd : ReaderAt C H r.a r.l z r.w r.line r.kl
  st : H r.s = some (.lst [.str (stL r.line), .int r.kl])
  len : r.line.length ≤ n
  cod : CodesOk r.line
/-- a list that is no reader's list and no state -/
def Apart (R : List RS) (q : Addr) : Prop := ∀ r ∈ R, r.a ≠ q ∧ r.l ≠ q ∧ r.s ≠ q
structure Sys (C : Addr) (H : Hp) (z : Str) (n : Nat) (b c lr ls lw : Addr) (R : List RS) : Prop where
  bag : BagAt H b c
  er : H lr = some (.lst (R.map fun r => V.ref r.a))
  es : H ls = some (.lst (R.map fun r => V.ref r.s))
  ew : H lw = some (.lst (R.map fun r => V.int r.w))
  n1 : lr ≠ ls
  n2 : lr ≠ lw
  n3 : ls ≠ lw
  ok : ∀ r ∈ R, RdOk C H z n r
  two : R.Pairwise fun r q => r.a ≠ q.a ∧ r.l ≠ q.l
  ab : Apart R b
  ac : Apart R c
  ar : Apart R lr
  as_ : Apart R ls
  aw : Apart R lw
  nb : lr ≠ b ∧ ls ≠ b ∧ lw ≠ b
  nc : lr ≠ c ∧ ls ≠ c ∧ lw ≠ c
  one : 1 ≤ R.length
  five : R.length ≤ 5
section
variable {C b c lr ls lw : Addr} {H H' : Hp} {z : Str} {n m : Nat} {R : List RS} {r q : RS}
theorem RdOk.mono (h : RdOk C H z n r) (hn : n ≤ m) : RdOk C H z m r := ⟨h.rd, h.st, Nat.le_trans h.len hn, h.cod⟩
theorem RdOk.keepB (h : RdOk C H z n r) (k : KeepB b H H') (h1 : r.a ≠ b) (h2 : r.l ≠ b) (h3 : r.s ≠ b) : RdOk C H' z n r := by
  obtain ⟨⟨dx, e1⟩, e2, e3⟩ := h.rd
  exact ⟨⟨⟨dx, k _ _ h1 e1⟩, k _ _ h2 e2, e3⟩, k _ _ h3 h.st, h.len, h.cod⟩
theorem RdOk.same (h : RdOk C H z n r) (s : Same H H') : RdOk C H' z n r := ⟨h.rd.same s, s _ _ h.st, h.len, h.cod⟩
/-- a state is no reader and no reader's list -/
theorem RdOk.apart (h : RdOk C H z n r) (g : RdOk C H z n q) : r.s ≠ q.a ∧ r.s ≠ q.l ∧ r.a ≠ q.l := by
  obtain ⟨⟨dx, e1⟩, e2, _⟩ := g.rd
  obtain ⟨⟨dx', f1⟩, _, _⟩ := h.rd
  refine ⟨fun e => ?_, fun e => ?_, fun e => ?_⟩
  · have h' := h.st
    rw [e, e1] at h'
    cases h'
  · have h' := h.st
    rw [e, e2] at h'
    have h2 := congrArg (fun (xs : List V) => xs[1]?) (HO.lst.inj (Option.some.inj h'))
    have h2 : (q.line.map fun c => V.str (sg c))[1]? = some (V.int _) := h2
    rw [List.getElem?_map] at h2
    cases e : q.line[1]? with
    | none => rw [e] at h2; cases h2
    | some c => rw [e] at h2; cases h2
  · rw [e, e2] at f1
    cases f1
/-- a step on one reader keeps the others -/
theorem RdOk.keep2 (h : RdOk C H z n r) (g : RdOk C H z n q) (k : Keep2 q.a q.l H H') (h1 : r.a ≠ q.a) (h2 : r.l ≠ q.l) : RdOk C H' z n r := by
  obtain ⟨a1, a2, a3⟩ := h.apart g
  obtain ⟨_, _, b3⟩ := g.apart h
  obtain ⟨⟨dx, e1⟩, e2, e3⟩ := h.rd
  exact ⟨⟨⟨dx, k _ _ h1 a3 e1⟩, k _ _ b3.symm h2 e2, e3⟩, k _ _ a1 a2 h.st, h.len, h.cod⟩
theorem Sys.keepB (h : Sys C H z n b c lr ls lw R) (hb : BagAt H' b c) (k : KeepB b H H') : Sys C H' z n b c lr ls lw R :=
  { h with
    bag := hb
    er := k _ _ h.nb.1 h.er
    es := k _ _ h.nb.2.1 h.es
    ew := k _ _ h.nb.2.2 h.ew
    ok := fun r hr => (h.ok r hr).keepB k (h.ab r hr).1 (h.ab r hr).2.1 (h.ab r hr).2.2 }
theorem Sys.same (h : Sys C H z n b c lr ls lw R) (s : Same H H') : Sys C H' z n b c lr ls lw R :=
  { h with
    bag := bag_same h.bag s
    er := s _ _ h.er
    es := s _ _ h.es
    ew := s _ _ h.ew
    ok := fun r hr => (h.ok r hr).same s }
theorem Sys.mono (h : Sys C H z n b c lr ls lw R) (hn : n ≤ m) : Sys C H z m b c lr ls lw R := { h with ok := fun r hr => (h.ok r hr).mono hn }
theorem Sys.other (h : Sys C H z n b c lr ls lw R) {i j : Nat} (hi : R[i]? = some r) (hj : R[j]? = some q) (ne : j ≠ i) : q.a ≠ r.a ∧ q.l ≠ r.l := by
  obtain ⟨li, ei⟩ := List.getElem?_eq_some_iff.mp hi
  obtain ⟨lj, ej⟩ := List.getElem?_eq_some_iff.mp hj
  have p := List.pairwise_iff_getElem.mp h.two
  rcases Nat.lt_or_gt_of_ne ne with hlt | hlt
  · have := p j i lj li hlt
    rw [ei, ej] at this
    exact this
  · have := p i j li lj hlt
    rw [ei, ej] at this
    exact ⟨this.1.symm, this.2.symm⟩
/-- one reader and its state go on -/
theorem Sys.step (h : Sys C H z n b c lr ls lw R) {i : Nat} (hi : R[i]? = some r) {s' : Addr} {line' : List Nat} {kl' : Nat} (hnm : n ≤ m) (hb : BagAt H' b c)
    (k : ∀ q o, q ≠ b → q ≠ r.a → q ≠ r.l → q ≠ ls → H q = some o → H' q = some o) (hrd : ReaderAt C H' r.a r.l z r.w line' kl') (hs : H' s' = some (.lst [.str (stL line'), .int kl'])) (hl : line'.length ≤ m) (hc : CodesOk line')
    (hls : H' ls = some (.lst ((R.map fun r => V.ref r.s).set i (.ref s')))) (ns : s' ≠ b ∧ s' ≠ c ∧ s' ≠ lr ∧ s' ≠ ls ∧ s' ≠ lw) :
    Sys C H' z m b c lr ls lw (R.set i { r with s := s', line := line', kl := kl' }) := by
  have hr := List.mem_of_getElem? hi
  have hli : i < R.length := (List.getElem?_eq_some_iff.mp hi).1
  have ap : ∀ {x : Addr}, Apart R x → s' ≠ x → Apart (R.set i { r with s := s', line := line', kl := kl' }) x := fun {x} hx n1 q hq => by
    rcases List.mem_or_eq_of_mem_set hq with h1 | h1
    · exact hx q h1
    · subst h1
      exact ⟨(hx r hr).1, (hx r hr).2.1, n1⟩
  have hid : ∀ {β : Type} (f : RS → β), f { r with s := s', line := line', kl := kl' } = f r → (R.set i { r with s := s', line := line', kl := kl' }).map f = R.map f := fun f e => by
    rw [List.map_set, e]
    apply List.ext_getElem?
    intro j
    by_cases hj : i = j
    · subst hj
      rw [List.getElem?_set_self (by rw [List.length_map]; exact hli), List.getElem?_map, hi]
      rfl
    · rw [List.getElem?_set_ne hj]
  refine ⟨hb, ?_, ?_, ?_, h.n1, h.n2, h.n3, fun q hq => ?_, ?_, ap h.ab ns.1, ap h.ac ns.2.1, ap h.ar ns.2.2.1, ap h.as_ ns.2.2.2.1, ap h.aw ns.2.2.2.2, h.nb, h.nc, by rw [List.length_set]; exact h.one, by rw [List.length_set]; exact h.five⟩
  · rw [hid (fun r => V.ref r.a) rfl]
    exact k _ _ h.nb.1 (h.ar r hr).1.symm (h.ar r hr).2.1.symm h.n1 h.er
  · rw [List.map_set]
    exact hls
  · rw [hid (fun r => V.int r.w) rfl]
    exact k _ _ h.nb.2.2 (h.aw r hr).1.symm (h.aw r hr).2.1.symm h.n3.symm h.ew
  · obtain ⟨j, hj⟩ := List.mem_iff_getElem?.mp hq
    by_cases e : i = j
    · subst e
      rw [List.getElem?_set_self hli] at hj
      injection hj with hj
      subst hj
      exact ⟨hrd, hs, hl, hc⟩
    · rw [List.getElem?_set_ne e] at hj
      have hqm := List.mem_of_getElem? hj
      have ho := h.other hi hj (fun x => e x.symm)
      have hq := h.ok q hqm
      have hrr := h.ok r hr
      obtain ⟨a1, a2, a3⟩ := hq.apart hrr
      obtain ⟨_, _, b3⟩ := hrr.apart hq
      obtain ⟨⟨dx, e1⟩, e2, e3⟩ := hq.rd
      refine ⟨⟨⟨dx, k _ _ (h.ab q hqm).1 ho.1 a3 (h.as_ q hqm).1 e1⟩, k _ _ (h.ab q hqm).2.1 b3.symm ho.2 (h.as_ q hqm).2.1 e2, e3⟩, k _ _ (h.ab q hqm).2.2 a1 a2 (h.as_ q hqm).2.2 hq.st, Nat.le_trans hq.len hnm, hq.cod⟩
  · have p := List.pairwise_iff_getElem.mp h.two
    have get : ∀ (j : Nat) (hj : j < (R.set i { r with s := s', line := line', kl := kl' }).length) (hj' : j < R.length), (R.set i { r with s := s', line := line', kl := kl' })[j].a = R[j].a ∧ (R.set i { r with s := s', line := line', kl := kl' })[j].l = R[j].l := fun j hj hj' => by
      by_cases e : i = j
      · subst e
        rw [List.getElem_set_self]
        have : R[i] = r := by
          have := (List.getElem?_eq_some_iff.mp hi).2
          exact this
        rw [this]
        exact ⟨rfl, rfl⟩
      · rw [List.getElem_set_ne e]
        exact ⟨rfl, rfl⟩
    refine List.pairwise_iff_getElem.mpr fun j1 j2 h1 h2 hlt => ?_
    have l1 : j1 < R.length := by rw [List.length_set] at h1; exact h1
    have l2 : j2 < R.length := by rw [List.length_set] at h2; exact h2
    have q := p j1 j2 l1 l2 hlt
    rw [(get j1 h1 l1).1, (get j1 h1 l1).2, (get j2 h2 l2).1, (get j2 h2 l2).2]
    exact q
/-- one more reader -/
theorem Sys.more (h : Sys C H z n b c lr ls lw R) (hb : BagAt H' b c) (k : ∀ q o, q ≠ lr → q ≠ ls → q ≠ lw → H q = some o → H' q = some o) (hq : RdOk C H' z n q) (hn : ∀ r ∈ R, r.a ≠ q.a ∧ r.l ≠ q.l)
    (e1 : H' lr = some (.lst ((R.map fun r => V.ref r.a) ++ [.ref q.a]))) (e2 : H' ls = some (.lst ((R.map fun r => V.ref r.s) ++ [.ref q.s]))) (e3 : H' lw = some (.lst ((R.map fun r => V.int r.w) ++ [.int q.w])))
    (hf : R.length < 5) (ap : ∀ x, (x = b ∨ x = c ∨ x = lr ∨ x = ls ∨ x = lw) → q.a ≠ x ∧ q.l ≠ x ∧ q.s ≠ x) : Sys C H' z n b c lr ls lw (R ++ [q]) := by
  have ap2 : ∀ {x : Addr}, Apart R x → (x = b ∨ x = c ∨ x = lr ∨ x = ls ∨ x = lw) → Apart (R ++ [q]) x := fun {x} hx ho r hr => by
    rcases List.mem_append.mp hr with h1 | h1
    · exact hx r h1
    · rw [List.mem_singleton.mp h1]
      exact ap x ho
  refine ⟨hb, by rw [List.map_append]; exact e1, by rw [List.map_append]; exact e2, by rw [List.map_append]; exact e3, h.n1, h.n2, h.n3, fun r hr => ?_, ?_, ap2 h.ab (.inl rfl), ap2 h.ac (.inr (.inl rfl)), ap2 h.ar (.inr (.inr (.inl rfl))), ap2 h.as_ (.inr (.inr (.inr (.inl rfl)))), ap2 h.aw (.inr (.inr (.inr (.inr rfl)))), h.nb, h.nc, by rw [List.length_append]; exact Nat.le_trans h.one (Nat.le_add_right _ _), by rw [List.length_append, List.length_singleton]; omega⟩
  · rcases List.mem_append.mp hr with h1 | h1
    · have o := h.ok r h1
      obtain ⟨⟨dx, f1⟩, f2, f3⟩ := o.rd
      exact ⟨⟨⟨dx, k _ _ (h.ar r h1).1 (h.as_ r h1).1 (h.aw r h1).1 f1⟩, k _ _ (h.ar r h1).2.1 (h.as_ r h1).2.1 (h.aw r h1).2.1 f2, f3⟩, k _ _ (h.ar r h1).2.2 (h.as_ r h1).2.2 (h.aw r h1).2.2 o.st, o.len, o.cod⟩
    · rw [List.mem_singleton.mp h1]
      exact hq
  · refine List.pairwise_append.mpr ⟨h.two, List.pairwise_singleton _ _, fun r hr q' hq' => ?_⟩
    rw [List.mem_singleton.mp hq']
    exact hn r hr
end
end KW

/-! Own operators that let exceptions out; an int times an instance; defs that are handed the handled exception. -/
namespace PySem
open Sem (wp)
open Builtin
theorem kw_int_mul_ins (a : Int) (t : Tok) (l C dx : Addr) :
    Meets (Builtin.«int.__mul__» ⟨[.int a t, .ref l], []⟩) (fun _ R s => s.heap.get? l = some { cls := .ref C, dict := some dx, data := .plain } ∧ R (.ok (.ret Value.notImplemented)) s) :=
  .of_wp fun prog w A R s h => by obtain ⟨hp, g, d, tk, os⟩ := s; obtain ⟨hl, h⟩ := h; wp_walk; exact ⟨_, rfl, h⟩
end PySem
namespace KW
open PySem PySem.Spec PyProof.Rows L2
open L2H (RoomH roomH_of)
section
variable {prog : Program} {w : World} {A : Around} {E : Value → Shared → Prop} {s : Shared} {K : PySem.W.Frag} {x C dx L f g : Addr} {h₀ : Heap} {m : Str → Option Value} {od : Option Obj} {n : Int} {t : Tok}
/-- n * x by the class' own reflected def -/
theorem rmul_K {Q : Value → Shared → Prop} (F : Fr h₀ L s.heap m) (X₀ : K.In h₀) (I : PySem.W.InstAt s.heap x (PySem.W.instObj C dx) C od) (hc : PySem.W.selfFirst K C = true) (hm : PySem.W.findIn K (.ref C) "__mul__" = some (some (.ref g)))
    (hr : PySem.W.findIn K (.ref C) "__rmul__" = some (some (.ref f))) (hf : PySem.W.isFn K (.ref f) = true) (hsub : PySem.W.subIn K (.ref C) (.type "int") = some false)
    (h : wpAny (model prog w) A (call (.ref f) [.ref x, .int n t]) (PySem.W.CmpBack Q) E s) : wpAny (model prog w) A (binaryOp .Mult (.int n t) (.ref x)) Q E s := by
  have X := X₀.keeps F.keep
  obtain ⟨cd, rest, hcd, hmr⟩ := PySem.W.ksp_first hc
  have one := PySem.W.ksp_try (A := A) (E := E) X I hr hf h
  obtain ⟨hh, gg, d, tt, os⟩ := s
  have L2 : PySem.W.Looks (model prog w) hh (typeOf (.ref x)) (.ref C) := I.type
  have L4 : PySem.W.Looks (model prog w) hh (fillsNumberSlot (.ref C) "mul") true := PySem.W.fills_K X hcd hmr hm
  have L5 : PySem.W.Looks (model prog w) hh (isSubtype (.ref C) (.type "int")) false := PySem.W.looks_subIn X hsub
  have ho : hh.get? x = some { cls := .ref C, dict := some dx, data := .plain } := I.at_
  have L6 : PySem.W.Looks (model prog w) hh (numberSlotInPython (.type "int") "mul") false := PySem.W.Looks.of_pure rfl
  have L7 : PySem.W.Looks (model prog w) hh (fillsNumberSlot (.type "int") "mul") true := PySem.W.Looks.of_pure PySem.F.fills_int_mul
  have hne : (Value.type "int" == Value.ref C) = false := rfl
  unfold binaryOp
  refine wpAny_holding (wpAny_bind ?_)
  show wpAny _ _ (binaryOp1 "mul" _ _) _ _ _
  unfold binaryOp1
  refine wpAny_bind (wpAny_typeOf (typeIs_int _ n t) (wpAny_bind (L2.at (wpAny_bind (L7.at ?_)))))
  simp only [hne, Bool.false_eq_true, if_false]
  repeat ((fail_if_success (with_reducible show wpAny _ _ (tryMethod _ _ _) _ _ _)); lk)
  have ti := typeIs_int (⟨hh, gg, d, tt, os⟩ : Shared) n t
  refine wpAny_tryMethod_declines (T := "int") (name := dunder "mul") (id := "int.__mul__") ti PySem.F.slot_int_mul ?_
  refine call_meets (T := "int") (id := "int.__mul__") PySem.F.slot_int_mul (typeIs_int _ n t) PySem.F.entry_int_mul (PySem.F.args_int_mul_2 _ _) (kw_int_mul_ins n t x C dx) ?_
  refine And.intro ho ?_
  refine And.intro rfl ?_
  repeat ((fail_if_success (with_reducible show wpAny _ _ (tryMethod _ _ _) _ _ _)); lk)
  refine wpAny_mono one (fun r s' hr' => ?_) fun _ _ e => e
  obtain ⟨v, rfl, hq⟩ := hr'
  repeat lk
  exact hq
end
end KW
namespace KW
open PySem PySem.Spec PyProof.Rows L2
open L2H (RoomH roomH_of)
section
variable {X : Cx} {CX : CXT} {k : Nat} {f g C : Addr} {fd : FuncData} {ps : List Str} {sp : Sp} {E : L2.St → XK} {nm : String} {op : Operator} {a b : Expr} {ta tb : TE} {pos : Pos}
theorem back_of {pins : List (Addr × Obj)} {σ : L2.St} {Q : VK} {v : Value} {s : Shared} (q : EP X pins σ Q v s) : PySem.W.CmpBack (EP X pins σ Q) v s := by
  obtain ⟨y, H', I', ry, q⟩ := q
  have no := relV_notNI ry
  cases v <;> first | exact ⟨y, H', I', ry, q⟩ | (exfalso; revert no; simp [isNI])
/-- x op n by x's own def, n an int; what it lets out is caught around it -/
def tOwnT (C : Addr) (sp : Sp) (E : L2.St → XK) (ta tb : TE) : TE := fun σ H Q => ta σ H fun x H1 => tb σ H1 fun y H2 => ∃ a dx fs n, x = .ref a ∧ y = .int n ∧ H2 a = some (.ins C dx fs) ∧ sp [.ref a, .int n] H2 Q (E σ)
theorem pe_ownT (F : FnOk X.prog X.w X.K X.mg X.base CX k f fd ps sp) (hr : Room k X.A) (hop : op.info.2 = nm) (o : OwnOp X.K C f nm) (hb : L2.Binds X.K fd ps []) (hx : ∀ σ, PassesAt CX X σ (E σ)) (ha : PE X a ta) (hbb : PE X b tb) :
    PE X (.BinOp a op b pos) (tOwnT C sp E ta tb) := by
  refine ⟨fun pins s σ H Q I h => wpAny_BinOp (binT ha hbb I (R := fun x y H2 => ∃ a dx fs n, x = .ref a ∧ y = .int n ∧ H2 a = some (.ins C dx fs) ∧ sp [.ref a, .int n] H2 Q (E σ)) h fun v u s2 x y H2 I2 rx ry q => ?_)⟩
  obtain ⟨a, dx, fs, n, rfl, rfl, ha, h⟩ := q
  obtain rfl : v = Value.ref a := rx
  obtain ⟨t, rfl⟩ := ry
  obtain ⟨mA, J, _⟩ := ins_get I2.hok ha
  obtain ⟨od, J, _⟩ := J.look
  obtain ⟨m, hF⟩ := I2.fr
  obtain ⟨rc, hrc, hp⟩ := o.back
  obtain ⟨fo, h1⟩ := o.int1
  obtain ⟨ro, h2⟩ := o.int2
  subst hop
  refine PySem.W.ksp_binT hF I2.ok.mod.kin J (T := "int") rfl o.first o.at_ o.fn hrc hp h1 h2 o.sub ?_
  exact wpAny_mono (run_fnS (vs := [.ref a, .int n]) F hr hb (hx σ) I2 (.cons rfl (.cons ⟨_, rfl⟩ .nil)) h) (fun v s' q => back_of q) fun _ _ z => z
/-- x op y, both of one class -/
def tSameT (C : Addr) (sp : Sp) (E : L2.St → XK) (ta tb : TE) : TE := fun σ H Q => ta σ H fun x H1 => tb σ H1 fun y H2 => ∃ a b dx dy fs gs, x = .ref a ∧ y = .ref b ∧ H2 a = some (.ins C dx fs) ∧ H2 b = some (.ins C dy gs) ∧ sp [.ref a, .ref b] H2 Q (E σ)
theorem pe_sameT (F : FnOk X.prog X.w X.K X.mg X.base CX k f fd ps sp) (hr : Room k X.A) (hop : op.info.2 = nm) (o : OwnOp X.K C f nm) (hb : L2.Binds X.K fd ps []) (hx : ∀ σ, PassesAt CX X σ (E σ)) (ha : PE X a ta) (hbb : PE X b tb) :
    PE X (.BinOp a op b pos) (tSameT C sp E ta tb) := by
  refine ⟨fun pins s σ H Q I h => wpAny_BinOp (binT ha hbb I (R := fun x y H2 => ∃ a b dx dy fs gs, x = .ref a ∧ y = .ref b ∧ H2 a = some (.ins C dx fs) ∧ H2 b = some (.ins C dy gs) ∧ sp [.ref a, .ref b] H2 Q (E σ)) h fun v u s2 x y H2 I2 rx ry q => ?_)⟩
  obtain ⟨a, b, dx, dy, fs, gs, rfl, rfl, ha, hb', h⟩ := q
  obtain rfl : v = Value.ref a := rx
  obtain rfl : u = Value.ref b := ry
  obtain ⟨mA, J, _⟩ := ins_get I2.hok ha
  obtain ⟨od, J, _⟩ := J.look
  obtain ⟨mB, J', _⟩ := ins_get I2.hok hb'
  obtain ⟨od', J', _⟩ := J'.look
  obtain ⟨m, hF⟩ := I2.fr
  subst hop
  refine PySem.W.binop_K hF I2.ok.mod.kin J J'.type o.first o.at_ o.fn ?_
  exact wpAny_mono (run_fnS (vs := [.ref a, .ref b]) F hr hb (hx σ) I2 (.cons rfl (.cons rfl .nil)) h) (fun v s' q => back_of q) fun _ _ z => z
/-- n * x by the reflected def -/
def tBackT (C : Addr) (sp : Sp) (E : L2.St → XK) (ta tb : TE) : TE := fun σ H Q => ta σ H fun x H1 => tb σ H1 fun y H2 => ∃ a dx fs n, x = .int n ∧ y = .ref a ∧ H2 a = some (.ins C dx fs) ∧ sp [.ref a, .int n] H2 Q (E σ)
theorem pe_backT (F : FnOk X.prog X.w X.K X.mg X.base CX k f fd ps sp) (hr : Room k X.A) (o : OwnOp X.K C g "mul") (at_ : PySem.W.findIn X.K (.ref C) "__rmul__" = some (some (.ref f))) (fn : PySem.W.isFn X.K (.ref f) = true) (sub : PySem.W.subIn X.K (.ref C) (.type "int") = some false)
    (hb : L2.Binds X.K fd ps []) (hx : ∀ σ, PassesAt CX X σ (E σ)) (ha : PE X a ta) (hbb : PE X b tb) :
    PE X (.BinOp a .Mult b pos) (tBackT C sp E ta tb) := by
  refine ⟨fun pins s σ H Q I h => wpAny_BinOp (binT ha hbb I (R := fun x y H2 => ∃ a dx fs n, x = .int n ∧ y = .ref a ∧ H2 a = some (.ins C dx fs) ∧ sp [.ref a, .int n] H2 Q (E σ)) h fun v u s2 x y H2 I2 rx ry q => ?_)⟩
  obtain ⟨a, dx, fs, n, rfl, rfl, ha, h⟩ := q
  obtain rfl : u = Value.ref a := ry
  obtain ⟨t, rfl⟩ := rx
  obtain ⟨mA, J, _⟩ := ins_get I2.hok ha
  obtain ⟨od, J, _⟩ := J.look
  obtain ⟨m, hF⟩ := I2.fr
  refine rmul_K hF I2.ok.mod.kin J o.first o.at_ at_ fn sub ?_
  exact wpAny_mono (run_fnS (vs := [.ref a, .int n]) F hr hb (hx σ) I2 (.cons rfl (.cons ⟨_, rfl⟩ .nil)) h) (fun v s' q => back_of q) fun _ _ z => z
end
/-- what a def promises that is handed the exception that is handled -/
structure FnX (P : Program) (w : World) (K : PySem.W.Frag) (mg : Str → Option Value) (base : Heap) (k : Nat) (f : Addr) (fd : FuncData) (ps : List Str) (sp : Addr → Value → Option Addr → Sp) : Prop where
  len : ∀ a cls d vs H Q E, sp a cls d vs H Q E → vs.length = ps.length
  run : ∀ (A : Around) (outer : List Env) (s : Shared) (H : Hp) (args : Args) (us : List Value) (vs : List V) (Q : VK) (E : XK) (a : Addr) (oe : Obj) (cls : Value) (d : Option Addr), RoomH k A → Env0 P w K mg base A outer s H →
    s.heap.get? a = some oe → H a = none → a ∉ frs outer → Zc cls d oe → (∃ vs, oe.data = .fields vs) → BindsTo s fd args (ps.zip us) → Vals vs us → sp a cls d vs H Q E →
    codeAny (model P w) A (.call (.ref f) args) (CR CX0 outer P w H s Q E) s
/-- the body's context -/
abbrev cxX (P : Program) (w : World) (K : PySem.W.Frag) (mg : Str → Option Value) (base : Heap) (N : List Str) (qual : Str) (scope : Scope) (f : Addr) (cd : Value) (A : Around) (outer : List Env) (s : Shared) (H : Hp) (E : XK) (a : Addr) (oe : Obj) : Cx :=
  { cxC P w K mg base N qual scope f cd A outer s H E with pn := [(a, oe)] }
section
variable {P : Program} {w : World} {K : PySem.W.Frag} {mg : Str → Option Value} {base : Heap}
theorem inv_startX {N ps : List Str} {qual : Str} {scope : Scope} {f a : Addr} {oe : Obj} {cd : Value} {A : Around} {outer : List Env} {s s1 : Shared} {H : Hp} {E : XK} {us : List Value} {vs : List V}
    (S : FnScope N ps scope) (e0 : Env0 P w K mg base A outer s H) (hl : vs.length = ps.length) (r : Vals vs us) (he : s.heap.get? a = some oe) (hn : H a = none) (ho : a ∉ frs outer) (hd : ∃ vs, oe.data = .fields vs)
    (x : InCallC s s.heap.objs.size (bindL (envOfC qual scope s.heap.objs.size f cd).kindOf (ps.zip us) fun _ => none) (cellsFrom (s.heap.objs.size + 1) scope.names []) (bindC (envOfC qual scope s.heap.objs.size f cd).kindOf (ps.zip us) fun _ => none) s1) :
    Inv (cxX P w K mg base N qual scope f cd A outer s H E a oe) [] (start N vs) H s1 := by
  have I := inv_startC (E := E) S e0 hl r x
  have ok := I.ok
  have hlt : a < s.heap.objs.size := Heap.lt_size he
  refine ⟨⟨ok.mod, ok.kind, ok.glob, ok.blt, ok.above, ok.inj, ok.has, ok.cab, ok.hd, ok.frames, ok.stk, ok.exf, ok.bs, ok.bsz, ok.noex, ok.exfs, ok.funs, ok.frf⟩,
    I.os, I.bare, I.base, I.loc, I.cell, I.free, I.freeC, fun p hp => ?_, I.hok, I.len⟩
  have hp : p ∈ [(a, oe)] ++ [] := hp
  rw [List.append_nil, List.mem_singleton] at hp
  subst hp
  obtain ⟨vs, hd⟩ := hd
  exact ⟨x.toInCall.keep _ _ he, hn, Nat.ne_of_lt hlt, ho, fun v z => by rw [hd] at z; cases z⟩
theorem Fun.okX {x qual : Str} {st : Stmt} {f : Addr} {fd : FuncData} {N ps : List Str} {k : Nat} {sp : Addr → Value → Option Addr → Sp} (F : Fun K x qual st f fd) (S : FnScope N ps (defScope st)) (len : ∀ a cls d vs H Q E, sp a cls d vs H Q E → vs.length = ps.length)
    (hbody : ∀ (cdv : Value) (A : Around) (outer : List Env) (s : Shared) (H : Hp) (vs : List V) (Q : VK) (E : XK) (a : Addr) (oe : Obj) (cls : Value) (d : Option Addr), Zc cls d oe → (∃ vs, oe.data = .fields vs) → RoomH k (A.deeper (envOfC qual (defScope st) s.heap.objs.size f cdv)) → sp a cls d vs H Q E →
      ∃ t, PSs (cxX P w K mg base N qual (defScope st) f cdv A outer s H E a oe).nox (defBody st) t ∧ t { nx := fun _ H' => Q .non H', rt := Q } (start N vs) H) : FnX P w K mg base (k + 1) f fd ps sp := by
  obtain ⟨oc, od, kV, doc, pm, an, cdv, ct, osl, rfl, lk, hcd⟩ := F.ex
  refine ⟨len, fun A outer s H args us vs Q E a oe cls d hr e0 he hn ho hz hf hb r hsp => ?_⟩
  have hl := len _ _ _ _ _ _ _ hsp
  have KX : K.In s.heap := e0.mod.kin.keeps fun b o e => (e0.bs b o e).1
  have lim : s.heap.NoLimit := e0.mod.nolimit.keeps fun b o e => (e0.bs b o e).1
  have hkind : ∀ y ∈ ps.zip us, (defScope st).names.lookup y.1 = some .local ∨ ((defScope st).names.lookup y.1 = some .cell ∧ ((cellsFrom (s.heap.objs.size + 1) (defScope st).names []).lookup y.1).isSome = true) :=
    fun ⟨n, v⟩ hy => (S.par n (List.of_mem_zip hy).1).imp id fun q => ⟨q, PySem.W.cellsFrom_some _ _ _ (.inl q)⟩
  refine codeAny_call_function hr.depth (KX _ _ lk) rfl S.co S.gen rfl (PySem.W.codeRec_of KX hcd) (hb _ _ _ _ (wpAny_newFunctionEnv_cells S.kind hkind fun env he' s1 x => ?_))
  subst he'
  refine ⟨lim.keeps x.toInCall.keep, codeAny_func ?_⟩
  obtain ⟨t, ht, hq⟩ := hbody cdv A outer s H vs Q E a oe cls d hz hf (hr.deeper _) hsp
  have I : Inv (cxX P w K mg base N qual (defScope st) f cdv A outer s H E a oe) [] (start N vs) H s1 := inv_startX S e0 hl r he hn ho hf x
  refine wpAny_mono (ht.nox.run [] s1 (start N vs) H _ I hq) (fun fl s' hs => ?_) fun e s' hs => hs
  cases fl with
  | ret u => obtain ⟨v, σ', H', J, rv, q⟩ := hs; exact ⟨v, H', J.os, J.bare, J.base, J.hok, rv, q⟩
  | next => obtain ⟨σ', H', J, q⟩ := hs; exact ⟨V.non, H', J.os, J.bare, J.base, J.hok, rfl, q⟩
  | brk => obtain ⟨_, _, _, q⟩ := hs; exact q.elim
  | cont => obtain ⟨_, _, _, q⟩ := hs; exact q.elim
end
section
variable {X : Cx} {k : Nat} {f : Addr} {fd : FuncData} {ps : List Str} {sp : Addr → Value → Option Addr → Sp} {x : Str} {q pos : Pos} {e : Expr} {es : List Expr} {t : TA} {a : Addr} {oe : Obj} {cls : Value} {d : Option Addr}
theorem run_fnX {pins : List (Addr × Obj)} {σ : L2.St} {H : Hp} {s : Shared} {Q : VK} {us : List Value} {vs : List V} (hp : (a, oe) ∈ X.pn) (hz : Zc cls d oe) (hf : ∃ vs, oe.data = .fields vs) (F : FnX X.prog X.w X.K X.mg X.base k f fd ps sp) (hr : RoomH k X.A) (hb : Binds X.K fd ps []) (I : Inv X pins σ H s) (r : Vals vs us)
    (h : sp a cls d vs H Q E0) : wpAny (model X.prog X.w) X.A (call (.ref f) us) (EP X pins σ Q) X.xe s := by
  have hl : us.length = ps.length := by rw [← r.length]; exact F.len _ _ _ _ _ _ _ h
  have b := hb s us I.kIn (by rw [List.append_nil]; exact hl)
  rw [List.append_nil] at b
  obtain ⟨p1, p2, p3, p4, _⟩ := I.pin (a, oe) (List.mem_append_left _ hp)
  have p5 : a ∉ frs X.stack := by
    rcases I.ok.stk with z | ⟨z, hfr⟩
    · rw [z]; exact p4
    · rw [z]
      intro hm
      obtain ⟨en, hen, q⟩ := List.mem_filterMap.mp hm
      rcases List.mem_cons.mp hen with rfl | hen
      · rw [hfr] at q
        cases q
        exact p3 rfl
      · exact p4 (List.mem_filterMap.mpr ⟨en, hen, q⟩)
  refine wpAny_call (codeAny_mono (F.run X.A X.stack s H ⟨us, []⟩ us vs Q E0 a oe cls d hr I.env0 p1 p2 p5 hz hf b r h) fun r s' hq => ?_)
  cases r with
  | error e => exact False.elim hq
  | ok fl =>
    cases fl with
    | ret u => exact I.after hq
    | next => exact False.elim hq
    | brk => exact False.elim hq
    | cont => exact False.elim hq
def tCallX (a : Addr) (cls : Value) (d : Option Addr) (sp : Addr → Value → Option Addr → Sp) (t : TA) : TE := fun σ H Q => t σ H fun vs H1 => sp a cls d vs H1 Q E0
theorem pe_callX (F : FnX X.prog X.w X.K X.mg X.base k f fd ps sp) (hp : (a, oe) ∈ X.pn) (hz : Zc cls d oe) (hf : ∃ vs, oe.data = .fields vs) (hr : RoomH k X.A) (hg : Gl X x) (hm : X.mg x = some (.ref f)) (hk : PySem.W.keepIn X.K (.ref f) = true) (hb : Binds X.K fd ps []) (ha : PA X (e :: es) t)
    (hdb : (x == ("__debug__" : Str)) = false := by decide) (he : starEach (e :: es) X.env = (false, eval e X.env) :: starEach es X.env := by rfl) (hpl : (backTo pos (starEach es X.env)).any (·.1) = false := by rfl) :
    PE X (.Call (.Name x q) (e :: es) [] pos) (tCallX a cls d sp t) := by
  refine ⟨fun pins s σ H Q I h => wpAny_Call_Name_kw (ld_glob I hg hm ?_ hdb)⟩
  refine PySem.W.callWith_K (h₀ := X.base) I.ok.mod.kin hk (thn (ha.run pos pins s σ H _ I h) fun us s1 ⟨vs, H1, I1, r, q⟩ => ⟨I1.kIn, ?_⟩) he hpl
  exact run_fnX hp hz hf F hr hb I1 r q
/-- isinstance(e, c), e the handled exception -/
def rIsX (K : PySem.W.Frag) (a : Addr) (cls : Value) (d : Option Addr) : List V → Hp → VK → Prop := fun xs H Q => ∃ (D C : Addr) (b : Bool), xs = [.ref a, .ref C] ∧ cls = .ref D ∧ ExcC K D ∧ (d = none ∨ ∃ dd fs, d = some dd ∧ H dd = some (.xd fs)) ∧ PySem.W.kitOne K (.ref D) (.ref C) = some b ∧ Q (.bl b) H
theorem call_isX (hp : (a, oe) ∈ X.pn) (hz : Zc cls d oe) (hf : ∃ vs, oe.data = .fields vs) : CallR X (.builtin "isinstance") (rIsX X.K a cls d) := by
  intro pins s σ H xs us Q I r h
  obtain ⟨D, C, b, rfl, rfl, X0, hd, e, q⟩ := h
  cases r with
  | cons rx rr =>
    cases rr with
    | cons rt rr =>
      cases rr
      cases rx
      cases rt
      obtain ⟨hget, _⟩ := I.pin (a, oe) (List.mem_append_left _ hp)
      obtain ⟨vs, hv⟩ := hf
      have J : ∃ od, PySem.W.InstAt s.heap a oe D od := by
        rcases hd with rfl | ⟨dd, fs, rfl, hx⟩
        · exact ⟨none, hget, hz.1, by unfold PySem.W.notCls; rw [hv] <;> rfl, by rw [hz.2]; trivial⟩
        · have hx : ObjOk X.prog X.w H s.heap dd (.xd fs) := I.hok dd _ hx
          obtain ⟨mA, hns, hr⟩ := hx
          obtain ⟨od, ho, hl⟩ := lookIn_ns hns
          exact ⟨some od, hget, hz.1, by unfold PySem.W.notCls; rw [hv] <;> rfl, by rw [hz.2]; exact ho⟩
      obtain ⟨od, J⟩ := J
      have ic : (PySem.W.clsIn X.K D).isSome = true := by
        obtain ⟨cd, hc, _⟩ := PySem.W.any_some X0.hd
        rw [hc]; rfl
      exact PySem.W.kia_one (PySem.W.kitx_exc ic X0.hg X0.hk X0.hs X0.ha X0.hn X0.ht X0.hm) I.kIn J e (fun z => nomatch z) fun tk => ⟨.bl b, H, I.kept (t' := tk) fun _ _ z => z, rfl, q⟩
/-- e.f, e the handled exception -/
theorem pe_xfP {C : Addr} {e : Expr} {te : TE} {pos : Pos} {n : Str} (hp : (a, oe) ∈ X.pn) (T : XfC X.K C) (hno : PySem.W.findIn X.K (.ref C) n = some none)
    (hz : Zc cls d oe) (hf : ∃ vs, oe.data = .fields vs) (he : PE X e te) (hb : attributeBase e n X.env (eval e X.env) = eval e X.env := by rfl) : PE X (.Attribute e n pos) (tXf a cls d C n te) := by
  refine ⟨fun pins s σ H Q I h => ?_⟩
  refine attr_of hb (thn (he.run pins s σ H _ I h) fun u s1 hh => ?_)
  obtain ⟨x, H1, I1, rx, ex, ec, dd, fs, v, ed, ea, l, q⟩ := hh
  subst ex
  obtain rfl : u = Value.ref a := rx
  subst ec
  subst ed
  obtain ⟨ha, _⟩ := I1.pin (a, oe) (List.mem_append_left _ hp)
  obtain ⟨vs, hd⟩ := hf
  have hx : ObjOk X.prog X.w H1 s1.heap dd (.xd fs) := I1.hok dd _ ea
  obtain ⟨mA, hns, hr⟩ := hx
  obtain ⟨od, ho, hl⟩ := lookIn_ns hns
  obtain ⟨u, hu, ru⟩ := RelO.some_of (v := v) (o := mA n) (by rw [← l]; exact hr n)
  have J : PySem.W.InstAt s1.heap a oe C (some od) := ⟨ha, hz.1, by unfold PySem.W.notCls; rw [hd] <;> rfl, by rw [hz.2]; exact ho⟩
  exact HandSPX.exc_get I1.kIn J T.ga T.gg T.exC (PySem.W.findObj_own T.hdC hno rfl (by rw [hl, hu])) (handed_of ru) ⟨v, H1, I1.tok _, ru, q⟩
theorem kit_cls2 {K : PySem.W.Frag} {D C : Addr} {b : Bool} (ic : PySem.W.isClsIn K C = true) (it : PySem.W.typeIn K (.ref C) = some (.type "type")) (ne : D ≠ C) (sub : PySem.W.subIn K (.ref D) (.ref C) = some b) : PySem.W.kitOne K (.ref D) (.ref C) = some b := by
  unfold PySem.W.kitOne
  rw [if_neg (fun z => ne (Value.ref.inj (beq_iff_eq.mp z)))]
  show (if ((PySem.W.clsIn K C).isSome && PySem.W.typeIn K (.ref C) == some (.type "type")) = true then PySem.W.subIn K (.ref D) (.ref C) else none) = some b
  have h : (PySem.W.clsIn K C).isSome = true := ic
  rw [h, it, if_pos (by decide), sub]
end
end KW
namespace KW
open PySem L2
theorem sub_tuple {K : PySem.W.Frag} {C : Addr} : PySem.W.subIn K (.type "tuple") (.ref C) = some false := by
  have e : fastBuiltinMro "tuple" = some [.type "tuple", .type "object"] := by decide +kernel
  show (fastBuiltinMro "tuple").map (·.contains (.ref C)) = some false
  rw [e]
  simp
theorem toks_rep {K : PySem.W.Frag} {H : Hp} {z : Str} {tvs : List V} {ts : List (List V)} (h : Toks K H z tvs ts) : ∀ n : Nat, Toks K H z (List.replicate n tvs).flatten (List.replicate n ts).flatten
  | 0 => .nil
  | n + 1 => by
    rw [List.replicate_succ, List.replicate_succ, List.flatten_cons, List.flatten_cons]
    exact paired_app h (toks_rep h n)
theorem tsize_rep (ts : List (List V)) : ∀ n : Nat, tsize (List.replicate n ts).flatten = n * tsize ts
  | 0 => by rw [List.replicate_zero, List.flatten_nil, tsize_nil]; simp
  | n + 1 => by
    rw [List.replicate_succ, List.flatten_cons, tsize_app, tsize_rep ts n, Int.natCast_add, Int.add_mul]
    omega
theorem len_rep {α : Type} (ts : List α) : ∀ n : Nat, (List.replicate n ts).flatten.length = n * ts.length
  | 0 => by simp
  | n + 1 => by rw [List.replicate_succ, List.flatten_cons, List.length_append, len_rep ts n, Nat.add_mul]; omega
/-- two pieces joined, or more than can be: what a law keeps of it -/
def JoinAt (K : PySem.W.Frag) (C : Addr) (H : Hp) (v : V) (z : Str) (ts : List (List V)) : Prop :=
  (tsize ts ≤ 40 ∧ ∃ a, v = .ref a ∧ PieceAt K C H a z ts) ∨ (40 < tsize ts ∧ ∃ p, v = .ref p ∧ H p = some (.tup [.str "long", .int 40]))
theorem JoinAt.same {K : PySem.W.Frag} {C : Addr} {H H' : Hp} {v : V} {z : Str} {ts : List (List V)} (s : Same H H') (h : JoinAt K C H v z ts) : JoinAt K C H' v z ts := by
  rcases h with ⟨h1, a, rfl, h2⟩ | ⟨h1, p, rfl, h2⟩
  · exact .inl ⟨h1, a, rfl, h2.same s⟩
  · exact .inr ⟨h1, p, rfl, s _ _ h2⟩
end KW
namespace KW
open PySem PySem.Spec PyProof.Rows L2
open L2H (RoomH roomH_of)
section
variable {X : Cx} {k : Nat} {f : Addr} {fd : FuncData} {ps : List Str} {sp : Addr → Value → Option Addr → Sp} {x : Str} {q pos : Pos} {e : Expr} {es : List Expr} {t : TA} {a : Addr} {oe : Obj} {cls : Value} {d : Option Addr} {pn : List (Addr × Obj)}
/-- the same in an except suite -/
theorem call_isXs (hz : Zc cls d oe) (hf : ∃ vs, oe.data = .fields vs) : CallR (X.suite a ((a, oe) :: pn)) (.builtin "isinstance") (rIsX X.K a cls d) :=
  call_isX (X := X.suite a ((a, oe) :: pn)) List.mem_cons_self hz hf
theorem pe_callXs (F : FnX X.prog X.w X.K X.mg X.base k f fd ps sp) (hz : Zc cls d oe) (hf : ∃ vs, oe.data = .fields vs) (hr : RoomH k (X.suite a ((a, oe) :: pn)).A) (hg : Gl (X.suite a ((a, oe) :: pn)) x) (hm : X.mg x = some (.ref f)) (hk : PySem.W.keepIn X.K (.ref f) = true) (hb : Binds X.K fd ps []) (ha : PA (X.suite a ((a, oe) :: pn)) (e :: es) t)
    (hdb : (x == ("__debug__" : Str)) = false := by decide) (he : starEach (e :: es) X.env = (false, eval e X.env) :: starEach es X.env := by rfl) (hpl : (backTo pos (starEach es X.env)).any (·.1) = false := by rfl) :
    PE (X.suite a ((a, oe) :: pn)) (.Call (.Name x q) (e :: es) [] pos) (tCallX a cls d sp t) :=
  pe_callX (X := X.suite a ((a, oe) :: pn)) F List.mem_cons_self hz hf hr hg hm hk hb ha hdb he hpl
end
end KW
namespace KW
open PySem L2
theorem pl_long : Pl 64 1000000 (.tuple [.str ("long" : Str), .int 40]) :=
  (PlAll.cons ((Pl.str (w := 16) (by decide +kernel) (by decide +kernel)).mono (Nat.le_refl _) (Nat.le_refl _)) (.cons (Pl.int (by decide) (by decide)) .nil)).tuple.mono (by decide) (by decide)
theorem pl_unlike : Pl 64 1000000 (.list [.tuple [.str ("unlike" : Str)], .tuple [.str ("unlike" : Str)]]) := by
  have h : Pl 1 17 (.tuple [.str ("unlike" : Str)]) := (PlAll.cons (Pl.str (w := 16) (by decide +kernel) (by decide +kernel)) .nil).tuple
  exact (PlAll.cons h (.cons h .nil)).list.mono (by decide) (by decide)
end KW
namespace KW
open PySem L2
/-- the own lists of a piece are not D -/
def OffD (C : Addr) (H : Hp) (x D : Addr) : Prop := ∀ dx l p z, H x = some (.ins C dx (pf z l p)) → l ≠ D ∧ p ≠ D
theorem offD_same {K : PySem.W.Frag} {C : Addr} {H H' : Hp} {x D : Addr} {z : Str} {ts : List (List V)} (s : Same H H') (h : PieceAt K C H x z ts) (o : OffD C H x D) : OffD C H' x D := by
  intro dx l p w e
  obtain ⟨dx', l', p', e'⟩ := h.ins
  rw [s _ _ e'] at e
  have e := HO.ins.inj (Option.some.inj e)
  obtain ⟨rfl, rfl⟩ := pf_inj e.2.2
  exact o _ _ _ _ e'
theorem offD_put {K : PySem.W.Frag} {C : Addr} {H : Hp} {x D : Addr} {xs ys : List V} {z : Str} {ts : List (List V)} (hD : H D = some (.lst xs)) (h : PieceAt K C H x z ts) (o : OffD C H x D) : PieceAt K C (upd H D (.lst ys)) x z ts ∧ OffD C (upd H D (.lst ys)) x D := by
  obtain ⟨dx, l, p, tvs, pvs, ha, hl, htk, hp, hpl⟩ := h
  have hn := o _ _ _ _ ha
  have nx : x ≠ D := by
    intro e
    rw [e, hD] at ha
    cases ha
  refine ⟨⟨dx, l, p, tvs, pvs, upd_get nx ha, upd_get hn.1 hl, htk.put hD, upd_get hn.2 hp, hpl.put hD⟩, ?_⟩
  intro dx' l' p' w e
  rw [upd_ne nx] at e
  exact o _ _ _ _ e
theorem offD_new {C : Addr} {H H' : Hp} {x D : Addr} {o : HO} (h : NewIn C H H' x) (hD : H D = some o) : OffD C H' x D := fun dx l p z e => by
  obtain ⟨h1, h2⟩ := h dx l p z e
  exact ⟨(ne_of_none hD h1).symm, (ne_of_none hD h2).symm⟩
/-- a list of tokens that a piece can be made of -/
def LotAt (K : PySem.W.Frag) (H : Hp) (z : Str) (l : Addr) (ts : List (List V)) : Prop := ∃ tvs, H l = some (.lst tvs) ∧ Toks K H z tvs ts ∧ ts.length ≤ 21 ∧ 1 ≤ tsize ts ∧ tsize ts ≤ 40
theorem LotAt.same {K : PySem.W.Frag} {H H' : Hp} {z : Str} {l : Addr} {ts : List (List V)} (s : Same H H') (h : LotAt K H z l ts) : LotAt K H' z l ts := by
  obtain ⟨tvs, h1, h2, h3⟩ := h
  exact ⟨tvs, s _ _ h1, h2.same s, h3⟩
theorem LotAt.bag {K : PySem.W.Frag} {H H' : Hp} {b c : Addr} {z : Str} {l : Addr} {ts : List (List V)} (k : KeepB b H H') (hb : BagAt H b c) (n : l ≠ b) (h : LotAt K H z l ts) : LotAt K H' z l ts := by
  obtain ⟨tvs, h1, h2, h3⟩ := h
  exact ⟨tvs, k _ _ n h1, Toks.bag k hb h2, h3⟩
theorem LotAt.put {K : PySem.W.Frag} {H : Hp} {z : Str} {l D : Addr} {ts : List (List V)} {xs ys : List V} (hD : H D = some (.lst xs)) (n : l ≠ D) (h : LotAt K H z l ts) : LotAt K (upd H D (.lst ys)) z l ts := by
  obtain ⟨tvs, h1, h2, h3⟩ := h
  exact ⟨tvs, upd_get n h1, h2.put hD, h3⟩
theorem pl_lots {z : Str} (hz : SignsOk z) {tss : List (List (List V))} (h : ∀ ts ∈ tss, ts.length ≤ 21 ∧ ∀ t ∈ ts, tokV z t = true) (hn : tss.length ≤ 10) : Pl 64 1000000 (.list (tss.map fun ts => .list (ts.map tokD))) := by
  have a : PlAll 2 7440 (tss.map fun ts => PyData.list (ts.map tokD)) := .of fun d hd => by
    obtain ⟨ts, ht, rfl⟩ := List.mem_map.mp hd
    have q := h ts ht
    exact toks_pl60 hz q.2 (by omega)
  refine a.list.mono (by decide) ?_
  rw [List.length_map]
  have : tss.length * (7440 + 1) ≤ 10 * 7441 := Nat.mul_le_mul hn (Nat.le_refl _)
  omega
end KW

/-! Own operators beside an instance of another class; own subscripts; frames. -/
namespace KW
open PySem PySem.Spec PyProof.Rows L2
section
variable {prog : Program} {w : World} {A : Around} {E : Value → Shared → Prop} {s : Shared} {K : PySem.W.Frag} {x C C2 L f : Addr} {ox : Obj} {h₀ : Heap} {m : Str → Option Value} {od : Option Obj}
/-- a class without an operator's two names -/
structure NoOp (K : PySem.W.Frag) (C : Addr) (nm : String) : Prop where
  mro : ∃ cd, PySem.W.clsIn K C = some cd ∧ cd.mro = [.ref C, .type "object"]
  c1 : PySem.W.findIn K (.ref C) (PySem.dunder nm) = some none
  c2 : PySem.W.findIn K (.ref C) (dunderR nm) = some none
  o1 : PySem.W.findIn K (.type "object") (PySem.dunder nm) = some none
  o2 : PySem.W.findIn K (.type "object") (dunderR nm) = some none
theorem noOp_fills {M : Model} {h : Heap} {nm : String} (X : K.In h) (n : NoOp K C nm) : PySem.W.Looks M h (fillsNumberSlot (.ref C) nm) false := by
  obtain ⟨cd, hc, hm⟩ := n.mro
  intro A Q E s k q
  obtain ⟨hh, g, d, tt, os⟩ := s
  have X' : K.In hh := X.keeps k
  unfold fillsNumberSlot
  refine wpAny_bind ((PySem.W.looks_clsIn X hc).andThen (f := fun cd => pure cd.mro) .now A _ E ⟨hh, g, d, tt, os⟩ k ?_)
  have a1 : PySem.W.Looks M hh (typeLookup (.ref C) (PySem.dunder nm)) none := PySem.W.looks_findIn X' n.c1
  have a2 : PySem.W.Looks M hh (typeLookup (.ref C) (dunderR nm)) none := PySem.W.looks_findIn X' n.c2
  have b1 : PySem.W.Looks M hh (typeLookup (.type "object") (PySem.dunder nm)) none := PySem.W.looks_findIn X' n.o1
  have b2 : PySem.W.Looks M hh (typeLookup (.type "object") (dunderR nm)) none := PySem.W.looks_findIn X' n.o2
  rw [hm]
  simp only [List.anyM_cons, List.anyM_nil]
  repeat lk
  exact q
theorem ksp_binD {op : Operator} {b : Value} {Q : Value → Shared → Prop} (F : Fr h₀ L s.heap m) (X₀ : K.In h₀) (I : PySem.W.InstAt s.heap x ox C od) (hb : PySem.W.Looks (model prog w) s.heap (typeOf b) (.ref C2)) (hne : C ≠ C2) (hc : PySem.W.selfFirst K C = true)
    (hs : PySem.W.findIn K (.ref C) (PySem.dunder op.info.2) = some (some (.ref f))) (hf : PySem.W.isFn K (.ref f) = true) (no : NoOp K C2 op.info.2)
    (h : wpAny (model prog w) A (call (.ref f) [.ref x, b]) (PySem.W.CmpBack Q) E s) : wpAny (model prog w) A (binaryOp op (.ref x) b) Q E s := by
  have X := X₀.keeps F.keep
  obtain ⟨cd, rest, hcd, hm⟩ := PySem.W.ksp_first hc
  rcases hi : op.info with ⟨sym, nm'⟩
  rw [hi] at hs no
  dsimp only at hs no
  have one := PySem.W.ksp_try (A := A) (E := E) X I hs hf h
  obtain ⟨hh, g, d, tt, os⟩ := s
  have L1 : PySem.W.Looks (model prog w) hh (typeOf (.ref x)) (.ref C) := I.type
  have L2 : PySem.W.Looks (model prog w) hh (typeOf b) (.ref C2) := hb
  have L3 : PySem.W.Looks (model prog w) hh (fillsNumberSlot (.ref C) nm') true := PySem.W.fills_K X hcd hm hs
  have L4 : PySem.W.Looks (model prog w) hh (fillsNumberSlot (.ref C2) nm') false := noOp_fills X no
  have hne : (Value.ref C == Value.ref C2) = false := Bool.eq_false_iff.mpr fun q => hne (Value.ref.inj (beq_iff_eq.mp q))
  simp only [binaryOp, hi]
  refine wpAny_holding (wpAny_bind ?_)
  unfold binaryOp1
  refine wpAny_bind (L1.at (wpAny_bind (L2.at (wpAny_bind (L3.at ?_)))))
  simp only [hne, Bool.false_eq_true, if_false]
  repeat ((fail_if_success (with_reducible show wpAny _ _ (tryMethod _ _ _) _ _ _)); lk)
  refine wpAny_mono one (fun r s' hr' => ?_) fun _ _ e => e
  obtain ⟨v, rfl, hq⟩ := hr'
  repeat ((fail_if_success (with_reducible show wpAny _ _ (tryMethod _ _ _) _ _ _)); lk)
  exact hq
end
section
variable {X : Cx} {CX : CXT} {k : Nat} {f C C2 : Addr} {fd : FuncData} {ps : List Str} {sp : Sp} {E : L2.St → XK} {nm : String} {op : Operator} {a b : Expr} {ta tb : TE} {pos : Pos}
/-- a def that may raise, run below the walked body -/
theorem run_fnSA (F : FnOk X.prog X.w X.K X.mg X.base CX k f fd ps sp) {A' : Around} (same : A'.frames = X.A.frames) (hr : Room k A') (hb : L2.Binds X.K fd ps []) {σ : L2.St} (hx : PassesAt CX X σ (E σ))
    {pins : List (Addr × Obj)} {s : Shared} {H : Hp} {vs : List V} {us : List Value} {Q : VK} (I : Inv X pins σ H s) (r : Vals vs us) (h : sp vs H Q (E σ)) :
    wpAny (model X.prog X.w) A' (call (.ref f) us) (EP X pins σ Q) X.xe s := by
  have eq0 : us ++ [] = us := List.append_nil us
  have bound := hb s us I.kIn (by rw [eq0, ← r.length]; exact F.len _ _ _ _ h)
  rw [eq0] at bound
  have e := I.env0
  have env : Env0 X.prog X.w X.K X.mg X.base A' X.stack s H :=
    { frames := same.trans e.frames, mod := e.mod, bs := e.bs, bsz := e.bsz, funs := e.funs, frf := e.frf, hok := e.hok, bare := e.bare }
  refine wpAny_call (codeAny_mono (F.run A' X.stack s H ⟨us, []⟩ us vs Q (E σ) hr env bound r h) fun z s' q => ?_)
  cases z with
  | error e => exact hx pins H s e s' I q
  | ok fl =>
    cases fl with
    | ret u => exact I.after q
    | next => exact False.elim q
    | brk => exact False.elim q
    | cont => exact False.elim q
/-- an own operator -/
structure DOp (K : PySem.W.Frag) (C f : Addr) (nm : String) : Prop where
  first : PySem.W.selfFirst K C = true
  at_ : PySem.W.findIn K (.ref C) (PySem.dunder nm) = some (some (.ref f))
  fn : PySem.W.isFn K (.ref f) = true
/-- x op y, y an instance of another class -/
def tDiffT (C C2 : Addr) (sp : Sp) (E : L2.St → XK) (ta tb : TE) : TE := fun σ H Q => ta σ H fun x H1 => tb σ H1 fun y H2 => ∃ a b dx dy fs gs, x = .ref a ∧ y = .ref b ∧ H2 a = some (.ins C dx fs) ∧ H2 b = some (.ins C2 dy gs) ∧ sp [.ref a, .ref b] H2 Q (E σ)
theorem pe_diffT (F : FnOk X.prog X.w X.K X.mg X.base CX k f fd ps sp) (hr : Room k X.A) (hop : op.info.2 = nm) (o : DOp X.K C f nm) (ne : C ≠ C2) (no : NoOp X.K C2 nm)
    (hb : L2.Binds X.K fd ps []) (hx : ∀ σ, PassesAt CX X σ (E σ)) (ha : PE X a ta) (hbb : PE X b tb) :
    PE X (.BinOp a op b pos) (tDiffT C C2 sp E ta tb) := by
  refine ⟨fun pins s σ H Q I h => wpAny_BinOp (binT ha hbb I (R := fun x y H2 => ∃ a b dx dy fs gs, x = .ref a ∧ y = .ref b ∧ H2 a = some (.ins C dx fs) ∧ H2 b = some (.ins C2 dy gs) ∧ sp [.ref a, .ref b] H2 Q (E σ)) h fun v u s2 x y H2 I2 rx ry q => ?_)⟩
  obtain ⟨a, b, dx, dy, fs, gs, rfl, rfl, ha, hb', h⟩ := q
  obtain rfl : v = Value.ref a := rx
  obtain rfl : u = Value.ref b := ry
  obtain ⟨mA, J, _⟩ := ins_get I2.hok ha
  obtain ⟨od, J, _⟩ := J.look
  obtain ⟨mB, J', _⟩ := ins_get I2.hok hb'
  obtain ⟨od', J', _⟩ := J'.look
  obtain ⟨m, hF⟩ := I2.fr
  subst hop
  refine ksp_binD hF I2.ok.mod.kin J J'.type ne o.first o.at_ o.fn no ?_
  exact wpAny_mono (run_fnS (vs := [.ref a, .ref b]) F hr hb (hx σ) I2 (.cons rfl (.cons rfl .nil)) h) (fun v s' q => back_of q) fun _ _ z => z
/-- x[i] by x's own def -/
def tGetT (C : Addr) (sp : Sp) (E : L2.St → XK) (ta tb : TE) : TE := fun σ H Q => ta σ H fun x H1 => tb σ H1 fun y H2 => ∃ a dx fs, x = .ref a ∧ H2 a = some (.ins C dx fs) ∧ sp [.ref a, y] H2 Q (E σ)
theorem pe_getT (F : FnOk X.prog X.w X.K X.mg X.base CX k f fd ps sp) (hr : Room (k + 1) X.A) (at_ : PySem.W.findIn X.K (.ref C) "__getitem__" = some (some (.ref f))) (fn : PySem.W.isFn X.K (.ref f) = true) (fi : PySem.W.fnIn X.K f = true)
    (hb : L2.Binds X.K fd ps []) (hx : ∀ σ, PassesAt CX X σ (E σ)) (ha : PE X a ta) (hbb : PE X b tb)
    (hsl : ∀ (x : Addr) (i : Value), subscripted b true (.ref x) i = runValue (.builtin "lifetime.subscript" ⟨[.ref x, i], []⟩) := by intro _ _; with_unfolding_all rfl) :
    PE X (.Subscript a b pos) (tGetT C sp E ta tb) := by
  refine ⟨fun pins s σ H Q I h => Subscript_ (binT ha hbb I (R := fun x y H2 => ∃ a dx fs, x = .ref a ∧ H2 a = some (.ins C dx fs) ∧ sp [.ref a, y] H2 Q (E σ)) h fun v u s2 x y H2 I2 rx ry q => ?_)⟩
  obtain ⟨a, dx, fs, rfl, ha, h⟩ := q
  obtain rfl : v = Value.ref a := rx
  obtain ⟨mA, J, _⟩ := ins_get I2.hok ha
  obtain ⟨od, J, _⟩ := J.look
  obtain ⟨m, hF⟩ := I2.fr
  exact PySem.W.sub_K hF I2.ok.mod.kin J at_ fi fn (run_fnSA (vs := [.ref a, y]) (A' := X.A.in1) F rfl hr.in1 hb (hx σ) I2 (.cons rfl (.cons ry .nil)) h) (hsl _ _)
end
section
variable {X : Cx} {k : Nat} {f C : Addr} {fd : FuncData} {ps : List Str} {sp : Sp} {E : XK}
/-- x == y by x's own def, y a list or an int -/
theorem op_eqOwnB (F : FnG X.prog X.w X.K X.mg X.base k f fd ps sp) (hr : RoomG (k + 1) X.A) (at_ : PySem.W.findIn X.K (.ref C) "__eq__" = some (some (.ref f))) (fn : PySem.W.isFn X.K (.ref f) = true) (hb : L2.Binds X.K fd ps []) (hx : Passes CX0 X E) :
    OpR X (compareOp .Eq) (fun x y H Q => ∃ a dx fs, x = .ref a ∧ H a = some (.ins C dx fs) ∧ ((∃ n, y = .int n) ∨ ∃ l xs, y = .ref l ∧ H l = some (.lst xs)) ∧ sp [.ref a, y] H (fun v H' => ∃ r : Bool, v = .bl r ∧ Q (.bl r) H') E) := by
  intro pins s σ H x y v u Q I rx ry h
  obtain ⟨a, dx, fs, rfl, ha, hy, h⟩ := h
  obtain rfl : v = Value.ref a := rx
  obtain ⟨mA, J, _⟩ := ins_get I.hok ha
  obtain ⟨od, J, _⟩ := J.look
  obtain ⟨m, hF⟩ := I.fr
  have small : X.A.units < cLine := by have := hr.room.un; omega
  have typed : ∃ T, PySem.W.Looks (model X.prog X.w) s.heap (typeOf u) (.type T) ∧ PySem.W.subIn X.K (.type T) (.ref C) = some false := by
    rcases hy with ⟨n, rfl⟩ | ⟨l, xs, rfl, hl⟩
    · obtain ⟨t, rfl⟩ := ry
      exact ⟨"int", .of_pure rfl, by
        have e : fastBuiltinMro "int" = some [.type "int", .type "object"] := by decide +kernel
        show (fastBuiltinMro "int").map (·.contains (.ref C)) = some false
        rw [e]
        simp⟩
    · obtain rfl : u = Value.ref l := ry
      obtain ⟨_, its, n, _, _, e⟩ := I.lstM hl
      exact ⟨"list", fun A Q E s k q => wpAny_typeOf_ref (k _ _ e) q, sub_list⟩
  obtain ⟨T, hT, sub⟩ := typed
  show wpAny (model X.prog X.w) X.A (richCompare .Eq (.ref a) u) (EP X pins σ Q) X.xe s
  refine PySem.W.cmp_K (op := .Eq) (tb := .type T) small hF I.ok.mod.kin J hT (by unfold PySem.W.notFirst; rw [sub]; simp) at_ fn ?_
  refine wpAny_mono (run_below F (A' := X.A) rfl (hr.mono (Nat.le_succ _)) hb hx I (xs := [.ref a, y]) (.cons rfl (.cons ry .nil)) h) (fun v s' q => ?_) fun _ _ z => z
  obtain ⟨y, H', I', ry, r, rfl, q⟩ := q
  obtain rfl := ry
  exact ⟨.bl r, H', I', rfl, q⟩
end
end KW

/-! Frames: their roots and holes, and what a piece makes of them. -/
namespace KW
open PySem L2
def frF (l h : Addr) : List (Str × V) := putF "_holes" (.ref h) (putF "_roots" (.ref l) [])
theorem nrh : ¬ (("_roots" : Str) = "_holes") := by decide +kernel
theorem frF_roots (l h : Addr) : (frF l h).lookup ("_roots" : Str) = some (.ref l) := by
  unfold frF
  rw [lookup_putF, if_neg nrh, lookup_putF, if_pos rfl]
theorem frF_holes (l h : Addr) : (frF l h).lookup ("_holes" : Str) = some (.ref h) := by
  unfold frF
  rw [lookup_putF, if_pos rfl]
theorem frF_no (l h : Addr) {m : Str} (h1 : ¬ m = "_roots") (h2 : ¬ m = "_holes") : (frF l h).lookup m = none := by
  unfold frF
  rw [lookup_putF, if_neg h2, lookup_putF, if_neg h1]
  rfl
theorem frF_putR (l h l' : Addr) : putF "_roots" (.ref l') (frF l h) = frF l' h := by
  have n1 := nrh
  have n2 : ¬ (("_holes" : Str) = "_roots") := fun e => nrh e.symm
  simp [frF, putF, n1, n2]
theorem frF_putH (l h h' : Addr) : putF "_holes" (.ref h') (frF l h) = frF l h' := by
  have n1 := nrh
  simp [frF, putF, n1]
theorem frF_len (l h : Addr) : (frF l h).length < 1000 := by
  have n1 := nrh
  simp [frF, putF, n1]
/-- a frame in the heap: its roots, its holes -/
def FrameAt (K : PySem.W.Frag) (C : Addr) (H : Hp) (a : Addr) (R : List (List V)) (Hs : List V) : Prop :=
  ∃ (dx l h : Addr) (rvs : List V), H a = some (.ins C dx (frF l h)) ∧ H l = some (.lst rvs) ∧ Plcs K H rvs R ∧ H h = some (.lst Hs)
theorem FrameAt.same {K : PySem.W.Frag} {C : Addr} {H H' : Hp} {a : Addr} {R : List (List V)} {Hs : List V} (s : Same H H') (h : FrameAt K C H a R Hs) : FrameAt K C H' a R Hs := by
  obtain ⟨dx, l, q, rvs, h1, h2, h3, h4⟩ := h
  exact ⟨dx, l, q, rvs, s _ _ h1, s _ _ h2, h3.same s, s _ _ h4⟩
theorem FrameAt.ins {K : PySem.W.Frag} {C : Addr} {H : Hp} {a : Addr} {R : List (List V)} {Hs : List V} (h : FrameAt K C H a R Hs) : ∃ dx l q, H a = some (.ins C dx (frF l q)) := by
  obtain ⟨dx, l, q, rvs, h1, _⟩ := h
  exact ⟨dx, l, q, h1⟩
/-- a root of a frame of width w, its hole's number at most m -/
inductive RootW (w : Nat) (m : Int) : List V → Prop where
  | sign {s : Str} : RootOk [.str "sign", .str s] → RootW w m [.str "sign", .str s]
  | hole {n : Int} : 0 ≤ n → n ≤ m → RootW w m [.str "hole", .int n]
  | slot {n : Int} : 1 ≤ n → n ≤ w → RootW w m [.str "slot", .int n]
theorem RootW.mono {w : Nat} {m m' : Int} {r : List V} (h : RootW w m r) (hm : m ≤ m') : RootW w m' r := by
  cases h with
  | sign h => exact .sign h
  | hole h1 h2 => exact .hole h1 (by omega)
  | slot h1 h2 => exact .slot h1 h2
theorem RootW.ok {w : Nat} {m : Int} {r : List V} (h : RootW w m r) (hw : w ≤ 13) (hm : m ≤ 1000) : RootOk r := by
  cases h with
  | sign h => exact h
  | hole h1 h2 => exact num_ok (.inl rfl) h1 (by omega)
  | slot h1 h2 => exact slot_ok (by omega) (by omega)
/-- a root of a piece's text, seen behind a frame -/
def rootHere (R : List (List V)) (nh : Int) : List V → List V
  | [.str k, .int n] => if k = "slot" then R.getD (n - 1).toNat [] else if k = "hole" then [.str "hole", .int (n + nh)] else [.str k, .int n]
  | r => r
theorem rootHere_slot {R : List (List V)} {nh n : Int} : rootHere R nh [.str "slot", .int n] = R.getD (n - 1).toNat [] := by
  simp [rootHere]
theorem rootHere_hole {R : List (List V)} {nh n : Int} : rootHere R nh [.str "hole", .int n] = [.str "hole", .int (n + nh)] := by
  have h : ¬ ("hole" : Str) = "slot" := by decide +kernel
  simp [rootHere, h]
theorem rootHere_sign {R : List (List V)} {nh : Int} {s : Str} : rootHere R nh [.str "sign", .str s] = [.str "sign", .str s] := rfl
theorem rootHere_w {w : Nat} {R : List (List V)} {nh m m' m0 : Int} {r : List V} (hR : ∀ r ∈ R, RootW w m0 r) (hw : R.length = w) (h : RootW w m r) (h0 : 0 ≤ nh) (hm : m + nh ≤ m') (hm0 : m0 ≤ m') : RootW w m' (rootHere R nh r) := by
  cases h with
  | sign h => exact .sign h
  | hole h1 h2 => rw [rootHere_hole]; exact .hole (by omega) (by omega)
  | slot h1 h2 =>
    rw [rootHere_slot, List.getD_eq_getElem?_getD]
    have hj : (‹Int› - 1).toNat < R.length := by omega
    rw [List.getElem?_eq_getElem hj]
    exact (hR _ (List.getElem_mem hj)).mono (by omega)
/-- the distances beyond a width, in the order of the places -/
def farL (w : Int) (ps : List (List V)) : List Int := ps.filterMap fun p => match p with
  | [.str k, .int d] => if (k = "copy" ∨ k = "say") ∧ w < d then some d else none
  | _ => none
theorem farL_cons_far {w d : Int} {k : Str} {ps : List (List V)} (hk : k = "copy" ∨ k = "say") (h : w < d) : farL w ([.str k, .int d] :: ps) = d :: farL w ps := by
  unfold farL
  rw [List.filterMap_cons_some]
  show (if _ then some d else none) = _
  rw [if_pos ⟨hk, h⟩]
theorem farL_cons_near {w d : Int} {k : Str} {ps : List (List V)} (h : ¬ w < d) : farL w ([.str k, .int d] :: ps) = farL w ps := by
  unfold farL
  rw [List.filterMap_cons_none]
  show (if _ then some d else none) = _
  rw [if_neg fun q => h q.2]
theorem farL_cons_str {w : Int} {k y : Str} {ps : List (List V)} : farL w ([.str k, .str y] :: ps) = farL w ps := by
  unfold farL
  rw [List.filterMap_cons_none]
  rfl
theorem back_w {w : Nat} {m : Int} {acc : List (List V)} {d : Int} (ha : ∀ r ∈ acc, RootW w m r) (h0 : 1 ≤ d) (h1 : d ≤ w) : RootW w m (rootBack acc (.int d)) := by
  show RootW w m (if d ≤ (acc.length : Int) then _ else _)
  by_cases h : d ≤ (acc.length : Int)
  · rw [if_pos h]
    have hj : acc.length - d.toNat < acc.length := by omega
    rw [List.getD_eq_getElem?_getD, List.getElem?_eq_getElem hj]
    exact ha _ (List.getElem_mem hj)
  · rw [if_neg h]
    exact .slot (by omega) (by omega)
theorem rootsA_w {z : Str} {w : Nat} {m : Int} (hz : SignsOk z) : ∀ (ps : List (List V)) (many : Int) (acc : List (List V)), (∀ p ∈ ps, PlOk z p) → farL w ps = [] → (∀ r ∈ acc, RootW w m r) → 0 ≤ many → many + ps.length ≤ m →
    (∀ r ∈ rootsA true ps many acc, RootW w m r) ∧ (rootsA true ps many acc).length = acc.length + ps.length
  | [], many, acc, _, _, ha, _, _ => ⟨ha, rfl⟩
  | p :: ps, many, acc, hp, hf, ha, m0, m1 => by
    have hr : ∀ q ∈ ps, PlOk z q := fun q hq => hp q (List.mem_cons_of_mem _ hq)
    rw [List.length_cons] at m1 ⊢
    have step : ∀ (r : List V) (n : Int), farL w ps = [] → RootW w m r → 0 ≤ n → n ≤ many + 1 → (∀ r' ∈ rootsA true ps n (acc ++ [r]), RootW w m r') ∧ (rootsA true ps n (acc ++ [r])).length = acc.length + (ps.length + 1) := fun r n hf h h0 h1 => by
      have ih := rootsA_w hz ps n (acc ++ [r]) hr hf (fun r' hr' => by
        rcases List.mem_append.mp hr' with q | q
        · exact ha r' q
        · rw [List.mem_singleton.mp q]; exact h) h0 (by omega)
      refine ⟨ih.1, ?_⟩
      rw [ih.2, List.length_append, List.length_singleton]
      omega
    have po := hp p List.mem_cons_self
    cases po with
    | sign hc => rw [rootsA_sign]; rw [farL_cons_str] at hf; exact step _ _ hf (.sign (sign_ok hz hc)) m0 (by omega)
    | hole hc => rw [rootsA_hole]; rw [farL_cons_str] at hf; exact step _ _ hf (.hole m0 (by omega)) (by omega) (by omega)
    | @copy d h1 h2 =>
      have near : ¬ (w : Int) < d := fun q => by rw [farL_cons_far (.inl rfl) q] at hf; cases hf
      rw [farL_cons_near near] at hf
      rw [rootsA_copy]; exact step _ _ hf (back_w ha h1 (by omega)) m0 (by omega)
    | @say d h1 h2 =>
      have near : ¬ (w : Int) < d := fun q => by rw [farL_cons_far (.inr rfl) q] at hf; cases hf
      rw [farL_cons_near near] at hf
      rw [rootsA_say]; exact step _ _ hf (back_w ha h1 (by omega)) m0 (by omega)
theorem rootsL_w {z : Str} {w : Nat} {ts : List (List V)} (hz : SignsOk z) (h : ∀ t ∈ ts, tokV z t = true) (hs : tsize ts ≤ 40) (hf : farL w (placesL ts) = []) : (∀ r ∈ rootsL true (placesL ts), RootW w 40 r) ∧ (rootsL true (placesL ts)).length = (placesL ts).length := by
  have hl := places_len h
  have := rootsA_w (w := w) (m := 40) hz (placesL ts) 0 [] (plOk_of h) hf (fun r h => nomatch h) (by decide) (by omega)
  unfold rootsL
  simpa using this
/-- a frame behind a piece -/
def frameR (R : List (List V)) (nh : Int) (ps : List (List V)) : List (List V) := (((rootsL true ps).map (rootHere R nh)).reverse ++ R).take R.length
theorem frameR_len (R : List (List V)) (nh : Int) (ps : List (List V)) : (frameR R nh ps).length = R.length := by
  unfold frameR
  rw [List.length_take, List.length_append]
  omega
theorem frameR_w {z : Str} {ts : List (List V)} {R : List (List V)} {nh m0 : Int} (hz : SignsOk z) (h : ∀ t ∈ ts, tokV z t = true) (hs : tsize ts ≤ 40) (hR : ∀ r ∈ R, RootW R.length m0 r) (h0 : 0 ≤ nh) (hm0 : nh ≤ m0) (hf : farL R.length (placesL ts) = []) :
    ∀ r ∈ frameR R nh (placesL ts), RootW R.length (m0 + 40) r := by
  intro r hr
  have hr := List.mem_of_mem_take hr
  rcases List.mem_append.mp hr with q | q
  · obtain ⟨y, hy, rfl⟩ := List.mem_map.mp (List.mem_reverse.mp q)
    exact rootHere_w hR rfl ((rootsL_w hz h hs hf).1 y hy) h0 (by omega) (by omega)
  · exact (hR r q).mono (by omega)
/-- the first roots of a frame -/
def slotsL (w : Nat) : List (List V) := (List.range w).map fun (i : Nat) => [V.str "slot", V.int (1 + (i : Int))]
theorem slotsL_len (w : Nat) : (slotsL w).length = w := by unfold slotsL; simp
theorem slotsL_w (w : Nat) : ∀ r ∈ slotsL w, RootW w 0 r := by
  intro r hr
  obtain ⟨i, hi, rfl⟩ := List.mem_map.mp hr
  have := List.mem_range.mp hi
  exact .slot (by omega) (by omega)
end KW
namespace KW
open PySem L2
theorem plcs_at {K : PySem.W.Frag} {H : Hp} {rvs : List V} {R : List (List V)} (h : Plcs K H rvs R) {n : Int} (h0 : 0 ≤ n) (h1 : n < (R.length : Int)) : ∃ v, atI rvs n = some v ∧ TupAt K H v (R.getD n.toNat []) := by
  have hlen := paired_len h
  have hj : n.toNat < rvs.length := by omega
  obtain ⟨w, hw⟩ : ∃ w, rvs[n.toNat]? = some w := ⟨_, List.getElem?_eq_getElem hj⟩
  obtain ⟨r, hr2, ht⟩ := paired_get h hw
  refine ⟨w, ?_, ?_⟩
  · unfold atI ixN
    rw [if_pos (by omega), if_pos (by omega)]
    exact hw
  · rw [List.getD_eq_getElem?_getD, hr2]
    exact ht
theorem slotsL_succ (w : Nat) : slotsL (w + 1) = slotsL w ++ [[.str "slot", .int (1 + (w : Int))]] := by
  unfold slotsL
  rw [List.range_succ, List.map_append]
  rfl
end KW
namespace KW
open PySem L2
theorem cutV_take {xs : List V} {n : Nat} : cutV xs none (some (n : Int)) = xs.take n := by
  unfold cutV
  have e0 : HT.sIx xs.length 0 none = 0 := rfl
  have e1 : HT.sIx xs.length xs.length (some (n : Int)) = min n xs.length := HT.sIx_nat _ _ _
  rw [e0, e1, List.drop_zero, Nat.sub_zero]
  by_cases h : n ≤ xs.length
  · rw [Nat.min_eq_left h]
  · rw [Nat.min_eq_right (by omega), List.take_length, List.take_of_length_le (by omega)]
theorem paired_reverse {α β : Type} {F : α → β → Prop} : ∀ {l : List α} {m : List β}, Paired F l m → Paired F l.reverse m.reverse
  | _, _, .nil => .nil
  | _, _, .cons h t => by
    rw [List.reverse_cons, List.reverse_cons]
    exact paired_app (paired_reverse t) (paired_one h)
end KW
namespace KW
open PySem L2
theorem dps_strs {K : PySem.W.Frag} {H : Hp} : ∀ (ys : List Str), DpAll K H (ys.map V.str) (ys.map PyData.str)
  | [] => .nil
  | _ :: ys => .cons (.str _) (dps_strs ys)
theorem pl_strs {ys : List Str} (h : ∀ y ∈ ys, PyData.strOk y = true ∧ y.length ≤ 40) (hn : ys.length ≤ 600) : Pl 1 24600 (.list (ys.map PyData.str)) := by
  have a : PlAll 0 40 (ys.map PyData.str) := .of fun d hd => by
    obtain ⟨y, hy, rfl⟩ := List.mem_map.mp hd
    exact Pl.str (h y hy).1 (h y hy).2
  refine a.list.mono (Nat.le_refl _) ?_
  rw [List.length_map]
  have : ys.length * (40 + 1) ≤ 600 * 41 := Nat.mul_le_mul hn (Nat.le_refl _)
  omega
/-- the roots and the holes of a frame, as data -/
def frameD (R : List (List V)) (ys : List Str) : PyData := .list [.list (R.map tokD), .list (ys.map PyData.str)]
theorem frameD_pl {R : List (List V)} {ys : List Str} (ok : ∀ r ∈ R, RootOk r) (hR : R.length ≤ 40) (h : ∀ y ∈ ys, PyData.strOk y = true ∧ y.length ≤ 40) (hn : ys.length ≤ 600) : Pl 64 1000000 (frameD R ys) :=
  (PlAll.cons ((roots_pl ok hR).mono (Nat.le_refl _) (show 3320 ≤ 24600 by decide)) (.cons ((pl_strs h hn).mono (by decide) (Nat.le_refl _)) .nil)).list.mono (by decide) (Nat.le_of_ble_eq_true rfl)
/-- what no frame of width w has at its places -/
def oddD (w : Nat) : List PyData := [.int 0, .int (-1), .int ((w : Int) + 1), .bool true, .none, .str "1", .tuple [.int 1], .int (10 ^ 39), .list [.int 1]]
def noneD (d : PyData) : PyData := .tuple [.str "none", d]
theorem oddD_lay (w : Nat) : (PyData.list ((oddD w).map noneD)).canLay0 = true ∧ SeqAt.shaped (.list ((oddD w).map noneD)) = true := by
  have h1 : PyData.strOk ("none" : Str) = true := by decide +kernel
  have h2 : PyData.strOk ("1" : Str) = true := by decide +kernel
  constructor
  · simp [oddD, noneD, PyData.canLay0, PyData.canLayAll0, h1, h2]
  · simp [SeqAt.shaped, oddD, noneD, PyData.canLay0, PyData.canLayAll0, h1, h2, PyData.depth, PyData.depthAll]
end KW
namespace KW
open PySem L2
theorem dps_none {K : PySem.W.Frag} {H : Hp} : ∀ {gvs xs : List V} {ds : List PyData}, Paired (fun v x => ∃ q, v = V.ref q ∧ H q = some (.tup [.str "none", x])) gvs xs → Paired (fun x d => Dp K H x d) xs ds → DpAll K H gvs (ds.map noneD)
  | _, _, _, .nil, .nil => .nil
  | _, _, _, .cons ⟨q, e, h⟩ t, .cons h2 t2 => by
    subst e
    exact .cons (.tup (SqT.of h) (.cons (.str _) (.cons h2 .nil))) (dps_none t t2)
end KW

/-! Texts joined by a sign and split at it again; numbers told and read. -/
namespace KW
open PySem PySem.Spec PyProof.Rows L2
/-- a text of one sign -/
abbrev chS (c : Nat) : Str := ⟨#[c]⟩
theorem join_cons2 (s x y : Str) (r : List Str) : Str.join s (x :: y :: r) = x ++ s ++ Str.join s (y :: r) := rfl
theorem cl_ext {x y : Str} (h : cl x = cl y) : x = y := by
  obtain ⟨⟨x⟩⟩ := x
  obtain ⟨⟨y⟩⟩ := y
  have : x = y := h
  rw [this]
theorem split_at {c : Nat} : ∀ {a b x y : List Nat}, c ∉ a → c ∉ b → a ++ c :: x = b ++ c :: y → a = b ∧ x = y
  | [], [], _, _, _, _, h => ⟨rfl, (List.cons.inj h).2⟩
  | [], b :: bs, _, _, _, hb, h => absurd ((List.cons.inj h).1 ▸ List.mem_cons_self) hb
  | a :: as, [], _, _, ha, _, h => absurd ((List.cons.inj h).1.symm ▸ List.mem_cons_self) ha
  | a :: as, b :: bs, _, _, ha, hb, h => by
    obtain ⟨e, h⟩ := List.cons.inj h
    obtain ⟨e2, e3⟩ := split_at (fun q => ha (List.mem_cons_of_mem _ q)) (fun q => hb (List.mem_cons_of_mem _ q)) h
    exact ⟨by rw [e, e2], e3⟩
/-- texts without the sign are known from their join -/
theorem join_inj {c : Nat} : ∀ {ws us : List Str}, ws ≠ [] → us ≠ [] → (∀ w ∈ ws, c ∉ cl w) → (∀ u ∈ us, c ∉ cl u) → Str.join (chS c) ws = Str.join (chS c) us → ws = us
  | [], _, h, _, _, _, _ => absurd rfl h
  | _, [], _, h, _, _, _ => absurd rfl h
  | [x], [y], _, _, _, _, h => by
    have h : x = y := h
    rw [h]
  | [x], y :: z :: r, _, _, hx, _, h => by
    rw [join_cons2] at h
    have h : x = y ++ chS c ++ Str.join (chS c) (z :: r) := h
    have : c ∈ cl x := by
      rw [h, cl_app, cl_app]
      exact List.mem_append_left _ (List.mem_append_right _ (List.mem_singleton.mpr rfl))
    exact absurd this (hx x List.mem_cons_self)
  | x :: z :: r, [y], _, _, _, hy, h => by
    rw [join_cons2] at h
    have h : x ++ chS c ++ Str.join (chS c) (z :: r) = y := h
    have : c ∈ cl y := by
      rw [← h, cl_app, cl_app]
      exact List.mem_append_left _ (List.mem_append_right _ (List.mem_singleton.mpr rfl))
    exact absurd this (hy y List.mem_cons_self)
  | x :: x2 :: r, y :: y2 :: s, _, _, hx, hy, h => by
    rw [join_cons2, join_cons2] at h
    have h2 := congrArg cl h
    rw [cl_app, cl_app, cl_app, cl_app] at h2
    have h2 : cl x ++ [c] ++ cl (Str.join (chS c) (x2 :: r)) = cl y ++ [c] ++ cl (Str.join (chS c) (y2 :: s)) := h2
    rw [List.append_assoc, List.append_assoc] at h2
    obtain ⟨e1, e2⟩ := split_at (hx x List.mem_cons_self) (hy y List.mem_cons_self) h2
    rw [cl_ext e1, join_inj (List.cons_ne_nil _ _) (List.cons_ne_nil _ _) (fun w hw => hx w (List.mem_cons_of_mem _ hw)) (fun u hu => hy u (List.mem_cons_of_mem _ hu)) (cl_ext e2)]
theorem split_ne (x : Str) (c : Nat) : Txt.split x (chS c) ≠ [] := fun h => by
  unfold Txt.split at h
  split at h
  · cases h
  · split at h
    · cases h
    · rw [StrLaws.partsBetween_eq] at h
      obtain ⟨p, r, e⟩ := StrLaws.partsFrom_ne x (chS c).length 0 (Builtin.Str.occurrences x (chS c) 0 x.length (x.length + 1))
      rw [e] at h
      cases h
/-- what was joined is split again -/
theorem split_join {c : Nat} {ws : List Str} (h : ws ≠ []) (free : ∀ w ∈ ws, c ∉ cl w) : Txt.split (Txt.join (chS c) ws) (chS c) = ws := by
  have e : Txt.join (chS c) ws = Str.join (chS c) ws := StrLaws.glued_eq_join _ _
  rw [e]
  exact join_inj (split_ne _ _) h (StrLaws.split_free _ c) free (StrLaws.join_split _ _)
end KW
namespace KW
open PySem L2
/-- a number's text -/
abbrev numS (i : Int) : Str := (toString i : String)
def numB (i : Int) : Bool := decide (1 ≤ (numS i).length) && decide ((numS i).length ≤ 2) && (cl (numS i)).all (fun c => decide (48 ≤ c) && decide (c ≤ 57)) && (PySem.intText? (numS i) == some i) && ((cl (numS i)).headD 0 != 48)
theorem nums_all : (List.range 40).all (fun n => numB ((n : Int) + 1)) = true := by decide +kernel
theorem num_ok1 {i : Int} (h1 : 1 ≤ i) (h2 : i ≤ 40) : numB i = true := by
  have := List.all_eq_true.mp nums_all (i.toNat - 1) (List.mem_range.mpr (by omega))
  rw [show (((i.toNat - 1 : Nat) : Int) + 1) = i by omega] at this
  exact this
structure NumOk (i : Int) : Prop where
  lo : 1 ≤ (numS i).length
  hi : (numS i).length ≤ 2
  dig : ∀ c ∈ cl (numS i), 48 ≤ c ∧ c ≤ 57
  rd : PySem.intText? (numS i) = some i
  hd : (cl (numS i)).headD 0 ≠ 48
theorem numOk {i : Int} (h1 : 1 ≤ i) (h2 : i ≤ 40) : NumOk i := by
  have h := num_ok1 h1 h2
  unfold numB at h
  simp only [Bool.and_eq_true, decide_eq_true_eq, List.all_eq_true, beq_iff_eq, bne_iff_ne, ne_eq] at h
  obtain ⟨⟨⟨⟨a, b⟩, c⟩, d⟩, e⟩ := h
  exact ⟨a, b, c, d, e⟩
/-- a token as it is shown -/
def wordT : List V → Str
  | [.str _] => "!"
  | [.str k, .str y] => (if k = "text" then "=" else "?") ++ y
  | [.str k, .int d, .int n] => (if k = "copy" then "c" else "s") ++ numS d ++ "." ++ numS n
  | _ => Str.empty
theorem word_text {y : Str} : wordT [.str "text", .str y] = "=" ++ y := by
  show (if ("text" : Str) = "text" then ("=" : Str) else "?") ++ y = _
  rw [if_pos rfl]
theorem word_any {y : Str} : wordT [.str "any", .str y] = "?" ++ y := by
  show (if ("any" : Str) = "text" then ("=" : Str) else "?") ++ y = _
  rw [if_neg (show ¬ ("any" : Str) = "text" by decide +kernel)]
theorem word_copy {d n : Int} : wordT [.str "copy", .int d, .int n] = "c" ++ numS d ++ "." ++ numS n := by
  show (if ("copy" : Str) = "copy" then ("c" : Str) else "s") ++ numS d ++ "." ++ numS n = _
  rw [if_pos rfl]
theorem word_say {d n : Int} : wordT [.str "say", .int d, .int n] = "s" ++ numS d ++ "." ++ numS n := by
  show (if ("say" : Str) = "copy" then ("c" : Str) else "s") ++ numS d ++ "." ++ numS n = _
  rw [if_neg (show ¬ ("say" : Str) = "copy" by decide +kernel)]
theorem cl_num {i : Int} (h1 : 1 ≤ i) (h2 : i ≤ 40) {c : Nat} (hc : c < 48 ∨ 57 < c) : c ∉ cl (numS i) := fun h => by
  have := (numOk h1 h2).dig c h
  omega
theorem over_cl {z y : Str} (hz : SignsOk z) (h : overB z y = true) : ∀ c ∈ cl y, 97 ≤ c ∧ c ≤ 122 := fun c hc => by
  unfold SignsOk signsB lettersB at hz
  simp only [Bool.and_eq_true] at hz
  unfold overB at h
  have h1 := of_decide_eq_true (List.all_eq_true.mp h c hc)
  have h2 := List.all_eq_true.mp hz.1.2 c h1
  unfold letB at h2
  rw [Bool.and_eq_true, decide_eq_true_eq, decide_eq_true_eq] at h2
  exact h2
/-- a shown token: its signs are none of those between the words -/
theorem word_free {z : Str} {t : List V} (hz : SignsOk z) (h : tokV z t = true) {c : Nat} (hc : c = 32 ∨ c = 10) : c ∉ cl (wordT t) := by
  obtain ⟨kd, rest, rfl, hk⟩ := tok_inv h
  have k1 : ∀ s : Str, (cl s).all (fun d => d != 32 && d != 10) = true → c ∉ cl s := fun s hs hm => by
    have := List.all_eq_true.mp hs c hm
    rcases hc with rfl | rfl <;> simp at this
  rcases hk with ⟨rfl, rfl⟩ | ⟨y, rfl, rfl, h1, h2, h3⟩ | ⟨y, rfl, rfl, h1⟩ | ⟨d, n, hkd, rfl, d1, d2, n1, n2⟩
  · exact k1 "!" (by decide +kernel)
  · rw [word_text, cl_app]
    intro hm
    rcases List.mem_append.mp hm with q | q
    · exact k1 "=" (by decide +kernel) q
    · have := over_cl hz h1 c q
      omega
  · have h4 : overB z y = true := by
      unfold choiceB at h1
      simp only [Bool.and_eq_true] at h1
      exact h1.1.2
    rw [word_any, cl_app]
    intro hm
    rcases List.mem_append.mp hm with q | q
    · exact k1 "?" (by decide +kernel) q
    · have := over_cl hz h4 c q
      omega
  · have dn : ∀ s : Str, (cl s).all (fun d => d != 32 && d != 10) = true → c ∉ cl (s ++ numS d ++ "." ++ numS n) := fun s hs hm => by
      rw [cl_app, cl_app, cl_app] at hm
      rcases List.mem_append.mp hm with q | q
      · rcases List.mem_append.mp q with q | q
        · rcases List.mem_append.mp q with q | q
          · exact k1 s hs q
          · exact cl_num d1 (by omega) (by omega) q
        · exact k1 "." (by decide +kernel) q
      · exact cl_num n1 n2 (by omega) q
    rcases hkd with rfl | rfl
    · rw [word_copy]; exact dn "c" (by decide +kernel)
    · rw [word_say]; exact dn "s" (by decide +kernel)
end KW
namespace KW
open PySem L2
theorem emp_app (x : Str) : Str.empty ++ x = x := by
  apply cl_ext
  rw [cl_app]
  rfl
theorem num_log {i : Int} (h1 : 0 ≤ i) (h2 : i ≤ 1000) : i.natAbs.log2 < 1920 := reprOk_small h1 h2
theorem num_len {i : Int} (h1 : 1 ≤ i) (h2 : i ≤ 40) : (numS i).length ≤ 2 := (numOk h1 h2).hi
end KW
namespace KW
open PySem L2
/-- the first sign of a shown token, and the rest -/
def begT : List V → Str
  | [.str _] => "!"
  | [.str k, .str _] => if k = "text" then "=" else "?"
  | [.str k, .int _, .int _] => if k = "copy" then "c" else "s"
  | _ => Str.empty
def restT : List V → Str
  | [.str _, .str y] => y
  | [.str _, .int d, .int n] => numS d ++ "." ++ numS n
  | _ => Str.empty
theorem app_assoc (x y z : Str) : x ++ y ++ z = x ++ (y ++ z) := by
  apply cl_ext
  rw [cl_app, cl_app, cl_app, cl_app, List.append_assoc]
theorem app_emp (x : Str) : x ++ Str.empty = x := by
  apply cl_ext
  rw [cl_app]
  show cl x ++ [] = _
  rw [List.append_nil]
theorem word_two {z : Str} {t : List V} (h : tokV z t = true) : wordT t = begT t ++ restT t ∧ ∃ c, cl (begT t) = [c] := by
  obtain ⟨kd, rest, rfl, hk⟩ := tok_inv h
  rcases hk with ⟨rfl, rfl⟩ | ⟨y, rfl, rfl, h1, h2, h3⟩ | ⟨y, rfl, rfl, h1⟩ | ⟨d, n, hkd, rfl, d1, d2, n1, n2⟩
  · exact ⟨(app_emp _).symm, 33, rfl⟩
  · refine ⟨rfl, ?_⟩
    show ∃ c, cl (if ("text" : Str) = "text" then ("=" : Str) else "?") = [c]
    rw [if_pos rfl]
    exact ⟨61, rfl⟩
  · refine ⟨rfl, ?_⟩
    show ∃ c, cl (if ("any" : Str) = "text" then ("=" : Str) else "?") = [c]
    rw [if_neg (show ¬ ("any" : Str) = "text" by decide +kernel)]
    exact ⟨63, rfl⟩
  · rcases hkd with rfl | rfl
    · have e : begT [.str "copy", .int d, .int n] = "c" := by
        show (if ("copy" : Str) = "copy" then ("c" : Str) else "s") = _
        rw [if_pos rfl]
      rw [word_copy, e]
      exact ⟨by show _ = ("c" : Str) ++ (numS d ++ "." ++ numS n); rw [app_assoc, app_assoc, app_assoc], 99, rfl⟩
    · have e : begT [.str "say", .int d, .int n] = "s" := by
        show (if ("say" : Str) = "copy" then ("c" : Str) else "s") = _
        rw [if_neg (show ¬ ("say" : Str) = "copy" by decide +kernel)]
      rw [word_say, e]
      exact ⟨by show _ = ("s" : Str) ++ (numS d ++ "." ++ numS n); rw [app_assoc, app_assoc, app_assoc], 115, rfl⟩
theorem word_len {z : Str} {t : List V} (hz : SignsOk z) (h : tokV z t = true) : (wordT t).length ≤ 50 := by
  obtain ⟨kd, rest, rfl, hk⟩ := tok_inv h
  have l1 : ("=" : Str).length = 1 ∧ ("?" : Str).length = 1 ∧ ("c" : Str).length = 1 ∧ ("s" : Str).length = 1 ∧ ("." : Str).length = 1 ∧ ("!" : Str).length = 1 := ⟨rfl, rfl, rfl, rfl, rfl, rfl⟩
  have := hz.len
  rcases hk with ⟨rfl, rfl⟩ | ⟨y, rfl, rfl, h1, h2, h3⟩ | ⟨y, rfl, rfl, h1⟩ | ⟨d, n, hkd, rfl, d1, d2, n1, n2⟩
  · show ("!" : Str).length ≤ 50
    omega
  · rw [word_text, app_len]; omega
  · have := choice_len h1
    rw [word_any, app_len]; omega
  · have := num_len d1 (by omega)
    have := num_len n1 n2
    rcases hkd with rfl | rfl
    · rw [word_copy, app_len, app_len, app_len]; omega
    · rw [word_say, app_len, app_len, app_len]; omega
theorem words_sum {z : Str} {ts : List (List V)} (hz : SignsOk z) (h : ∀ t ∈ ts, tokV z t = true) (hn : ts.length ≤ 200) : ((ts.map wordT).map (·.length)).sum + (ts.map wordT).length * (" " : Str).length ≤ 16777216 := by
  have e : ∀ {us : List (List V)}, (∀ t ∈ us, tokV z t = true) → ((us.map wordT).map (·.length)).sum ≤ us.length * 50 := fun {us} hu => by
    induction us with
    | nil => simp
    | cons t us ih =>
      have h1 := word_len hz (hu t List.mem_cons_self)
      have h2 := ih fun u hu' => hu u (List.mem_cons_of_mem _ hu')
      simp only [List.map_cons, List.sum_cons, List.length_cons]
      omega
  have h1 := e h
  have e1 : (" " : Str).length = 1 := rfl
  rw [e1, List.length_map]
  omega
theorem cut_beg {x y : Str} {c : Nat} (h : cl x = [c]) : cutS (x ++ y) none (some 1) = x ∧ cutS (x ++ y) (some 1) none = y := by
  have e : x ++ y = stL (c :: cl y) := by
    rw [← stL_cl (x ++ y), cl_app, h]
    rfl
  rw [e, cut_head (by decide), cut_from (by decide)]
  constructor
  · rw [← stL_cl x, h]
    rfl
  · exact stL_cl y
end KW

namespace KW
open PySem L2
def top (i : Nat) : Stmt := PySem.Challenge.pw_windowcuts_k91_pieces_and_rows_shown.main.body.getD i (.Pass ⟨0, 0, 0, 0⟩)
abbrev s_ascends : Stmt := top 17
abbrev N_ascends : List Str := ["text", "one", "other"]
theorem sc_ascends : FnScope N_ascends ["text"] (defScope s_ascends) := ⟨rfl, rfl, rfl, by decide +kernel, rfl, by decide +kernel, by decide +kernel⟩
abbrev s_is_text : Stmt := top 14
abbrev N_is_text : List Str := ["signs", "thing", "sign"]
theorem sc_is_text : FnScope N_is_text ["signs", "thing"] (defScope s_is_text) := ⟨rfl, rfl, rfl, by decide +kernel, rfl, by decide +kernel, by decide +kernel⟩
abbrev s_is_choice : Stmt := top 15
abbrev N_is_choice : List Str := ["signs", "thing"]
theorem sc_is_choice : FnScope N_is_choice ["signs", "thing"] (defScope s_is_choice) := ⟨rfl, rfl, rfl, by decide +kernel, rfl, by decide +kernel, by decide +kernel⟩
abbrev s_is_integer : Stmt := top 10
abbrev N_is_integer : List Str := ["thing"]
theorem sc_is_integer : FnScope N_is_integer ["thing"] (defScope s_is_integer) := ⟨rfl, rfl, rfl, by decide +kernel, rfl, by decide +kernel, by decide +kernel⟩
abbrev s_is_within : Stmt := top 11
abbrev N_is_within : List Str := ["thing", "least", "most"]
theorem sc_is_within : FnScope N_is_within ["thing", "least", "most"] (defScope s_is_within) := ⟨rfl, rfl, rfl, by decide +kernel, rfl, by decide +kernel, by decide +kernel⟩
abbrev s_is_distance : Stmt := top 22
abbrev N_is_distance : List Str := ["thing"]
theorem sc_is_distance : FnScope N_is_distance ["thing"] (defScope s_is_distance) := ⟨rfl, rfl, rfl, by decide +kernel, rfl, by decide +kernel, by decide +kernel⟩
abbrev s_is_token : Stmt := top 21
abbrev N_is_token : List Str := ["signs", "thing", "kind"]
theorem sc_is_token : FnScope N_is_token ["signs", "thing"] (defScope s_is_token) := ⟨rfl, rfl, rfl, by decide +kernel, rfl, by decide +kernel, by decide +kernel⟩
abbrev s_size : Stmt := top 23
abbrev N_size : List Str := ["token", "kind"]
theorem sc_size : FnScope N_size ["token"] (defScope s_size) := ⟨rfl, rfl, rfl, by decide +kernel, rfl, by decide +kernel, by decide +kernel⟩
abbrev s_are_tokens : Stmt := top 26
abbrev N_are_tokens : List Str := ["signs", "thing", "token"]
theorem sc_are_tokens : FnScope N_are_tokens ["signs", "thing"] (defScope s_are_tokens) := ⟨rfl, rfl, rfl, by decide +kernel, rfl, by decide +kernel, by decide +kernel⟩
abbrev s_places_of : Stmt := top 27
abbrev N_places_of : List Str := ["tokens", "places", "token", "kind", "sign"]
theorem sc_places_of : FnScope N_places_of ["tokens"] (defScope s_places_of) := ⟨rfl, rfl, rfl, by decide +kernel, rfl, by decide +kernel, by decide +kernel⟩
abbrev s_are_letters : Stmt := top 16
abbrev N_are_letters : List Str := ["text", "letter"]
theorem sc_are_letters : FnScope N_are_letters ["text"] (defScope s_are_letters) := ⟨rfl, rfl, rfl, by decide +kernel, rfl, by decide +kernel, by decide +kernel⟩
abbrev s_is_signs : Stmt := top 13
abbrev N_is_signs : List Str := ["thing"]
theorem sc_is_signs : FnScope N_is_signs ["thing"] (defScope s_is_signs) := ⟨rfl, rfl, rfl, by decide +kernel, rfl, by decide +kernel, by decide +kernel⟩
abbrev s_Piece_init : Stmt := inClass (top 25) 1
abbrev N_Piece_init : List Str := ["self", "signs", "tokens"]
theorem sc_Piece_init : FnScope N_Piece_init ["self", "signs", "tokens"] (defScope s_Piece_init) := ⟨rfl, rfl, rfl, by decide +kernel, rfl, by decide +kernel, by decide +kernel⟩
abbrev s_Piece_eq : Stmt := inClass (top 25) 15
abbrev N_Piece_eq : List Str := ["self", "other"]
theorem sc_Piece_eq : FnScope N_Piece_eq ["self", "other"] (defScope s_Piece_eq) := ⟨rfl, rfl, rfl, by decide +kernel, rfl, by decide +kernel, by decide +kernel⟩
abbrev s_Piece_tokens : Stmt := inClass (top 25) 4
abbrev N_Piece_tokens : List Str := ["self"]
theorem sc_Piece_tokens : FnScope N_Piece_tokens ["self"] (defScope s_Piece_tokens) := ⟨rfl, rfl, rfl, by decide +kernel, rfl, by decide +kernel, by decide +kernel⟩
abbrev s_law_alike : Stmt := top 50
abbrev N_law_alike : List Str := ["_law_found", "_law_due"]
theorem sc_law_alike : FnScope N_law_alike ["_law_found", "_law_due"] (defScope s_law_alike) := ⟨rfl, rfl, rfl, by decide +kernel, rfl, by decide +kernel, by decide +kernel⟩
abbrev s_law_bag : Stmt := top 48
abbrev N_law_bag : List Str := ["_law_script", "_law_cell"]
theorem sc_law_bag : FnScope N_law_bag ["_law_script"] (defScope s_law_bag) := ⟨rfl, rfl, rfl, by decide +kernel, rfl, by decide +kernel, by decide +kernel⟩
abbrev s_law_take : Stmt := top 49
abbrev N_law_take : List Str := ["_law_bag_here", "_law_many", "_law_cell", "_law_mixed", "_law_drawn", "_law_early", "_law_second"]
theorem sc_law_take : FnScope N_law_take ["_law_bag_here", "_law_many"] (defScope s_law_take) := ⟨rfl, rfl, rfl, by decide +kernel, rfl, by decide +kernel, by decide +kernel⟩
abbrev s_law_choice : Stmt := top 53
abbrev N_law_choice : List Str := ["_law_bag_here", "_law_signs_here", "_law_found", "_law_sign"]
theorem sc_law_choice : FnScope N_law_choice ["_law_bag_here", "_law_signs_here"] (defScope s_law_choice) := ⟨rfl, rfl, rfl, by decide +kernel, rfl, by decide +kernel, by decide +kernel⟩
abbrev s_law_word : Stmt := top 52
abbrev N_law_word : List Str := ["_law_bag_here", "_law_signs_here", "_law_many", "_law_k"]
theorem sc_law_word : FnScope N_law_word ["_law_bag_here", "_law_signs_here", "_law_many"] (defScope s_law_word) := ⟨rfl, rfl, rfl, by decide +kernel, rfl, by decide +kernel, by decide +kernel⟩
abbrev s_law_free_token : Stmt := top 57
abbrev N_law_free_token : List Str := ["_law_bag_here", "_law_signs_here", "_law_room", "_law_way", "_law_many", "_law_far"]
theorem sc_law_free_token : FnScope N_law_free_token ["_law_bag_here", "_law_signs_here", "_law_room"] (defScope s_law_free_token) := ⟨rfl, rfl, rfl, by decide +kernel, rfl, by decide +kernel, by decide +kernel⟩
abbrev s_law_size : Stmt := top 55
abbrev N_law_size : List Str := ["_law_token"]
theorem sc_law_size : FnScope N_law_size ["_law_token"] (defScope s_law_size) := ⟨rfl, rfl, rfl, by decide +kernel, rfl, by decide +kernel, by decide +kernel⟩
abbrev s_law_wide : Stmt := top 56
abbrev N_law_wide : List Str := ["_law_tokens", "_law_token"]
theorem sc_law_wide : FnScope N_law_wide ["_law_tokens"] (defScope s_law_wide) := ⟨rfl, rfl, rfl, by decide +kernel, rfl, by decide +kernel, by decide +kernel⟩
abbrev s_law_free_tokens : Stmt := top 58
abbrev N_law_free_tokens : List Str := ["_law_bag_here", "_law_signs_here", "_law_most", "_law_found", "_law_k"]
theorem sc_law_free_tokens : FnScope N_law_free_tokens ["_law_bag_here", "_law_signs_here", "_law_most"] (defScope s_law_free_tokens) := ⟨rfl, rfl, rfl, by decide +kernel, rfl, by decide +kernel, by decide +kernel⟩
abbrev s_law_show_token : Stmt := top 59
abbrev N_law_show_token : List Str := ["_law_token"]
theorem sc_law_show_token : FnScope N_law_show_token ["_law_token"] (defScope s_law_show_token) := ⟨rfl, rfl, rfl, by decide +kernel, rfl, by decide +kernel, by decide +kernel⟩
abbrev s_law_show : Stmt := top 60
abbrev N_law_show : List Str := ["_law_tokens", "_law_token"]
theorem sc_law_show : FnScope N_law_show ["_law_tokens"] (defScope s_law_show) := ⟨rfl, rfl, rfl, by decide +kernel, rfl, by decide +kernel, by decide +kernel⟩
abbrev s_law_signs : Stmt := top 51
abbrev N_law_signs : List Str := ["_law_bag_here"]
theorem sc_law_signs : FnScope N_law_signs ["_law_bag_here"] (defScope s_law_signs) := ⟨rfl, rfl, rfl, by decide +kernel, rfl, by decide +kernel, by decide +kernel⟩
abbrev s_law_words : Stmt := top 54
abbrev N_law_words : List Str := ["_law_bag_here", "_law_many", "_law_menu", "_law_at"]
theorem sc_law_words : FnScope N_law_words ["_law_bag_here", "_law_many"] (defScope s_law_words) := ⟨rfl, rfl, rfl, by decide +kernel, rfl, by decide +kernel, by decide +kernel⟩
abbrev s_NoText_init : Stmt := inClass (top 6) 0
abbrev N_NoText_init : List Str := ["self", "at"]
theorem sc_NoText_init : FnScope N_NoText_init ["self", "at"] (defScope s_NoText_init) := ⟨rfl, rfl, rfl, by decide +kernel, rfl, by decide +kernel, by decide +kernel⟩
abbrev s_check_one_line : Stmt := top 46
abbrev N_check_one_line : List Str := ["text"]
theorem sc_check_one_line : FnScope N_check_one_line ["text"] (defScope s_check_one_line) := ⟨rfl, rfl, rfl, by decide +kernel, rfl, by decide +kernel, by decide +kernel⟩
abbrev s_check_string : Stmt := top 44
abbrev N_check_string : List Str := ["thing"]
theorem sc_check_string : FnScope N_check_string ["thing"] (defScope s_check_string) := ⟨rfl, rfl, rfl, by decide +kernel, rfl, by decide +kernel, by decide +kernel⟩
abbrev s_only_line : Stmt := top 45
abbrev N_only_line : List Str := ["text"]
theorem sc_only_line : FnScope N_only_line ["text"] (defScope s_only_line) := ⟨rfl, rfl, rfl, by decide +kernel, rfl, by decide +kernel, by decide +kernel⟩
abbrev s_word_number : Stmt := top 39
abbrev N_word_number : List Str := ["word", "digit"]
theorem sc_word_number : FnScope N_word_number ["word"] (defScope s_word_number) := ⟨rfl, rfl, rfl, by decide +kernel, rfl, by decide +kernel, by decide +kernel⟩
abbrev s_any_token : Stmt := top 43
abbrev N_any_token : List Str := ["begin", "told", "numbers", "word"]
theorem sc_any_token : FnScope N_any_token ["begin", "told"] (defScope s_any_token) := ⟨rfl, rfl, rfl, by decide +kernel, rfl, by decide +kernel, by decide +kernel⟩
abbrev s_word_token : Stmt := top 42
abbrev N_word_token : List Str := ["signs", "word", "token"]
theorem sc_word_token : FnScope N_word_token ["signs", "word"] (defScope s_word_token) := ⟨rfl, rfl, rfl, by decide +kernel, rfl, by decide +kernel, by decide +kernel⟩
abbrev s_words_piece : Stmt := top 40
abbrev N_words_piece : List Str := ["signs", "words", "tokens", "word", "token"]
theorem sc_words_piece : FnScope N_words_piece ["signs", "words"] (defScope s_words_piece) := ⟨rfl, rfl, rfl, by decide +kernel, rfl, by decide +kernel, by decide +kernel⟩
abbrev s_read_piece : Stmt := top 37
abbrev N_read_piece : List Str := ["signs", "text", "piece"]
theorem sc_read_piece : FnScope N_read_piece ["signs", "text"] (defScope s_read_piece) := ⟨rfl, rfl, rfl, by decide +kernel, rfl, by decide +kernel, by decide +kernel⟩
abbrev s_is_name : Stmt := top 12
abbrev N_is_name : List Str := ["thing"]
theorem sc_is_name : FnScope N_is_name ["thing"] (defScope s_is_name) := ⟨rfl, rfl, rfl, by decide +kernel, rfl, by decide +kernel, by decide +kernel⟩
abbrev s_read_row : Stmt := top 38
abbrev N_read_row : List Str := ["text", "words", "names", "word"]
theorem sc_read_row : FnScope N_read_row ["text"] (defScope s_read_row) := ⟨rfl, rfl, rfl, by decide +kernel, rfl, by decide +kernel, by decide +kernel⟩
abbrev s_word : Stmt := top 41
abbrev N_word : List Str := ["token", "kind", "letter"]
theorem sc_word : FnScope N_word ["token"] (defScope s_word) := ⟨rfl, rfl, rfl, by decide +kernel, rfl, by decide +kernel, by decide +kernel⟩
abbrev s_show_piece : Stmt := top 35
abbrev N_show_piece : List Str := ["piece", "token"]
theorem sc_show_piece : FnScope N_show_piece ["piece"] (defScope s_show_piece) := ⟨rfl, rfl, rfl, by decide +kernel, rfl, by decide +kernel, by decide +kernel⟩
abbrev s_show_row : Stmt := top 36
abbrev N_show_row : List Str := ["names"]
theorem sc_show_row : FnScope N_show_row ["names"] (defScope s_show_row) := ⟨rfl, rfl, rfl, by decide +kernel, rfl, by decide +kernel, by decide +kernel⟩
abbrev s_law : Stmt := top 61
abbrev N_law : List Str := ["_law_script", "_law_bag_here", "_law_turn", "_law_signs_here", "_law_tokens", "_law_piece", "_law_text", "_law_many", "_law_names", "_law_handed", "_law_shown", "_law_again", "_law_found", "_law_k"]
theorem sc_law : FnScope N_law ["_law_script"] (defScope s_law) := ⟨rfl, rfl, rfl, by decide +kernel, rfl, by decide +kernel, by decide +kernel⟩
structure Txt (K : PySem.W.Frag) (mg : Str → Option Value) where
  f_ascends : Addr
  d_ascends : FuncData
  F_ascends : Fun K "_ascends" "_ascends" s_ascends f_ascends d_ascends
  b_ascends : Binds K d_ascends ["text"] []
  m_ascends : mg "_ascends" = some (.ref f_ascends)
  f_is_text : Addr
  d_is_text : FuncData
  F_is_text : Fun K "is_text" "is_text" s_is_text f_is_text d_is_text
  b_is_text : Binds K d_is_text ["signs", "thing"] []
  m_is_text : mg "is_text" = some (.ref f_is_text)
  f_is_choice : Addr
  d_is_choice : FuncData
  F_is_choice : Fun K "is_choice" "is_choice" s_is_choice f_is_choice d_is_choice
  b_is_choice : Binds K d_is_choice ["signs", "thing"] []
  m_is_choice : mg "is_choice" = some (.ref f_is_choice)
  f_is_integer : Addr
  d_is_integer : FuncData
  F_is_integer : Fun K "is_integer" "is_integer" s_is_integer f_is_integer d_is_integer
  b_is_integer : Binds K d_is_integer ["thing"] []
  m_is_integer : mg "is_integer" = some (.ref f_is_integer)
  f_is_within : Addr
  d_is_within : FuncData
  F_is_within : Fun K "is_within" "is_within" s_is_within f_is_within d_is_within
  b_is_within : Binds K d_is_within ["thing", "least", "most"] []
  m_is_within : mg "is_within" = some (.ref f_is_within)
  f_is_distance : Addr
  d_is_distance : FuncData
  F_is_distance : Fun K "is_distance" "is_distance" s_is_distance f_is_distance d_is_distance
  b_is_distance : Binds K d_is_distance ["thing"] []
  m_is_distance : mg "is_distance" = some (.ref f_is_distance)
  f_is_token : Addr
  d_is_token : FuncData
  F_is_token : Fun K "is_token" "is_token" s_is_token f_is_token d_is_token
  b_is_token : Binds K d_is_token ["signs", "thing"] []
  m_is_token : mg "is_token" = some (.ref f_is_token)
  f_size : Addr
  d_size : FuncData
  F_size : Fun K "size" "size" s_size f_size d_size
  b_size : Binds K d_size ["token"] []
  m_size : mg "size" = some (.ref f_size)
  f_are_tokens : Addr
  d_are_tokens : FuncData
  F_are_tokens : Fun K "_are_tokens" "_are_tokens" s_are_tokens f_are_tokens d_are_tokens
  b_are_tokens : Binds K d_are_tokens ["signs", "thing"] []
  m_are_tokens : mg "_are_tokens" = some (.ref f_are_tokens)
  f_places_of : Addr
  d_places_of : FuncData
  F_places_of : Fun K "_places_of" "_places_of" s_places_of f_places_of d_places_of
  b_places_of : Binds K d_places_of ["tokens"] []
  m_places_of : mg "_places_of" = some (.ref f_places_of)
  f_are_letters : Addr
  d_are_letters : FuncData
  F_are_letters : Fun K "_are_letters" "_are_letters" s_are_letters f_are_letters d_are_letters
  b_are_letters : Binds K d_are_letters ["text"] []
  m_are_letters : mg "_are_letters" = some (.ref f_are_letters)
  f_is_signs : Addr
  d_is_signs : FuncData
  F_is_signs : Fun K "is_signs" "is_signs" s_is_signs f_is_signs d_is_signs
  b_is_signs : Binds K d_is_signs ["thing"] []
  m_is_signs : mg "is_signs" = some (.ref f_is_signs)
  f_Piece_init : Addr
  d_Piece_init : FuncData
  F_Piece_init : Fun K "__init__" "Piece.__init__" s_Piece_init f_Piece_init d_Piece_init
  b_Piece_init : Binds K d_Piece_init ["self", "signs", "tokens"] []
  f_Piece_eq : Addr
  d_Piece_eq : FuncData
  F_Piece_eq : Fun K "__eq__" "Piece.__eq__" s_Piece_eq f_Piece_eq d_Piece_eq
  b_Piece_eq : Binds K d_Piece_eq ["self", "other"] []
  f_Piece_tokens : Addr
  d_Piece_tokens : FuncData
  F_Piece_tokens : Fun K "tokens" "Piece.tokens" s_Piece_tokens f_Piece_tokens d_Piece_tokens
  b_Piece_tokens : Binds K d_Piece_tokens ["self"] []
  f_law_alike : Addr
  d_law_alike : FuncData
  F_law_alike : Fun K "_law_alike" "_law_alike" s_law_alike f_law_alike d_law_alike
  b_law_alike : Binds K d_law_alike ["_law_found", "_law_due"] []
  m_law_alike : mg "_law_alike" = some (.ref f_law_alike)
  f_law_bag : Addr
  d_law_bag : FuncData
  F_law_bag : Fun K "_law_bag" "_law_bag" s_law_bag f_law_bag d_law_bag
  b_law_bag : Binds K d_law_bag ["_law_script"] []
  m_law_bag : mg "_law_bag" = some (.ref f_law_bag)
  f_law_take : Addr
  d_law_take : FuncData
  F_law_take : Fun K "_law_take" "_law_take" s_law_take f_law_take d_law_take
  b_law_take : Binds K d_law_take ["_law_bag_here", "_law_many"] []
  m_law_take : mg "_law_take" = some (.ref f_law_take)
  f_law_choice : Addr
  d_law_choice : FuncData
  F_law_choice : Fun K "_law_choice" "_law_choice" s_law_choice f_law_choice d_law_choice
  b_law_choice : Binds K d_law_choice ["_law_bag_here", "_law_signs_here"] []
  m_law_choice : mg "_law_choice" = some (.ref f_law_choice)
  f_law_word : Addr
  d_law_word : FuncData
  F_law_word : Fun K "_law_word" "_law_word" s_law_word f_law_word d_law_word
  b_law_word : Binds K d_law_word ["_law_bag_here", "_law_signs_here", "_law_many"] []
  m_law_word : mg "_law_word" = some (.ref f_law_word)
  f_law_free_token : Addr
  d_law_free_token : FuncData
  F_law_free_token : Fun K "_law_free_token" "_law_free_token" s_law_free_token f_law_free_token d_law_free_token
  b_law_free_token : Binds K d_law_free_token ["_law_bag_here", "_law_signs_here", "_law_room"] []
  m_law_free_token : mg "_law_free_token" = some (.ref f_law_free_token)
  f_law_size : Addr
  d_law_size : FuncData
  F_law_size : Fun K "_law_size" "_law_size" s_law_size f_law_size d_law_size
  b_law_size : Binds K d_law_size ["_law_token"] []
  m_law_size : mg "_law_size" = some (.ref f_law_size)
  f_law_wide : Addr
  d_law_wide : FuncData
  F_law_wide : Fun K "_law_wide" "_law_wide" s_law_wide f_law_wide d_law_wide
  b_law_wide : Binds K d_law_wide ["_law_tokens"] []
  m_law_wide : mg "_law_wide" = some (.ref f_law_wide)
  f_law_free_tokens : Addr
  d_law_free_tokens : FuncData
  F_law_free_tokens : Fun K "_law_free_tokens" "_law_free_tokens" s_law_free_tokens f_law_free_tokens d_law_free_tokens
  b_law_free_tokens : Binds K d_law_free_tokens ["_law_bag_here", "_law_signs_here", "_law_most"] []
  m_law_free_tokens : mg "_law_free_tokens" = some (.ref f_law_free_tokens)
  f_law_show_token : Addr
  d_law_show_token : FuncData
  F_law_show_token : Fun K "_law_show_token" "_law_show_token" s_law_show_token f_law_show_token d_law_show_token
  b_law_show_token : Binds K d_law_show_token ["_law_token"] []
  m_law_show_token : mg "_law_show_token" = some (.ref f_law_show_token)
  f_law_show : Addr
  d_law_show : FuncData
  F_law_show : Fun K "_law_show" "_law_show" s_law_show f_law_show d_law_show
  b_law_show : Binds K d_law_show ["_law_tokens"] []
  m_law_show : mg "_law_show" = some (.ref f_law_show)
  f_law_signs : Addr
  d_law_signs : FuncData
  F_law_signs : Fun K "_law_signs" "_law_signs" s_law_signs f_law_signs d_law_signs
  b_law_signs : Binds K d_law_signs ["_law_bag_here"] []
  m_law_signs : mg "_law_signs" = some (.ref f_law_signs)
  f_law_words : Addr
  d_law_words : FuncData
  F_law_words : Fun K "_law_words" "_law_words" s_law_words f_law_words d_law_words
  b_law_words : Binds K d_law_words ["_law_bag_here", "_law_many"] []
  m_law_words : mg "_law_words" = some (.ref f_law_words)
  f_NoText_init : Addr
  d_NoText_init : FuncData
  F_NoText_init : Fun K "__init__" "NoText.__init__" s_NoText_init f_NoText_init d_NoText_init
  b_NoText_init : Binds K d_NoText_init ["self", "at"] []
  f_check_one_line : Addr
  d_check_one_line : FuncData
  F_check_one_line : Fun K "_check_one_line" "_check_one_line" s_check_one_line f_check_one_line d_check_one_line
  b_check_one_line : Binds K d_check_one_line ["text"] []
  m_check_one_line : mg "_check_one_line" = some (.ref f_check_one_line)
  f_check_string : Addr
  d_check_string : FuncData
  F_check_string : Fun K "_check_string" "_check_string" s_check_string f_check_string d_check_string
  b_check_string : Binds K d_check_string ["thing"] []
  m_check_string : mg "_check_string" = some (.ref f_check_string)
  f_only_line : Addr
  d_only_line : FuncData
  F_only_line : Fun K "_only_line" "_only_line" s_only_line f_only_line d_only_line
  b_only_line : Binds K d_only_line ["text"] []
  m_only_line : mg "_only_line" = some (.ref f_only_line)
  f_word_number : Addr
  d_word_number : FuncData
  F_word_number : Fun K "word_number" "word_number" s_word_number f_word_number d_word_number
  b_word_number : Binds K d_word_number ["word"] []
  m_word_number : mg "word_number" = some (.ref f_word_number)
  f_any_token : Addr
  d_any_token : FuncData
  F_any_token : Fun K "_any_token" "_any_token" s_any_token f_any_token d_any_token
  b_any_token : Binds K d_any_token ["begin", "told"] []
  m_any_token : mg "_any_token" = some (.ref f_any_token)
  f_word_token : Addr
  d_word_token : FuncData
  F_word_token : Fun K "_word_token" "_word_token" s_word_token f_word_token d_word_token
  b_word_token : Binds K d_word_token ["signs", "word"] []
  m_word_token : mg "_word_token" = some (.ref f_word_token)
  f_words_piece : Addr
  d_words_piece : FuncData
  F_words_piece : Fun K "words_piece" "words_piece" s_words_piece f_words_piece d_words_piece
  b_words_piece : Binds K d_words_piece ["signs", "words"] []
  m_words_piece : mg "words_piece" = some (.ref f_words_piece)
  f_read_piece : Addr
  d_read_piece : FuncData
  F_read_piece : Fun K "read_piece" "read_piece" s_read_piece f_read_piece d_read_piece
  b_read_piece : Binds K d_read_piece ["signs", "text"] []
  m_read_piece : mg "read_piece" = some (.ref f_read_piece)
  f_is_name : Addr
  d_is_name : FuncData
  F_is_name : Fun K "is_name" "is_name" s_is_name f_is_name d_is_name
  b_is_name : Binds K d_is_name ["thing"] []
  m_is_name : mg "is_name" = some (.ref f_is_name)
  f_read_row : Addr
  d_read_row : FuncData
  F_read_row : Fun K "read_row" "read_row" s_read_row f_read_row d_read_row
  b_read_row : Binds K d_read_row ["text"] []
  m_read_row : mg "read_row" = some (.ref f_read_row)
  f_word : Addr
  d_word : FuncData
  F_word : Fun K "_word" "_word" s_word f_word d_word
  b_word : Binds K d_word ["token"] []
  m_word : mg "_word" = some (.ref f_word)
  f_show_piece : Addr
  d_show_piece : FuncData
  F_show_piece : Fun K "show_piece" "show_piece" s_show_piece f_show_piece d_show_piece
  b_show_piece : Binds K d_show_piece ["piece"] []
  m_show_piece : mg "show_piece" = some (.ref f_show_piece)
  f_show_row : Addr
  d_show_row : FuncData
  F_show_row : Fun K "show_row" "show_row" s_show_row f_show_row d_show_row
  b_show_row : Binds K d_show_row ["names"] []
  m_show_row : mg "show_row" = some (.ref f_show_row)
  f_law : Addr
  d_law : FuncData
  F_law : Fun K "law" "law" s_law f_law d_law
  b_law : Binds K d_law ["_law_script"] []
  m_law : mg "law" = some (.ref f_law)
  c_NoText : Addr
  m_NoText : mg "NoText" = some (.ref c_NoText)
  ox_NoText : OexC K c_NoText
  oi_NoText : PySem.W.findIn K (.ref c_NoText) "__init__" = some (some (.ref f_NoText_init))
  ot_NoText : PySem.W.typeIn K (.ref f_NoText_init) = some (.type "function")
  nf_NoText_at : PySem.W.findIn K (.ref c_NoText) "at" = some none
  c_Piece : Addr
  m_Piece : mg "Piece" = some (.ref c_Piece)
  cl_Piece : Cls K c_Piece
  mk_Piece : Mk K c_Piece f_Piece_init
  mt_Piece_eq : Meth K c_Piece "__eq__" f_Piece_eq
  mt_Piece_tokens : Meth K c_Piece "tokens" f_Piece_tokens
  cr_Piece : ClX.CRead K c_Piece (.type "type")
  u_Piece_MOST : Value
  cv_Piece_MOST : ClX.CVal K c_Piece (.type "type") "MOST" (.int 40) u_Piece_MOST
  ic_Piece : PySem.W.isClsIn K c_Piece = true
  it_Piece : PySem.W.typeIn K (.ref c_Piece) = some (.type "type")
  ca_Piece : PySem.W.findIn K (.ref c_Piece) "__class__" = some (some (.builtin "object.__class__"))
  cg_Piece : PySem.W.specialIn K (.builtin "object.__class__") "__get__" = some (some (.builtin "getset_descriptor.__get__"))
  ct_Piece : PySem.W.takesIn K (.builtin "object.__class__") = some true
  mro_Piece : PySem.W.mroIn K c_Piece (.type "object") = some true
  ne_Piece : PySem.W.findIn K (.ref c_Piece) "__ne__" = some (some (.builtin "object.__ne__"))
  na_Piece_places : NoAttr K c_Piece "_places"
  na_Piece_signs : NoAttr K c_Piece "_signs"
  na_Piece_tokens : NoAttr K c_Piece "_tokens"
  n_abs : mg "abs" = none
  n_all : mg "all" = none
  n_bool : mg "bool" = none
  n_int : mg "int" = none
  n_isinstance : mg "isinstance" = none
  n_len : mg "len" = none
  n_list : mg "list" = none
  n_min : mg "min" = none
  n_range : mg "range" = none
  n_repr : mg "repr" = none
  n_str : mg "str" = none
  n_sum : mg "sum" = none
  n_tuple : mg "tuple" = none
  n_zip : mg "zip" = none
  t_MOST_DIGITS : Tok
  m_MOST_DIGITS : mg "MOST_DIGITS" = some (.int 3 t_MOST_DIGITS)
  t_MOST_DISTANCE : Tok
  m_MOST_DISTANCE : mg "MOST_DISTANCE" = some (.int 12 t_MOST_DISTANCE)
  t_MOST_LETTERS : Tok
  m_MOST_LETTERS : mg "MOST_LETTERS" = some (.int 8 t_MOST_LETTERS)
  t_MOST_SIGNS : Tok
  m_MOST_SIGNS : mg "MOST_SIGNS" = some (.int 6 t_MOST_SIGNS)
  t_MOST_SIZE : Tok
  m_MOST_SIZE : mg "MOST_SIZE" = some (.int 40 t_MOST_SIZE)
  t_NO_NAMES : Tok
  m_NO_NAMES : mg "NO_NAMES" = some (.str "-" t_NO_NAMES)
section
local macro_rules | `(tactic| walk_at "ne") => `(tactic| first
  | assumption
  | (apply Ne.symm; assumption)
  | exact ne_of_none (by walk_at "at") (by assumption)
  | exact (ne_of_none (by walk_at "at") (by assumption)).symm)
local macro_rules | `(tactic| walk_at "at") => `(tactic| first
  | assumption
  | exact upd_same
  | (rw [upd_ne (by walk_at "ne")]; walk_at "at"))
local macro_rules | `(tactic| walk_at "sq") => `(tactic| first
  | assumption
  | exact SqT.of (by with_unfolding_all walk_at "at"))
local macro_rules | `(tactic| walk_at "kn") => `(tactic| first | (with_reducible refine iteNeF ?_) | (refine iteNeT (by decide +kernel) ?_))
local macro_rules | `(tactic| walk_at "keep") => `(tactic| first
  | exact KeepB.refl _ _
  | assumption
  | (refine KeepB.trans ?_ KeepB.put; walk_at "keep")
  | (refine KeepB.trans ?_ (KeepB.new (by assumption)); walk_at "keep"))
local macro_rules | `(tactic| walk_at "num") => `(tactic| first | omega | (dsimp only; omega) | (refine szl ?_; omega) | exact szl (Nat.le_of_ble_eq_true rfl) | (refine szt ?_; omega) | decide)
local macro_rules | `(tactic| walk_at "r1") => `(tactic| first
  | (with_reducible refine iteT ?_)
  | (with_reducible refine iteF ?_)
  | (with_reducible refine gCons_go ?_)
  | (with_reducible refine gNil_go ?_)
  | (with_reducible refine gName_go ?_)
  | ((with_reducible refine' gTup_go ?ha ?hl ?_); (case ha => walk_at "sq"); (case hl => rfl))
  | ((fail_if_success (with_reducible refine iteK ?_ ?_)); first
  | refine ⟨_, rfl, ?_⟩
  | refine ⟨_, _, rfl, rfl, ?_⟩
  | refine And.intro rfl ?_
  | refine ⟨_, _, _, _, rfl, rfl, by assumption, rfl, ?_⟩
  | refine ⟨_, _, _, _, rfl, rfl, SqL.of (by walk_at "at"), rfl, ?_⟩
  | refine ⟨_, _, _, _, rfl, rfl, SqT.of (by walk_at "at"), rfl, ?_⟩
  | refine ⟨_, _, _, _, rfl, rfl, (by walk_at "at"), rfl, ?_⟩
  | refine ⟨_, _, rfl, .inl ⟨_, by assumption, rfl⟩, ?_⟩
  | refine ⟨_, _, rfl, .inr ⟨_, by assumption, rfl⟩, ?_⟩
  | refine ⟨_, _, rfl, .inl ⟨_, SqL.of (by walk_at "at"), rfl⟩, ?_⟩
  | refine ⟨_, _, rfl, .inr ⟨_, SqT.of (by walk_at "at"), rfl⟩, ?_⟩
  | refine ⟨_, _, rfl, ⟨(by walk_at "num"), rfl⟩, ?_⟩
  | refine And.intro (Or.inl ⟨rfl, _, SqL.of (by walk_at "at")⟩) ?_
  | refine .inl ⟨_, rfl, ?_⟩
  | refine And.intro (by walk_at "num") ?_
  | refine And.intro (show CMul _ _ by first | exact .inl ⟨by omega, by omega⟩ | exact .inr ⟨by omega, by omega⟩) ?_
  | refine And.intro (show CDiv _ _ from ⟨by omega, by omega⟩) ?_))
local macro_rules | `(tactic| walk_at "kk") => `(tactic| first | (with_reducible refine iteStY ?_) | ((refine iteStN (by decide +kernel) ?_); walk_at "rd"; (with_reducible refine iteStY ?_)))
local macro_rules | `(tactic| walk_at "kd") => `(tactic| first | (refine iteKY (by first | rfl | assumption | (simp; done) | (simp; omega)) ?_) | (refine iteKN (by first | rfl | assumption | (simp; done) | (simp; omega)) ?_))
local macro_rules | `(tactic| walk_at "ks") => `(tactic| first | (with_reducible refine iteStY ?_) | (refine iteStN (by decide +kernel) ?_) | (refine iteStNS (by decide +kernel) ?_))
local macro_rules | `(tactic| walk_at "rd") => `(tactic| repeat (walk_at "r1"))
local macro_rules | `(tactic| walk_at "kp0") => `(tactic| first
  | assumption
  | exact upd_same
  | ((refine upd_new (by assumption) ?_); walk_at "kp0")
  | ((refine same_get (by assumption) ?_); walk_at "kp0"))
local macro_rules | `(tactic| walk_at "bg") => `(tactic| first
  | assumption
  | ((refine bag_upd ?_ (by assumption)); walk_at "bg")
  | ((refine bag_same ?_ (by assumption)); walk_at "bg")
  | ((refine bag_put ?_ (by assumption) (by assumption)); walk_at "bg"))
local macro_rules | `(tactic| walk_at "lno") => `(tactic| first
  | exact .inl (by assumption)
  | exact lst_lst (by walk_at "kp0")
  | exact lno0 (by assumption) (by walk_at "bg")
  | exact ins_lst (by walk_at "kp0"))
local macro_rules | `(tactic| walk_at "nb") => `(tactic| first
  | (with_unfolding_all exact trivial)
  | exact notBag_ints _
  | exact notBag_toks (by assumption)
  | exact notBag_plcs (by assumption))
local macro_rules | `(tactic| walk_at "nk") => `(tactic| first
  | assumption
  | (apply Ne.symm; assumption)
  | (refine none_ne (by assumption) ?_; walk_at "kp0")
  | (refine none_ne' (by assumption) ?_; walk_at "kp0")
  | exact neb0 (by assumption) (by assumption) (by walk_at "bg")
  | exact neb0' (by assumption) (by assumption) (by walk_at "bg")
  | exact nec0 (by assumption) (by assumption) (by walk_at "bg")
  | exact nec0' (by assumption) (by assumption) (by walk_at "bg"))
local macro_rules | `(tactic| walk_at "kp") => `(tactic| first
  | assumption
  | exact upd_same
  | ((refine upd_new (by assumption) ?_); walk_at "kp")
  | ((refine upd_get (by walk_at "nk") ?_); walk_at "kp")
  | ((refine same_get (by assumption) ?_); walk_at "kp")
  | ((refine bag_get0 (by assumption) (by assumption) (by walk_at "bg") (by walk_at "nb") ?_); walk_at "kp")
  | ((refine keep_get (by assumption) (by walk_at "nk") ?_); walk_at "kp")
  | ((refine bag_upd ?_ (by assumption)); walk_at "bg")
  | ((refine bag_same ?_ (by assumption)); walk_at "bg")
  | ((refine bag_put ?_ (by walk_at "nk") (by walk_at "nk")); walk_at "bg")
  | ((refine SqL.of ?_); walk_at "kp")
  | ((refine SqT.of ?_); walk_at "kp")
  | ((refine Toks.same (by assumption) ?_); walk_at "kp")
  | ((refine Toks.same (same_new (by assumption)) ?_); walk_at "kp")
  | ((refine Toks.bag0 (by assumption) (by assumption) (by walk_at "bg") ?_); walk_at "kp")
  | ((refine Toks.keep (by assumption) (by walk_at "lno") ?_); walk_at "kp")
  | ((refine Toks.put (by walk_at "kp0") ?_); walk_at "kp")
  | ((refine Plcs.same (by assumption) ?_); walk_at "kp")
  | ((refine Plcs.same (same_new (by assumption)) ?_); walk_at "kp")
  | ((refine Plcs.bag0 (by assumption) (by assumption) (by walk_at "bg") ?_); walk_at "kp")
  | ((refine Plcs.keep (by assumption) (by walk_at "lno") ?_); walk_at "kp")
  | ((refine Plcs.put (by walk_at "kp0") ?_); walk_at "kp")
  | ((refine TokAt.same (by assumption) ?_); walk_at "kp")
  | ((refine TokAt.same (same_new (by assumption)) ?_); walk_at "kp")
  | ((refine TokAt.bag0 (by assumption) (by assumption) (by walk_at "bg") ?_); walk_at "kp")
  | ((refine TokAt.put (by walk_at "kp0") ?_); walk_at "kp")
  | ((refine TupAt.same (by assumption) ?_); walk_at "kp")
  | ((refine TupAt.same (same_new (by assumption)) ?_); walk_at "kp")
  | ((refine TupAt.bag0 (by assumption) (by assumption) (by walk_at "bg") ?_); walk_at "kp")
  | ((refine TupAt.put (by walk_at "kp0") ?_); walk_at "kp")
  | ((refine PieceAt.same (by assumption) ?_); walk_at "kp")
  | ((refine PieceAt.same (same_new (by assumption)) ?_); walk_at "kp")
  | ((refine PieceAt.bag0 (by assumption) (by assumption) (by walk_at "bg") ?_); walk_at "kp")
  | ((refine TellAt.same (by assumption) ?_); walk_at "kp")
  | ((refine TellAt.same (same_new (by assumption)) ?_); walk_at "kp")
  | ((refine TellAt.bag0 (by assumption) (by assumption) (by assumption) (by walk_at "bg") ?_); walk_at "kp")
  | ((refine SqL.same' (by assumption) ?_); walk_at "kp")
  | ((refine SqL.same' (same_new (by assumption)) ?_); walk_at "kp")
  | ((refine sqT_same (by assumption) ?_); walk_at "kp")
  | ((refine sqT_same (same_new (by assumption)) ?_); walk_at "kp"))
local macro_rules | `(tactic| walk_at "sm") => `(tactic| first
  | exact Same.refl _
  | assumption
  | ((refine Same.trans ?_ (by assumption)); walk_at "sm")
  | ((refine Same.trans ?_ (same_new (by assumption))); walk_at "sm"))
local macro_rules | `(tactic| walk_at "kb") => `(tactic| first
  | exact KeepB.refl _ _
  | assumption
  | exact KeepB.of_same (by assumption)
  | ((refine KeepB.trans ?_ KeepB.put); walk_at "kb")
  | ((refine KeepB.trans ?_ (KeepB.new (by assumption))); walk_at "kb")
  | ((refine KeepB.trans ?_ (by assumption : KeepB _ _ _)); walk_at "kb")
  | ((refine KeepB.trans ?_ (KeepB.of_same (by assumption))); walk_at "kb"))
local macro_rules | `(tactic| walk_at "fr") => `(tactic| first
  | assumption
  | (refine free_same ?_ (by assumption); walk_at "fr")
  | exact free_upd (by assumption)
  | exact free_upd (free_upd (by assumption))
  | exact free_upd (free_upd (free_upd (by assumption))))
section
variable {P : Program} {w : World} {K : PySem.W.Frag} {mg : Str → Option Value} {base : Heap}
def sp_ascends : Sp := fun vs H Q _ => ∃ z : Str, vs = [.str z] ∧ z.length ≤ 1000 ∧ ∀ H', Same H H' → Q (.bl (ascB (cl z))) H'
theorem ok_ascends (T : Txt K mg) : FnOk P w K mg base CX0 1 T.f_ascends T.d_ascends ["text"] sp_ascends := by
  have nd := sc_ascends.nd
  refine T.F_ascends.ok sc_ascends (fun vs H Q E h => ?_) (fun cdv A outer s H vs Q E hr h => ?_)
  · obtain ⟨z, rfl, _⟩ := h
    rfl
  · obtain ⟨z, rfl, hz, k⟩ := h
    refine ⟨_, (pss_one (ps_ret (pe_callB (id := "all") (cr_all rfl) (by rfl) T.n_all (by decide +kernel) (pa_cons (pe_lc (own := [("one", 1), ("other", 2)]) (g := gTup K 2 (gCons (gName 1) (gCons (gName 2) (gNil)))) (by rfl) nd (pi_zipS (by rfl) T.n_zip (pa_cons (pv 0) (pa_cons (pe_slice sl_str (pv 0) (po_some pe_int) po_none) pa_nil))) (blkOk_by (own := [("one", 1), ("other", 2)]) (N := N_ascends) (sc := defScope s_ascends) (by decide +kernel)) (fun _ _ _ _ _ => (pg_tup rfl (pgs_cons (pg_name (i := 1) nd rfl (Or.inl rfl)) (pgs_cons (pg_name (i := 2) nd rfl (Or.inl rfl)) pgs_nil)))) (fun _ _ _ _ _ => pts_nil) (fun _ _ _ _ _ => (pe_cmpR op_lt_str (pv 1) (pv 2) (nomark _)))) pa_nil)))), ?_⟩
    walk_at "rd"
    refine ⟨_, _, rfl, ?_⟩
    intro D hD
    have ht : (cl (cutS z (some 1) none)) = (cl z).tail := cut1 z
    have hl : ((cl z).zip (cl z).tail).length = min z.cps.size (cutS z (some 1) none).cps.size := by
      rw [List.length_zip, ← ht]; rfl
    have hlz : (cl z).length = z.length := cl_len z
    refine lc_it walk_zipS (Acc ((cl z).zip (cl z).tail) (fun p => .bl (decide (p.1 < p.2))) H D) (Acc.start _ _ _ _) (fun _ _ _ _ => trivial) ?_ ?_
    · rintro i _ H2 _ hi ka ⟨Tp, x, y, rfl, hT, rfl, hx, hy⟩
      obtain ⟨c, hc, rfl⟩ := Option.map_eq_some_iff.mp hx
      obtain ⟨d, hd, rfl⟩ := Option.map_eq_some_iff.mp hy
      refine ⟨_, _, rfl, SqT.of upd_same, rfl, _, _, rfl, ?_⟩
      refine ⟨_, _, rfl, ?_⟩
      walk_at "rd"
      have hz2 : ((cl z).zip (cl z).tail)[i]? = some (c, d) := by
        rw [List.getElem?_zip_eq_some]
        exact ⟨cl_get hc, by rw [← ht]; exact cl_get hd⟩
      refine ka.step (KeepB.new hT) (upd_ne (ne_of_none ka.2 hT)) hz2 (by rw [List.length_zip]; omega) ?_
      rw [one_lt]
    · rw [← hl]
      intro H2 ka
      refine ⟨_, ((cl z).zip (cl z).tail).map fun p => decide (p.1 < p.2), rfl, SqL.of (by rw [List.map_map]; exact Acc.all ka), ?_⟩
      rw [asc_zip]
      exact k _ (ka.same hD)
def sp_is_text (K : PySem.W.Frag) : Sp := fun vs H Q _ => ∃ (z : Str) (x : V) (n : String), vs = [.str z, x] ∧ Ty7 K H x n ∧ z.length ≤ 1000 ∧
  (∀ y, x = .str y → y.length ≤ 1000 ∧ ∀ H', Same H H' → Q (.bl ((cl y).all fun c => decide (c ∈ cl z))) H') ∧ (n ≠ "str" → Q (.bl false) H)
theorem ok_is_text (T : Txt K mg) : FnOk P w K mg base CX0 1 T.f_is_text T.d_is_text ["signs", "thing"] (sp_is_text K) := by
  have nd := sc_is_text.nd
  refine T.F_is_text.ok sc_is_text (fun vs H Q E h => ?_) (fun cdv A outer s H vs Q E hr h => ?_)
  · obtain ⟨z, x, n, rfl, _⟩ := h
    rfl
  · obtain ⟨z, x, n, rfl, hx, hz, k1, k2⟩ := h
    refine ⟨_, (pss_one (ps_ret (pe_and (pe_callB (id := "isinstance") (call_isiK' (K := K) rfl) (by rfl) T.n_isinstance (by decide +kernel) (pa_cons (pv 1) (pa_cons (pe_bltn (v := .ty "str") (by rfl) T.n_str (by decide +kernel) rfl) pa_nil))) (pe_one (pe_callB (id := "all") (cr_all rfl) (by rfl) T.n_all (by decide +kernel) (pa_cons (pe_lc (own := [("sign", 2)]) (g := gName 2) (by rfl) nd (pi_str (pv 1)) (blkOk_by (own := [("sign", 2)]) (N := N_is_text) (sc := defScope s_is_text) (by decide +kernel)) (fun _ _ _ _ _ => (pg_name (i := 2) nd rfl (Or.inl rfl))) (fun _ _ _ _ _ => pts_nil) (fun _ _ _ _ _ => (pe_cmpR op_in_sign (pv 2) (pv 0) (by rfl)))) pa_nil)))))), ?_⟩
    walk_at "rd"
    refine ⟨_, _, _, _, _, rfl, .ty _, hx.1, kit7 hx.2 (.inl rfl), ?_⟩
    walk_at "rd"
    refine iteK (fun hn => ?_) (fun hn => ?_)
    · have hn := beq_iff_eq.mp hn
      subst hn
      obtain ⟨y, rfl⟩ := hx.str_inv
      obtain ⟨hy, k1⟩ := k1 y rfl
      walk_at "rd"
      intro D hD
      refine lc_it walk_str (Acc (cl y) (fun c => .bl (decide (c ∈ cl z))) H D) (Acc.start _ _ _ _) (fun _ _ _ _ => trivial) ?_ ?_
      · rintro i _ H2 _ hi ka ⟨rfl, c, hc, rfl⟩
        walk_at "rd"
        exact ka.step0 (cl_get hc) (by rw [cl_len]; omega) rfl
      · intro H2 ka
        refine ⟨_, (cl y).map fun c => decide (c ∈ cl z), rfl, SqL.of (by rw [List.map_map]; exact Acc.all ka), ?_⟩
        have e : ((cl y).map fun c => decide (c ∈ cl z)).all id = (cl y).all fun c => decide (c ∈ cl z) := by
          rw [List.all_map]; rfl
        rw [e]
        exact k1 _ (ka.same hD)
    · exact k2 (by intro e; rw [e] at hn; simp at hn)
def sp_is_choice (K : PySem.W.Frag) : Sp := fun vs H Q _ => ∃ (z : Str) (x : V) (n : String), vs = [.str z, x] ∧ Ty7 K H x n ∧ z.length ≤ 1000 ∧
  (∀ y, x = .str y → y.length ≤ 1000000 ∧ ∀ H', Same H H' → Q (.bl (choiceB z y)) H') ∧ (strV x = false → Q (.bl false) H)
theorem ok_is_choice (T : Txt K mg) : FnOk P w K mg base CX0 2 T.f_is_choice T.d_is_choice ["signs", "thing"] (sp_is_choice K) := by
  have nd := sc_is_choice.nd
  refine T.F_is_choice.ok sc_is_choice (fun vs H Q E h => ?_) (fun cdv A outer s H vs Q E hr h => ?_)
  · obtain ⟨z, x, n, rfl, _⟩ := h
    rfl
  · obtain ⟨z, x, n, rfl, hx, hz, k1, k2⟩ := h
    refine ⟨_, (pss_cons (ps_if (PW.pt (pw_or (pt_not (pt_val (pe_callB (id := "isinstance") (call_isiK' (K := K) rfl) (by rfl) T.n_isinstance (by decide +kernel) (pa_cons (pv 1) (pa_cons (pe_bltn (v := .ty "str") (by rfl) T.n_str (by decide +kernel) rfl) pa_nil))))) (pw_or1 (pt_not (pt_chain op_le op_le pe_int (pe_callB (id := "len") (call_lenK (K := K) rfl) (by rfl) T.n_len (by decide +kernel) (pa_cons (pv 1) pa_nil)) (pe_callB (id := "len") (call_lenK (K := K) rfl) (by rfl) T.n_len (by decide +kernel) (pa_cons (pv 0) pa_nil))))))) (pss_one (ps_ret pe_bl)) pss_nil)
    (pss_one (ps_ret (pe_and (pe_call (ok_is_text T) (hr.mono (by decide)) (by rfl) T.m_is_text T.F_is_text.kp T.b_is_text .nil pass0 (pa_cons (pv 0) (pa_cons (pv 1) pa_nil))) (pe_one (pe_call (ok_ascends T) (hr.mono (by decide)) (by rfl) T.m_ascends T.F_ascends.kp T.b_ascends .nil pass0 (pa_cons (pv 1) pa_nil))))))), ?_⟩
    walk_at "rd"
    refine ⟨_, _, _, _, _, rfl, .ty _, hx.1, kit7 hx.2 (.inl rfl), ?_⟩
    walk_at "rd"
    refine iteK (fun hn => ?_) (fun hn => ?_)
    · walk_at "rd"
      refine k2 ?_
      rw [← hx.str_iff]
      simpa using hn
    · have hs : n = "str" := by simpa using hn
      subst hs
      obtain ⟨y, rfl⟩ := hx.str_inv
      obtain ⟨hy, k1⟩ := k1 y rfl
      walk_at "rd"
      have fin : ∀ b, choiceB z y = b → Q (.bl b) H := fun b e => by
        have q := k1 _ (Same.refl H)
        rwa [e] at q
      refine iteK (fun h1 => ?_) (fun h1 => ?_)
      · walk_at "rd"
        refine iteK (fun h2 => ?_) (fun h2 => ?_)
        · walk_at "rd"
          refine fin _ ?_
          have h2' : ¬ y.length ≤ z.length := by simpa using h2
          simp [choiceB, h2']
        · have h2' : y.length ≤ z.length := by simpa using h2
          have h1' : 1 ≤ y.length := by
            simp at h1
            omega
          walk_at "rd"
          refine ⟨z, _, _, rfl, hx, hz, fun y' e => ?_, fun e => absurd rfl e⟩
          cases e
          refine ⟨by omega, fun H1 s1 => ?_⟩
          walk_at "rd"
          refine iteK (fun h3 => ?_) (fun h3 => ?_)
          · walk_at "rd"
            intro H2 s2
            have q := k1 _ (s1.trans s2)
            have e : choiceB z y = ascB (cl y) := by
              have : overB z y = true := h3
              simp [choiceB, h1', h2', this]
            rwa [e] at q
          · have q := k1 _ s1
            have e : choiceB z y = false := by
              have : overB z y = false := h3
              simp [choiceB, this]
            rw [e] at q
            have h3' : ((cl y).all fun c => decide (c ∈ cl z)) = false := h3
            exact q
      · walk_at "rd"
        refine fin _ ?_
        have h1' : ¬ 1 ≤ y.length := by
          simp at h1
          omega
        simp [choiceB, h1']
def sp_is_integer (K : PySem.W.Frag) : Sp := fun vs H Q _ => ∃ (x : V) (n : String), vs = [x] ∧ Ty7 K H x n ∧ Q (.bl (intV x)) H
theorem ok_is_integer (T : Txt K mg) : FnOk P w K mg base CX0 1 T.f_is_integer T.d_is_integer ["thing"] (sp_is_integer K) := by
  have nd := sc_is_integer.nd
  refine T.F_is_integer.ok sc_is_integer (fun vs H Q E h => ?_) (fun cdv A outer s H vs Q E hr h => ?_)
  · obtain ⟨x, n, rfl, _⟩ := h
    rfl
  · obtain ⟨x, n, rfl, hx, k⟩ := h
    refine ⟨_, (pss_one (ps_ret (pe_and (pe_callB (id := "isinstance") (call_isiK' (K := K) rfl) (by rfl) T.n_isinstance (by decide +kernel) (pa_cons (pv 0) (pa_cons (pe_bltn (v := .ty "int") (by rfl) T.n_int (by decide +kernel) rfl) pa_nil))) (pe_one (pe_not (pe_callB (id := "isinstance") (call_isiK' (K := K) rfl) (by rfl) T.n_isinstance (by decide +kernel) (pa_cons (pv 0) (pa_cons (pe_bltn (v := .ty "bool") (by rfl) T.n_bool (by decide +kernel) rfl) pa_nil)))))))), ?_⟩
    walk_at "rd"
    refine ⟨_, _, _, _, _, rfl, .ty _, hx.1, kit7i hx.2, ?_⟩
    walk_at "rd"
    refine iteK (fun hn => ?_) (fun hn => ?_)
    · walk_at "rd"
      refine ⟨_, _, _, _, _, rfl, .ty _, hx.1, kit7 hx.2 (.inr (.inr (.inr (.inr rfl)))), ?_⟩
      walk_at "rd"
      have e : (!(n == "bool")) = intV x := by
        rw [← hx.int_iff]
        by_cases h1 : n = "int"
        · subst h1; rfl
        · by_cases h2 : n = "bool"
          · subst h2; rfl
          · exfalso; simp [h1, h2] at hn
      rw [e]
      exact k
    · have e : intV x = false := by
        rw [← hx.int_iff]
        simp only [Bool.or_eq_false_iff] at hn
        exact hn.1
      rw [e] at k
      exact k
def sp_is_within (K : PySem.W.Frag) : Sp := fun vs H Q _ => ∃ (x : V) (n : String) (a b : Int), vs = [x, .int a, .int b] ∧ Ty7 K H x n ∧ Q (.bl (withinV a b x)) H
theorem ok_is_within (T : Txt K mg) : FnOk P w K mg base CX0 2 T.f_is_within T.d_is_within ["thing", "least", "most"] (sp_is_within K) := by
  have nd := sc_is_within.nd
  refine T.F_is_within.ok sc_is_within (fun vs H Q E h => ?_) (fun cdv A outer s H vs Q E hr h => ?_)
  · obtain ⟨x, n, a, b, rfl, _⟩ := h
    rfl
  · obtain ⟨x, n, a, b, rfl, hx, k⟩ := h
    refine ⟨_, (pss_one (ps_ret (pe_and (pe_call (ok_is_integer T) (hr.mono (by decide)) (by rfl) T.m_is_integer T.F_is_integer.kp T.b_is_integer .nil pass0 (pa_cons (pv 0) pa_nil)) (pe_one (pe_chain op_le op_le (pv 1) (pv 0) (pv 2)))))), ?_⟩
    walk_at "rd"
    refine ⟨x, n, rfl, hx, ?_⟩
    walk_at "rd"
    cases x with
    | int i =>
      refine iteT ?_
      walk_at "rd"
      refine iteK (fun h1 => ?_) (fun h1 => ?_)
      · walk_at "rd"
        have e : withinV a b (.int i) = decide (i ≤ b) := by
          show (decide (a ≤ i) && decide (i ≤ b)) = _
          rw [h1, Bool.true_and]
        rw [e] at k
        exact k
      · have e : withinV a b (.int i) = false := by
          show (decide (a ≤ i) && decide (i ≤ b)) = _
          rw [h1, Bool.false_and]
        rw [e] at k
        exact k
    | _ => exact k
def sp_is_distance (K : PySem.W.Frag) : Sp := fun vs H Q _ => ∃ (x : V) (n : String), vs = [x] ∧ Ty7 K H x n ∧ Q (.bl (withinV 1 12 x)) H
theorem ok_is_distance (T : Txt K mg) : FnOk P w K mg base CX0 3 T.f_is_distance T.d_is_distance ["thing"] (sp_is_distance K) := by
  have nd := sc_is_distance.nd
  refine T.F_is_distance.ok sc_is_distance (fun vs H Q E h => ?_) (fun cdv A outer s H vs Q E hr h => ?_)
  · obtain ⟨x, n, rfl, _⟩ := h
    rfl
  · obtain ⟨x, n, rfl, hx, k⟩ := h
    refine ⟨_, (pss_one (ps_ret (pe_call (ok_is_within T) (hr.mono (by decide)) (by rfl) T.m_is_within T.F_is_within.kp T.b_is_within .nil pass0 (pa_cons (pv 0) (pa_cons pe_int (pa_cons (pe_glob (v := .int 12) (by rfl) T.m_MOST_DISTANCE ⟨_, rfl⟩) pa_nil)))))), ?_⟩
    walk_at "rd"
    exact ⟨x, n, _, _, rfl, hx, k⟩
def sp_is_token (K : PySem.W.Frag) : Sp := fun vs H Q _ => ∃ (z : Str) (a : Addr) (xs : List V), vs = [.str z, .ref a] ∧ SqT K H a xs ∧ tokV z xs = true ∧ z.length ≤ 1000 ∧ ∀ H', Same H H' → Q (.bl true) H'
theorem ok_is_token (T : Txt K mg) : FnOk P w K mg base CX0 4 T.f_is_token T.d_is_token ["signs", "thing"] (sp_is_token K) := by
  have nd := sc_is_token.nd
  refine T.F_is_token.ok sc_is_token (fun vs H Q E h => ?_) (fun cdv A outer s H vs Q E hr h => ?_)
  · obtain ⟨z, a, xs, rfl, _⟩ := h
    rfl
  · obtain ⟨z, a, xs, rfl, ha, ht, hz, k⟩ := h
    refine ⟨_, (pss_cons (ps_if (PW.pt (pw_or (pt_not (pt_val (pe_callB (id := "isinstance") (call_isiK' (K := K) rfl) (by rfl) T.n_isinstance (by decide +kernel) (pa_cons (pv 1) (pa_cons (pe_bltn (v := .ty "tuple") (by rfl) T.n_tuple (by decide +kernel) rfl) pa_nil))))) (pw_or (pt_cmpR op_eq (pe_callB (id := "len") (call_lenK (K := K) rfl) (by rfl) T.n_len (by decide +kernel) (pa_cons (pv 1) pa_nil)) pe_int (nomark _)) (pw_or1 (pt_not (pt_val (pe_callB (id := "isinstance") (call_isiK' (K := K) rfl) (by rfl) T.n_isinstance (by decide +kernel) (pa_cons (pe_ix (ix_tupK (K := K) rfl) (pv 1) pe_int (fun _ _ => rfl)) (pa_cons (pe_bltn (v := .ty "str") (by rfl) T.n_str (by decide +kernel) rfl) pa_nil))))))))) (pss_one (ps_ret pe_bl)) pss_nil)
    (pss_cons (ps_set (i := 2) nd rfl (Or.inl rfl) (pe_ix (ix_tupK (K := K) rfl) (pv 1) pe_int (fun _ _ => rfl)))
    (pss_cons (ps_if (pt_cmpR op_eq (pv 2) pe_str (nomark _)) (pss_one (ps_ret (pe_cmpR op_eq (pe_callB (id := "len") (call_lenK (K := K) rfl) (by rfl) T.n_len (by decide +kernel) (pa_cons (pv 1) pa_nil)) pe_int (nomark _)))) pss_nil)
    (pss_cons (ps_if (pt_cmpR op_eq (pv 2) pe_str (nomark _)) (pss_one (ps_ret (pe_and (pe_cmpR op_eq (pe_callB (id := "len") (call_lenK (K := K) rfl) (by rfl) T.n_len (by decide +kernel) (pa_cons (pv 1) pa_nil)) pe_int (nomark _)) (pe_and (pe_call (ok_is_text T) (hr.mono (by decide)) (by rfl) T.m_is_text T.F_is_text.kp T.b_is_text .nil pass0 (pa_cons (pv 0) (pa_cons (pe_ix (ix_tupK (K := K) rfl) (pv 1) pe_int (fun _ _ => rfl)) pa_nil))) (pe_one (pe_chain op_le op_le pe_int (pe_callB (id := "len") (call_lenK (K := K) rfl) (by rfl) T.n_len (by decide +kernel) (pa_cons (pe_ix (ix_tupK (K := K) rfl) (pv 1) pe_int (fun _ _ => rfl)) pa_nil)) (pe_glob (v := .int 40) (by rfl) T.m_MOST_SIZE ⟨_, rfl⟩))))))) pss_nil)
    (pss_cons (ps_if (pt_cmpR op_eq (pv 2) pe_str (nomark _)) (pss_one (ps_ret (pe_and (pe_cmpR op_eq (pe_callB (id := "len") (call_lenK (K := K) rfl) (by rfl) T.n_len (by decide +kernel) (pa_cons (pv 1) pa_nil)) pe_int (nomark _)) (pe_one (pe_call (ok_is_choice T) (hr.mono (by decide)) (by rfl) T.m_is_choice T.F_is_choice.kp T.b_is_choice .nil pass0 (pa_cons (pv 0) (pa_cons (pe_ix (ix_tupK (K := K) rfl) (pv 1) pe_int (fun _ _ => rfl)) pa_nil))))))) pss_nil)
    (pss_cons (ps_if (PW.pt (pw_or (pt_cmpR op_eq (pv 2) pe_str (nomark _)) (pw_or1 (pt_cmpR op_eq (pv 2) pe_str (nomark _))))) (pss_one (ps_ret (pe_and (pe_cmpR op_eq (pe_callB (id := "len") (call_lenK (K := K) rfl) (by rfl) T.n_len (by decide +kernel) (pa_cons (pv 1) pa_nil)) pe_int (nomark _)) (pe_and (pe_call (ok_is_distance T) (hr.mono (by decide)) (by rfl) T.m_is_distance T.F_is_distance.kp T.b_is_distance .nil pass0 (pa_cons (pe_ix (ix_tupK (K := K) rfl) (pv 1) pe_int (fun _ _ => rfl)) pa_nil)) (pe_one (pe_call (ok_is_within T) (hr.mono (by decide)) (by rfl) T.m_is_within T.F_is_within.kp T.b_is_within .nil pass0 (pa_cons (pe_ix (ix_tupK (K := K) rfl) (pv 1) pe_int (fun _ _ => rfl)) (pa_cons pe_int (pa_cons (pe_glob (v := .int 40) (by rfl) T.m_MOST_SIZE ⟨_, rfl⟩) pa_nil))))))))) pss_nil)
    (pss_one (ps_ret pe_bl)))))))), ?_⟩
    have hx := Ty7.of_tup ha
    obtain ⟨kd, rest, rfl, hk⟩ := tok_inv ht
    walk_at "rd"
    refine ⟨_, _, _, _, _, rfl, .ty _, hx.1, kit7 hx.2 (.inr (.inl rfl)), ?_⟩
    walk_at "rd"
    refine iteKN rfl ?_
    walk_at "rd"
    have e0 : decide (V.int ((V.str kd :: rest).length : Nat) = V.int 0) = false := by
      rw [decide_eq_false]
      intro e
      have := V.int.inj e
      simp at this
      omega
    refine iteKN e0 ?_
    rcases hk with ⟨rfl, rfl⟩ | ⟨y, rfl, rfl, h1, h2, h3⟩ | ⟨y, rfl, rfl, h1⟩ | ⟨d, n, hkd, rfl, h1, h2, h3, h4⟩
    · walk_at "rd"
      refine ⟨_, _, _, _, _, rfl, .ty _, (Ty7.str (H := H)).1, kit7 (n := "str") (by decide) (.inl rfl), ?_⟩
      walk_at "rd"
      refine iteKN rfl ?_
      walk_at "rd"
      walk_at "ks"
      walk_at "rd"
      exact k _ (Same.refl _)
    · have hy : y.length ≤ 1000 := by omega
      walk_at "rd"
      refine ⟨_, _, _, _, _, rfl, .ty _, (Ty7.str (H := H)).1, kit7 (n := "str") (by decide) (.inl rfl), ?_⟩
      walk_at "rd"
      refine iteKN rfl ?_
      walk_at "rd"
      walk_at "ks"
      walk_at "rd"
      walk_at "ks"
      walk_at "rd"
      refine iteKY rfl ?_
      walk_at "rd"
      refine ⟨z, _, _, rfl, Ty7.str, hz, fun y' e => ?_, fun e => absurd rfl e⟩
      cases e
      refine ⟨by omega, fun H1 s1 => ?_⟩
      have h1' : ((cl y).all fun c => decide (c ∈ cl z)) = true := h1
      rw [h1']
      have ha1 : SqT K H1 a [.str "text", .str y] := sqT_same s1 ha
      walk_at "rd"
      refine iteKY (by simp; omega) ?_
      walk_at "rd"
      have e : decide ((y.length : Int) ≤ 40) = true := by simp; omega
      have q := k _ s1
      rw [← e] at q
      exact q
    · walk_at "rd"
      refine ⟨_, _, _, _, _, rfl, .ty _, (Ty7.str (H := H)).1, kit7 (n := "str") (by decide) (.inl rfl), ?_⟩
      walk_at "rd"
      refine iteKN rfl ?_
      walk_at "rd"
      walk_at "ks"
      walk_at "rd"
      walk_at "ks"
      walk_at "rd"
      walk_at "ks"
      walk_at "rd"
      refine iteKY rfl ?_
      walk_at "rd"
      refine ⟨z, _, _, rfl, Ty7.str, hz, fun y' e => ?_, fun e => by cases e⟩
      cases e
      have hyl : y.length ≤ z.length := by
        unfold choiceB at h1
        simp only [Bool.and_eq_true, decide_eq_true_eq] at h1
        exact h1.1.1.2
      refine ⟨by omega, fun H1 s1 => ?_⟩
      have q := k _ s1
      rw [← h1] at q
      exact q
    · have fin : ∀ kd : Str, (kd = "copy" ∨ kd = "say") → True := fun _ _ => trivial
      rcases hkd with rfl | rfl
      · walk_at "rd"
        refine ⟨_, _, _, _, _, rfl, .ty _, (Ty7.str (H := H)).1, kit7 (n := "str") (by decide) (.inl rfl), ?_⟩
        walk_at "rd"
        refine iteKN rfl ?_
        walk_at "rd"
        walk_at "ks"
        walk_at "rd"
        walk_at "ks"
        walk_at "rd"
        walk_at "ks"
        walk_at "rd"
        walk_at "kk"
        walk_at "rd"
        refine iteKY rfl ?_
        walk_at "rd"
        refine ⟨.int d, _, rfl, Ty7.int, ?_⟩
        have e1 : withinV 1 12 (.int d) = true := by simp [withinV, h1, h2]
        have e2 : withinV 1 40 (.int n) = true := by simp [withinV, h3, h4]
        rw [e1]
        walk_at "rd"
        refine ⟨.int n, _, _, _, rfl, Ty7.int, ?_⟩
        have q := k _ (Same.refl _)
        rw [← e2] at q
        exact q
      · walk_at "rd"
        refine ⟨_, _, _, _, _, rfl, .ty _, (Ty7.str (H := H)).1, kit7 (n := "str") (by decide) (.inl rfl), ?_⟩
        walk_at "rd"
        refine iteKN rfl ?_
        walk_at "rd"
        walk_at "ks"
        walk_at "rd"
        walk_at "ks"
        walk_at "rd"
        walk_at "ks"
        walk_at "rd"
        walk_at "kk"
        walk_at "rd"
        refine iteKY rfl ?_
        walk_at "rd"
        refine ⟨.int d, _, rfl, Ty7.int, ?_⟩
        have e1 : withinV 1 12 (.int d) = true := by simp [withinV, h1, h2]
        have e2 : withinV 1 40 (.int n) = true := by simp [withinV, h3, h4]
        rw [e1]
        walk_at "rd"
        refine ⟨.int n, _, _, _, rfl, Ty7.int, ?_⟩
        have q := k _ (Same.refl _)
        rw [← e2] at q
        exact q
def sp_size (K : PySem.W.Frag) : Sp := fun vs H Q _ => ∃ (a : Addr) (xs : List V) (z : Str), vs = [.ref a] ∧ SqT K H a xs ∧ tokV z xs = true ∧ Q (.int (sizeV xs)) H
theorem ok_size (T : Txt K mg) : FnOk P w K mg base CX0 1 T.f_size T.d_size ["token"] (sp_size K) := by
  have nd := sc_size.nd
  refine T.F_size.ok sc_size (fun vs H Q E h => ?_) (fun cdv A outer s H vs Q E hr h => ?_)
  · obtain ⟨a, xs, z, rfl, _⟩ := h
    rfl
  · obtain ⟨a, xs, z, rfl, ha, ht, k⟩ := h
    refine ⟨_, (pss_cons (ps_set (i := 1) nd rfl (Or.inl rfl) (pe_ix (ix_tupK (K := K) rfl) (pv 0) pe_int (fun _ _ => rfl)))
    (pss_cons (ps_if (pt_cmpR op_eq (pv 1) pe_str (nomark _)) (pss_one (ps_ret pe_int)) pss_nil)
    (pss_cons (ps_if (pt_cmpR op_eq (pv 1) pe_str (nomark _)) (pss_one (ps_ret pe_int)) pss_nil)
    (pss_cons (ps_if (pt_cmpR op_eq (pv 1) pe_str (nomark _)) (pss_one (ps_ret (pe_callB (id := "len") (call_lenK (K := K) rfl) (by rfl) T.n_len (by decide +kernel) (pa_cons (pe_ix (ix_tupK (K := K) rfl) (pv 0) pe_int (fun _ _ => rfl)) pa_nil)))) pss_nil)
    (pss_one (ps_ret (pe_ix (ix_tupK (K := K) rfl) (pv 0) pe_int (fun _ _ => rfl)))))))), ?_⟩
    obtain ⟨kd, rest, rfl, hk⟩ := tok_inv ht
    rcases hk with ⟨rfl, rfl⟩ | ⟨y, rfl, rfl, h1, h2, h3⟩ | ⟨y, rfl, rfl, h1⟩ | ⟨d, n, hkd, rfl, h1, h2, h3, h4⟩
    · walk_at "rd"
      walk_at "ks"
      exact k
    · have hy : y.length ≤ 1000 := by omega
      walk_at "rd"
      walk_at "ks"
      walk_at "rd"
      walk_at "ks"
      walk_at "rd"
      walk_at "ks"
      walk_at "rd"
      rwa [sizeV_text] at k
    · walk_at "rd"
      walk_at "ks"
      walk_at "rd"
      walk_at "ks"
      rw [sizeV_any] at k
      exact k
    · rcases hkd with rfl | rfl
      · walk_at "rd"
        walk_at "ks"
        walk_at "rd"
        walk_at "ks"
        walk_at "rd"
        walk_at "ks"
        walk_at "rd"
        exact k
      · walk_at "rd"
        walk_at "ks"
        walk_at "rd"
        walk_at "ks"
        walk_at "rd"
        walk_at "ks"
        walk_at "rd"
        exact k
def sp_are_tokens (K : PySem.W.Frag) : Sp := fun vs H Q _ => ∃ (z : Str) (l : Addr) (tvs : List V) (ts : List (List V)), vs = [.str z, .ref l] ∧ SqL K H l tvs ∧ Toks K H z tvs ts ∧
  z.length ≤ 1000 ∧ ts.length ≤ 1000 ∧ 1 ≤ tsize ts ∧ tsize ts ≤ 40 ∧ ∀ H', Same H H' → Q (.bl true) H'
theorem ok_are_tokens (T : Txt K mg) : FnOk P w K mg base CX0 5 T.f_are_tokens T.d_are_tokens ["signs", "thing"] (sp_are_tokens K) := by
  have nd := sc_are_tokens.nd
  refine T.F_are_tokens.ok sc_are_tokens (fun vs H Q E h => ?_) (fun cdv A outer s H vs Q E hr h => ?_)
  · obtain ⟨z, l, tvs, ts, rfl, _⟩ := h
    rfl
  · obtain ⟨z, l, tvs, ts, rfl, hl, htk, hz, hn, h1, h2, k⟩ := h
    refine ⟨_, (pss_cons (ps_if (PW.pt (pw_or (pt_not (pt_val (pe_callB (id := "isinstance") (call_isiK' (K := K) rfl) (by rfl) T.n_isinstance (by decide +kernel) (pa_cons (pv 1) (pa_cons (pe_bltn (v := .ty "list") (by rfl) T.n_list (by decide +kernel) rfl) pa_nil))))) (pw_or1 (pt_not (pt_val (pe_callB (id := "all") (cr_all rfl) (by rfl) T.n_all (by decide +kernel) (pa_cons (pe_lc (own := [("token", 2)]) (g := gName 2) (by rfl) nd (pi_list (pv 1)) (blkOk_by (own := [("token", 2)]) (N := N_are_tokens) (sc := defScope s_are_tokens) (by decide +kernel)) (fun _ _ _ _ _ => (pg_name (i := 2) nd rfl (Or.inl rfl))) (fun _ _ _ _ _ => pts_nil) (fun _ _ _ _ _ => (pe_call (ok_is_token T) (hr.mono (by decide)) (by rfl) T.m_is_token T.F_is_token.kp T.b_is_token .nil pass0 (pa_cons (pv 0) (pa_cons (pv 2) pa_nil))))) pa_nil))))))) (pss_one (ps_ret pe_bl)) pss_nil)
    (pss_one (ps_ret (pe_chain op_le op_le pe_int (pe_callB (id := "sum") (cr_sum rfl) (by rfl) T.n_sum (by decide +kernel) (pa_cons (pe_lc (own := [("token", 2)]) (g := gName 2) (by rfl) nd (pi_list (pv 1)) (blkOk_by (own := [("token", 2)]) (N := N_are_tokens) (sc := defScope s_are_tokens) (by decide +kernel)) (fun _ _ _ _ _ => (pg_name (i := 2) nd rfl (Or.inl rfl))) (fun _ _ _ _ _ => pts_nil) (fun _ _ _ _ _ => (pe_call (ok_size T) (hr.mono (by decide)) (by rfl) T.m_size T.F_size.kp T.b_size .nil pass0 (pa_cons (pv 2) pa_nil)))) pa_nil)) (ClX.pe_cval (pe_glob (v := .ref T.c_Piece) (by rfl) T.m_Piece rfl)))))), ?_⟩
    have hx := Ty7.of_lst hl
    have hlen := paired_len htk
    walk_at "rd"
    refine ⟨_, _, _, _, _, rfl, .ty _, hx.1, kit7 hx.2 (.inr (.inr (.inl rfl))), ?_⟩
    walk_at "rd"
    refine iteKN rfl ?_
    walk_at "rd"
    refine ⟨⟨_, hl⟩, ?_⟩
    intro D hD
    refine lc_list (K := K) (a := l) (xs := tvs) (Acc ts (fun _ => .bl true) H D) (Acc.start _ _ _ _) (fun i H2 _ ka => (ka.same hD).seq hl) ?_ ?_
    · intro i v H2 hv ka
      obtain ⟨t, ht, ⟨⟨a, rfl, ha⟩, hok⟩⟩ := paired_get htk hv
      walk_at "rd"
      refine ⟨z, a, t, rfl, sqT_same (ka.same hD) ha, hok, hz, fun H3 s3 => ?_⟩
      exact ka.step (KeepB.of_same s3) ((s3 _ _ ka.2).trans ka.2.symm) ht (by omega) rfl
    · rw [hlen]
      intro H2 ka
      refine ⟨_, ts.map (fun _ => true), rfl, SqL.of (by rw [List.map_map]; exact Acc.all ka), ?_⟩
      have e : (ts.map fun _ => true).all id = true := by simp
      rw [e]
      walk_at "rd"
      refine iteKN rfl ?_
      walk_at "rd"
      refine ⟨⟨_, (ka.same hD).seq hl⟩, ?_⟩
      intro D2 hD2
      refine lc_list (K := K) (a := l) (xs := tvs) (Acc ts (fun t => .int (sizeV t)) H2 D2) (Acc.start _ _ _ _) (fun i H3 _ ka2 => (ka2.same hD2).seq ((ka.same hD).seq hl)) ?_ ?_
      · intro i v H3 hv ka2
        obtain ⟨t, ht, ⟨⟨a, rfl, ha⟩, hok⟩⟩ := paired_get htk hv
        walk_at "rd"
        refine ⟨a, t, z, rfl, sqT_same ((ka.same hD).trans (ka2.same hD2)) ha, hok, ?_⟩
        exact ka2.step0 ht (by omega) rfl
      · rw [hlen]
        intro H3 ka2
        refine ⟨_, ts.map sizeV, rfl, SqL.of (by rw [List.map_map]; exact Acc.all ka2), ?_⟩
        walk_at "rd"
        refine iteDY (show (1 : Int) ≤ (ts.map sizeV).sum from h1) ?_
        walk_at "rd"
        refine ⟨_, _, _, _, rfl, T.cr_Piece, T.cv_Piece_MOST, ?_⟩
        walk_at "rd"
        have e2 : decide ((ts.map sizeV).sum ≤ 40) = true := decide_eq_true h2
        have q := k _ ((ka.same hD).trans (ka2.same hD2))
        rw [← e2] at q
        exact q
def sp_places_of (K : PySem.W.Frag) : Sp := fun vs H Q _ => ∃ (l : Addr) (tvs : List V) (ts : List (List V)) (z : Str), vs = [.ref l] ∧ SqL K H l tvs ∧ Toks K H z tvs ts ∧ tsize ts ≤ 1000 ∧
  ∀ (p : Addr) (pvs : List V) (H' : Hp), Same H H' → H p = none → H' p = some (.lst pvs) → Plcs K H' pvs (placesL ts) → Q (.ref p) H'
theorem ok_places_of (T : Txt K mg) : FnOk P w K mg base CX0 1 T.f_places_of T.d_places_of ["tokens"] (sp_places_of K) := by
  have nd := sc_places_of.nd
  refine T.F_places_of.ok sc_places_of (fun vs H Q E h => ?_) (fun cdv A outer s H vs Q E hr h => ?_)
  · obtain ⟨l, tvs, ts, z, rfl, _⟩ := h
    rfl
  · obtain ⟨l, tvs, ts, z, rfl, hl, htk, hn, k⟩ := h
    refine ⟨_, (pss_cons (ps_set (i := 1) nd rfl (Or.inl rfl) (pe_lst pa_nil))
    (pss_cons (ps_for PassesOwn.never rfl (pi_list (pv 0)) (pg_name (i := 2) nd rfl (Or.inl rfl)) (pss_cons (ps_set (i := 3) nd rfl (Or.inl rfl) (pe_ix (ix_tupK (K := K) rfl) (pv 2) pe_int (fun _ _ => rfl)))
    (pss_one (ps_if (pt_cmpR op_eq (pv 3) pe_str (nomark _)) (pss_one (ps_expr (pe_bm PySem.F.plainAttrs_list PySem.F.slot_list_extend PySem.F.type_list_extend mt_extend (pv 1) (pa_cons (pe_lc (own := [("sign", 4)]) (g := gName 4) (by rfl) nd (pi_str (pe_ix (ix_tupK (K := K) rfl) (pv 2) pe_int (fun _ _ => rfl))) (blkOk_by (own := [("sign", 4)]) (N := N_places_of) (sc := defScope s_places_of) (by decide +kernel)) (fun _ _ _ _ _ => (pg_name (i := 4) nd rfl (Or.inl rfl))) (fun _ _ _ _ _ => pts_nil) (fun _ _ _ _ _ => (pe_tup (pa_cons pe_str (pa_cons (pv 4) pa_nil))))) pa_nil)))) (pss_one (ps_if (pt_cmpR op_eq (pv 3) pe_str (nomark _)) (pss_one (ps_expr (pe_bm PySem.F.plainAttrs_list PySem.F.slot_list_append PySem.F.type_list_append mt_append (pv 1) (pa_cons (pe_tup (pa_cons pe_str (pa_cons (pe_ix (ix_tupK (K := K) rfl) (pv 2) pe_int (fun _ _ => rfl)) pa_nil))) pa_nil)))) (pss_one (ps_if (pt_cmpR op_ne (pv 3) pe_str (nomark _)) (pss_one (ps_expr (pe_bm PySem.F.plainAttrs_list PySem.F.slot_list_extend PySem.F.type_list_extend mt_extend (pv 1) (pa_cons (pe_op op_rep (pe_lst (pa_cons (pe_tup (pa_cons (pv 3) (pa_cons (pe_ix (ix_tupK (K := K) rfl) (pv 2) pe_int (fun _ _ => rfl)) pa_nil))) pa_nil)) (pe_ix (ix_tupK (K := K) rfl) (pv 2) pe_int (fun _ _ => rfl))) pa_nil)))) pss_nil))))))))
    (pss_one (ps_ret (pv 1))))), ?_⟩
    have hlen := paired_len htk
    walk_at "rd"
    intro D hD
    walk_at "rd"
    refine ⟨⟨_, (same_new hD).seq hl⟩, ?_⟩
    refine for_list (K := K) (a := l) (xs := tvs) (fun i σ H2 => KeepB D H H2 ∧ ∃ (pvs : List V) (tok knd : Option V), σ = [some (.ref l), some (.ref D), tok, knd, none] ∧ H2 D = some (.lst pvs) ∧ Plcs K H2 pvs (placesL (ts.take i))) ?_ ?_ ?_ ?_
    · exact ⟨KeepB.put, [], none, none, rfl, upd_same, .nil⟩
    · rintro i σ H2 _ ⟨k2, _⟩
      exact (same_keepB hD k2).seq hl
    · rintro i v σ H2 hv ⟨k2, pvs, tok, knd, rfl, hp, hpl⟩
      have s2 := same_keepB hD k2
      obtain ⟨t, ht, ⟨⟨q, rfl, hq⟩, hok⟩⟩ := paired_get htk hv
      have hq := sqT_same s2 hq
      have hpt := places_step ht
      have hst := tsize_step ht
      have hle := tsize_take_le (i := i + 1) htk.ok
      have hle0 := tsize_take_le (i := i) htk.ok
      have hpll := places_len (ts := ts.take i) (z := z) fun u hu => htk.ok u (List.mem_of_mem_take hu)
      have hnp : (pvs.length : Int) ≤ 1000 := by rw [paired_len hpl]; omega
      obtain ⟨kd, rest, rfl, hk⟩ := tok_inv hok
      rcases hk with ⟨rfl, rfl⟩ | ⟨y, rfl, rfl, h1, h2, h3⟩ | ⟨y, rfl, rfl, h1⟩ | ⟨d, n, hkd, rfl, h1, h2, h3, h4⟩
      · walk_at "rd"
        walk_at "ks"
        walk_at "rd"
        walk_at "ks"
        walk_at "rd"
        refine iteNeF ?_
        exact ⟨k2, pvs, _, _, rfl, hp, by rw [hpt]; exact (List.append_nil (placesL (ts.take i))).symm ▸ hpl⟩
      · walk_at "rd"
        walk_at "ks"
        walk_at "rd"
        try refine And.intro (Or.inl ⟨rfl, _, SqL.of hp⟩) ?_
        walk_at "rd"
        intro D2 hD2
        have hne := ne_of_none hp hD2
        refine lc_it walk_str (fun i H3 => KeepB D2 H2 H3 ∧ ∃ acc, H3 D2 = some (.lst acc) ∧ Plcs K H3 acc (((cl y).take i).map fun c => [V.str "sign", V.str (sg c)])) ?_ (fun _ _ _ _ => trivial) ?_ ?_
        · exact ⟨KeepB.put, [], upd_same, .nil⟩
        · rintro i _ H3 _ hi ⟨k3, acc, ha, hal⟩ ⟨rfl, c, hc, rfl⟩
          have hi' : i < y.length := hi
          have hln := paired_len hal
          rw [List.length_map, List.length_take] at hln
          walk_at "rd"
          intro p' hp'
          have s7 := same_new (o := .tup [.str "sign", .str (sg c)]) hp'
          refine ⟨acc, s7 _ _ ha, szt (by omega), (k3.trans (KeepB.of_same s7)).trans KeepB.put, _, upd_same, ?_⟩
          rw [take_succ' (cl_get hc), List.map_append]
          exact Plcs.keep KeepB.put (lst_lst (s7 _ _ ha)) (paired_app (Plcs.same s7 hal) (paired_one TupAt.new))
        · rintro H3 ⟨k3, acc, ha, hal⟩
          have s3 := same_keepB hD2 k3
          have hal : Plcs K H3 acc (((cl y).take y.length).map fun c => [V.str "sign", V.str (sg c)]) := hal
          rw [List.take_of_length_le (by rw [cl_len]; omega), ← place_text] at hal
          have hln := paired_len hal
          rw [place_text, List.length_map, cl_len] at hln
          refine ⟨D, D2, pvs, acc, rfl, rfl, s3 _ _ hp, ha, szl (by omega), ?_⟩
          refine ⟨(k2.trans (KeepB.of_same s3)).trans KeepB.put, _, _, _, rfl, upd_same, ?_⟩
          rw [hpt]
          exact Plcs.keep KeepB.put (lst_lst (s3 _ _ hp)) (paired_app (Plcs.same s3 hpl) hal)
      · walk_at "rd"
        walk_at "ks"
        walk_at "rd"
        walk_at "ks"
        walk_at "rd"
        try refine And.intro (Or.inl ⟨rfl, _, SqL.of hp⟩) ?_
        walk_at "rd"
        intro p' hp'
        have s7 := same_new (o := .tup [.str "hole", .str y]) hp'
        refine ⟨D, pvs, _, rfl, rfl, s7 _ _ hp, szt (by omega), ?_⟩
        refine ⟨(k2.trans (KeepB.of_same s7)).trans KeepB.put, _, _, _, rfl, upd_same, ?_⟩
        rw [hpt, place_any]
        exact Plcs.keep KeepB.put (lst_lst (s7 _ _ hp)) (paired_app (Plcs.same s7 hpl) (paired_one TupAt.new))
      · rcases hkd with rfl | rfl
        · walk_at "rd"
          walk_at "ks"
          walk_at "rd"
          walk_at "ks"
          walk_at "rd"
          refine iteNeT (by decide +kernel) ?_
          walk_at "rd"
          try refine ⟨Or.inl ⟨rfl, _, SqL.of hp⟩, ?_⟩
          walk_at "rd"
          intro p' hp'
          walk_at "rd"
          intro q' hq'
          walk_at "rd"
          have s5 := (same_new (o := .tup [.str "copy", .int d]) hp').trans (same_new (o := .lst [.ref p']) hq')
          refine ⟨_, _, _, _, rfl, rfl, sqT_same s5 hq, rfl, ?_⟩
          refine ⟨q', n, [.ref p'], rfl, rfl, upd_same, by omega, by omega, szl (by rw [List.length_singleton]; omega), fun p3 hp3 => ?_⟩
          have hz : (List.replicate n.toNat [V.ref p']).flatten.length = n.toNat := by
            rw [List.length_flatten, List.map_replicate, List.sum_replicate_nat]
            exact Nat.mul_one _
          have s6 := s5.trans (same_new (o := .lst (List.replicate n.toNat [V.ref p']).flatten) hp3)
          refine ⟨D, p3, pvs, _, rfl, rfl, s6 _ _ hp, upd_same, szl (by rw [hz]; omega), ?_⟩
          refine ⟨(k2.trans (KeepB.of_same s6)).trans KeepB.put, _, _, _, rfl, upd_same, ?_⟩
          have hone := TupAt.same (K := K) ((same_new (o := .lst [.ref p']) hq').trans (same_new (o := .lst (List.replicate n.toNat [V.ref p']).flatten) hp3)) (TupAt.new (H := H2) (p := p') (xs := [.str "copy", .int d]))
          have hrep := paired_rep hone n.toNat
          rw [← flat_rep] at hrep
          rw [hpt]
          exact Plcs.keep KeepB.put (lst_lst (s6 _ _ hp)) (paired_app (Plcs.same s6 hpl) hrep)
        · walk_at "rd"
          walk_at "ks"
          walk_at "rd"
          walk_at "ks"
          walk_at "rd"
          refine iteNeT (by decide +kernel) ?_
          walk_at "rd"
          try refine ⟨Or.inl ⟨rfl, _, SqL.of hp⟩, ?_⟩
          walk_at "rd"
          intro p' hp'
          walk_at "rd"
          intro q' hq'
          walk_at "rd"
          have s5 := (same_new (o := .tup [.str "say", .int d]) hp').trans (same_new (o := .lst [.ref p']) hq')
          refine ⟨_, _, _, _, rfl, rfl, sqT_same s5 hq, rfl, ?_⟩
          refine ⟨q', n, [.ref p'], rfl, rfl, upd_same, by omega, by omega, szl (by rw [List.length_singleton]; omega), fun p3 hp3 => ?_⟩
          have hz : (List.replicate n.toNat [V.ref p']).flatten.length = n.toNat := by
            rw [List.length_flatten, List.map_replicate, List.sum_replicate_nat]
            exact Nat.mul_one _
          have s6 := s5.trans (same_new (o := .lst (List.replicate n.toNat [V.ref p']).flatten) hp3)
          refine ⟨D, p3, pvs, _, rfl, rfl, s6 _ _ hp, upd_same, szl (by rw [hz]; omega), ?_⟩
          refine ⟨(k2.trans (KeepB.of_same s6)).trans KeepB.put, _, _, _, rfl, upd_same, ?_⟩
          have hone := TupAt.same (K := K) ((same_new (o := .lst [.ref p']) hq').trans (same_new (o := .lst (List.replicate n.toNat [V.ref p']).flatten) hp3)) (TupAt.new (H := H2) (p := p') (xs := [.str "say", .int d]))
          have hrep := paired_rep hone n.toNat
          rw [← flat_rep] at hrep
          rw [hpt]
          exact Plcs.keep KeepB.put (lst_lst (s6 _ _ hp)) (paired_app (Plcs.same s6 hpl) hrep)
    · rintro σ H2 ⟨k2, pvs, tok, knd, rfl, hp, hpl⟩
      rw [hlen, List.take_length] at hpl
      walk_at "rd"
      exact k D pvs _ (same_keepB hD k2) hD hp hpl
def sp_are_letters : Sp := fun vs H Q _ => ∃ z : Str, vs = [.str z] ∧ z.length ≤ 1000 ∧ ∀ H', Same H H' → Q (.bl (lettersB z)) H'
theorem ok_are_letters (T : Txt K mg) : FnOk P w K mg base CX0 1 T.f_are_letters T.d_are_letters ["text"] sp_are_letters := by
  have nd := sc_are_letters.nd
  refine T.F_are_letters.ok sc_are_letters (fun vs H Q E h => ?_) (fun cdv A outer s H vs Q E hr h => ?_)
  · obtain ⟨z, rfl, _⟩ := h
    rfl
  · obtain ⟨z, rfl, hz, k⟩ := h
    refine ⟨_, (pss_one (ps_ret (pe_callB (id := "all") (cr_all rfl) (by rfl) T.n_all (by decide +kernel) (pa_cons (pe_lc (own := [("letter", 1)]) (g := gName 1) (by rfl) nd (pi_str (pv 0)) (blkOk_by (own := [("letter", 1)]) (N := N_are_letters) (sc := defScope s_are_letters) (by decide +kernel)) (fun _ _ _ _ _ => (pg_name (i := 1) nd rfl (Or.inl rfl))) (fun _ _ _ _ _ => pts_nil) (fun _ _ _ _ _ => (pe_chain op_le_str op_le_str pe_str (pv 1) pe_str))) pa_nil)))), ?_⟩
    walk_at "rd"
    intro D hD
    refine lc_it walk_str (Acc (cl z) (fun c => .bl (letB c)) H D) (Acc.start _ _ _ _) (fun _ _ _ _ => trivial) ?_ ?_
    · rintro i _ H2 _ hi ka ⟨rfl, c, hc, rfl⟩
      walk_at "rd"
      refine iteK (fun h1 => ?_) (fun h1 => ?_)
      · walk_at "rd"
        refine ka.step0 (cl_get hc) (by rw [cl_len]; omega) ?_
        rw [le_a] at h1
        rw [le_z]
        simp [letB, h1]
      · refine ka.step0 (cl_get hc) (by rw [cl_len]; omega) ?_
        rw [le_a] at h1
        simp [letB, h1]
    · intro H2 ka
      refine ⟨_, (cl z).map letB, rfl, SqL.of (by rw [List.map_map]; exact Acc.all ka), ?_⟩
      have e : ((cl z).map letB).all id = lettersB z := by
        rw [List.all_map]; rfl
      rw [e]
      exact k _ (ka.same hD)
def sp_is_signs (K : PySem.W.Frag) : Sp := fun vs H Q _ => ∃ (x : V) (n : String), vs = [x] ∧ Ty7 K H x n ∧
  (∀ y, x = .str y → y.length ≤ 1000000 ∧ ∀ H', Same H H' → Q (.bl (signsB y)) H') ∧ (strV x = false → Q (.bl false) H)
theorem ok_is_signs (T : Txt K mg) : FnOk P w K mg base CX0 2 T.f_is_signs T.d_is_signs ["thing"] (sp_is_signs K) := by
  have nd := sc_is_signs.nd
  refine T.F_is_signs.ok sc_is_signs (fun vs H Q E h => ?_) (fun cdv A outer s H vs Q E hr h => ?_)
  · obtain ⟨x, n, rfl, _⟩ := h
    rfl
  · obtain ⟨x, n, rfl, hx, k1, k2⟩ := h
    refine ⟨_, (pss_cons (ps_if (PW.pt (pw_or (pt_not (pt_val (pe_callB (id := "isinstance") (call_isiK' (K := K) rfl) (by rfl) T.n_isinstance (by decide +kernel) (pa_cons (pv 0) (pa_cons (pe_bltn (v := .ty "str") (by rfl) T.n_str (by decide +kernel) rfl) pa_nil))))) (pw_or1 (pt_not (pt_chain op_le op_le pe_int (pe_callB (id := "len") (call_lenK (K := K) rfl) (by rfl) T.n_len (by decide +kernel) (pa_cons (pv 0) pa_nil)) (pe_glob (v := .int 6) (by rfl) T.m_MOST_SIGNS ⟨_, rfl⟩)))))) (pss_one (ps_ret pe_bl)) pss_nil)
    (pss_one (ps_ret (pe_and (pe_call (ok_are_letters T) (hr.mono (by decide)) (by rfl) T.m_are_letters T.F_are_letters.kp T.b_are_letters .nil pass0 (pa_cons (pv 0) pa_nil)) (pe_one (pe_call (ok_ascends T) (hr.mono (by decide)) (by rfl) T.m_ascends T.F_ascends.kp T.b_ascends .nil pass0 (pa_cons (pv 0) pa_nil))))))), ?_⟩
    walk_at "rd"
    refine ⟨_, _, _, _, _, rfl, .ty _, hx.1, kit7 hx.2 (.inl rfl), ?_⟩
    walk_at "rd"
    refine iteK (fun hn => ?_) (fun hn => ?_)
    · walk_at "rd"
      refine k2 ?_
      rw [← hx.str_iff]
      simpa using hn
    · have hs : n = "str" := by simpa using hn
      subst hs
      obtain ⟨y, rfl⟩ := hx.str_inv
      obtain ⟨hy, k1⟩ := k1 y rfl
      walk_at "rd"
      have fin : ∀ b, signsB y = b → Q (.bl b) H := fun b e => by
        have q := k1 _ (Same.refl H)
        rwa [e] at q
      refine iteK (fun h1 => ?_) (fun h1 => ?_)
      · walk_at "rd"
        refine iteK (fun h2 => ?_) (fun h2 => ?_)
        · walk_at "rd"
          refine fin _ ?_
          have h2' : ¬ y.length ≤ 6 := by
            intro e
            simp at h2
            omega
          simp [signsB, h2']
        · have h2' : y.length ≤ 6 := by
            simp at h2
            omega
          have h1' : 2 ≤ y.length := by
            simp at h1
            omega
          walk_at "rd"
          intro H1 s1
          walk_at "rd"
          refine iteK (fun h3 => ?_) (fun h3 => ?_)
          · walk_at "rd"
            intro H2 s2
            have q := k1 _ (s1.trans s2)
            have e : signsB y = ascB (cl y) := by
              simp [signsB, h1', h2', h3]
            rwa [e] at q
          · have q := k1 _ s1
            have e : signsB y = false := by
              simp [signsB, h3]
            rw [e] at q
            exact q
      · walk_at "rd"
        refine fin _ ?_
        have h1' : ¬ 2 ≤ y.length := by
          intro e
          simp at h1
          omega
        simp [signsB, h1']
def sp_Piece_init (K : PySem.W.Frag) (C : Addr) : Sp := fun vs H Q _ => ∃ (a dx l : Addr) (z : Str) (tvs : List V) (ts : List (List V)), vs = [.ref a, .str z, .ref l] ∧ H a = some (.ins C dx []) ∧ SignsOk z ∧ SqL K H l tvs ∧ Toks K H z tvs ts ∧
  ts.length ≤ 1000 ∧ 1 ≤ tsize ts ∧ tsize ts ≤ 40 ∧ ∀ H', KeepB a H H' → PieceAt K C H' a z ts → NewIn C H H' a → Q .non H'
theorem ok_Piece_init (T : Txt K mg) : FnOk P w K mg base CX0 6 T.f_Piece_init T.d_Piece_init ["self", "signs", "tokens"] (sp_Piece_init K T.c_Piece) := by
  have nd := sc_Piece_init.nd
  refine T.F_Piece_init.ok sc_Piece_init (fun vs H Q E h => ?_) (fun cdv A outer s H vs Q E hr h => ?_)
  · obtain ⟨a, dx, l, z, tvs, ts, rfl, _⟩ := h
    rfl
  · obtain ⟨a, dx, l, z, tvs, ts, rfl, ha, hz, hl, htk, hn, h1, h2, k⟩ := h
    refine ⟨_, (pss_cons (ps_if (pt_not (pt_val (pe_call (ok_is_signs T) (hr.mono (by decide)) (by rfl) T.m_is_signs T.F_is_signs.kp T.b_is_signs .nil pass0 (pa_cons (pv 1) pa_nil)))) (pss_one ps_never) pss_nil)
    (pss_cons (ps_if (pt_not (pt_val (pe_call (ok_are_tokens T) (hr.mono (by decide)) (by rfl) T.m_are_tokens T.F_are_tokens.kp T.b_are_tokens .nil pass0 (pa_cons (pv 1) (pa_cons (pv 2) pa_nil))))) (pss_one ps_never) pss_nil)
    (pss_cons (ps_fld (pv 0) (pv 1) rfl)
    (pss_cons (ps_fld (pv 0) (pe_callTy (T := "list") call_list_of (by rfl) T.n_list (by decide +kernel) (pa_cons (pv 2) pa_nil)) rfl)
    (pss_one (ps_fld (pv 0) (pe_call (ok_places_of T) (hr.mono (by decide)) (by rfl) T.m_places_of T.F_places_of.kp T.b_places_of .nil pass0 (pa_cons (pv 2) pa_nil)) rfl)))))), ?_⟩
    have hzl := hz.len
    walk_at "rd"
    refine ⟨.str z, "str", rfl, Ty7.str, fun y e => ?_, fun e => by cases e⟩
    cases e
    refine ⟨by omega, fun H1 s1 => ?_⟩
    rw [show signsB z = true from hz]
    walk_at "rd"
    refine iteKN rfl ?_
    walk_at "rd"
    refine ⟨z, l, tvs, ts, rfl, s1.seq hl, htk.same s1, by omega, hn, h1, h2, fun H2 s2 => ?_⟩
    have s12 := s1.trans s2
    walk_at "rd"
    refine iteKN rfl ?_
    walk_at "rd"
    refine ⟨a, _, dx, _, rfl, s12 _ _ ha, T.cl_Piece, T.na_Piece_signs, by decide, ?_⟩
    have k3 : KeepB a H (upd H2 a (.ins T.c_Piece dx (putF "_signs" (.str z) []))) := (KeepB.of_same s12).trans KeepB.put
    walk_at "rd"
    refine ⟨l, tvs, rfl, .inl (sqL_keep k3 ha hl), fun l2 hl2 => ?_⟩
    have nl2 : l2 ≠ a := (ne_of_none (upd_same) hl2).symm
    walk_at "rd"
    refine ⟨a, _, dx, _, rfl, same_new hl2 _ _ upd_same, T.cl_Piece, T.na_Piece_tokens, Nat.lt_of_le_of_lt (length_putF _ _ _) (by decide), ?_⟩
    have k4 := (k3.trans (KeepB.new (o := .lst tvs) hl2)).trans (KeepB.put (o := .ins T.c_Piece dx (putF "_tokens" (.ref l2) (putF "_signs" (.str z) []))))
    walk_at "rd"
    refine ⟨l, tvs, ts, z, rfl, sqL_keep k4 ha hl, htk.keep k4 (ins_lst ha), by omega, fun p pvs H6 s6 hp1 hp2 hpl => ?_⟩
    have np : p ≠ a := (ne_of_none (upd_same) hp1).symm
    walk_at "rd"
    refine ⟨a, _, dx, _, rfl, s6 _ _ upd_same, T.cl_Piece, T.na_Piece_places, Nat.lt_of_le_of_lt (length_putF _ _ _) (Nat.lt_of_le_of_lt (Nat.add_le_add_right (length_putF _ _ _) 1) (by decide)), ?_⟩
    have k5 := (k4.trans (KeepB.of_same s6)).trans (KeepB.put (o := .ins T.c_Piece dx (pf z l2 p)))
    refine k _ k5 ⟨dx, l2, p, tvs, pvs, upd_same, ?_, htk.keep k5 (ins_lst ha), ?_, Plcs.keep KeepB.put (ins_lst (s6 _ _ upd_same)) hpl⟩ ?_
    · rw [upd_ne nl2]
      exact s6 _ _ (by rw [upd_ne nl2]; exact upd_same)
    · rw [upd_ne np]
      exact hp2
    · intro dx' l' p' z' e
      rw [upd_same] at e
      have e := HO.ins.inj (Option.some.inj e)
      obtain ⟨rfl, rfl⟩ := pf_inj e.2.2
      refine ⟨?_, k4.back hp1 np⟩
      rw [upd_ne nl2] at hl2
      exact s12.free hl2
def sp_Piece_eq (K : PySem.W.Frag) (C : Addr) : Sp := fun vs H Q _ =>
  (∃ (a b : Addr) (z z' : Str) (ts us : List (List V)), vs = [.ref a, .ref b] ∧ PieceAt K C H a z ts ∧ PieceAt K C H b z' us ∧ SignsOk z ∧ SignsOk z' ∧ ts.length ≤ 1000 ∧ us.length ≤ 1000 ∧ Q (.bl (decide (z = z') && PyData.eqv (.list (ts.map tokD)) (.list (us.map tokD)))) H) ∨
  (∃ (a : Addr) (y : V) (T : String), vs = [.ref a, y] ∧ TyX K H y (.type T) ∧ PySem.W.subIn K (.type T) (.ref C) = some false ∧ Q (.bl false) H)
theorem ok_Piece_eq (T : Txt K mg) : FnOk P w K mg base CX0 1 T.f_Piece_eq T.d_Piece_eq ["self", "other"] (sp_Piece_eq K T.c_Piece) := by
  have nd := sc_Piece_eq.nd
  refine T.F_Piece_eq.ok sc_Piece_eq (fun vs H Q E h => ?_) (fun cdv A outer s H vs Q E hr h => ?_)
  · rcases h with ⟨a, b, z, z', ts, us, rfl, _⟩ | ⟨a, y, _, rfl, _⟩ <;> rfl
  · rcases h with ⟨a, b, z, z', ts, us, rfl, pa, pb, hz, hz', hn, hn', k⟩ | ⟨a, y, TT, rfl, ty, sub, k⟩
    · obtain ⟨dx, l, p, tvs, pvs, ha, hl, htk, hp, hpl⟩ := pa
      obtain ⟨dy, l', p', uvs, qvs, hb, hl', htk', hp', hpl'⟩ := pb
      refine ⟨_, (pss_one (ps_ret (pe_and (pe_callB (id := "isinstance") (call_isiK' (K := K) rfl) (by rfl) T.n_isinstance (by decide +kernel) (pa_cons (pv 1) (pa_cons (pe_glob (v := .ref T.c_Piece) (by rfl) T.m_Piece rfl) pa_nil))) (pe_and (pe_cmpR op_eq (pe_fld (pv 0) rfl) (pe_fld (pv 1) rfl) (nomark _)) (pe_one (pe_cmpR (op_eqD (uE hr)) (pe_fld (pv 0) rfl) (pe_fld (pv 1) rfl) (nomark _))))))), ?_⟩
      walk_at "rd"
      refine ⟨_, _, _, _, _, rfl, .own _, .base (.ins hb T.cl_Piece T.ca_Piece T.cg_Piece T.ct_Piece T.mro_Piece), kit_self, ?_⟩
      walk_at "rd"
      refine ⟨_, _, _, _, _, rfl, ha, T.cl_Piece, T.na_Piece_signs, pf_signs _ _ _, ?_⟩
      refine ⟨_, rfl, _, _, _, _, _, rfl, hb, T.cl_Piece, T.na_Piece_signs, pf_signs _ _ _, ?_⟩
      have p1 : Pl 64 1000000 (.list (ts.map tokD)) := (toks_pl hz htk.ok hn).mono (by decide) (by decide)
      have p2 : Pl 64 1000000 (.list (us.map tokD)) := (toks_pl hz' htk'.ok hn').mono (by decide) (by decide)
      walk_at "rd"
      refine iteSt (fun e => ?_) (fun e => ?_)
      · walk_at "rd"
        refine ⟨_, _, _, _, _, rfl, ha, T.cl_Piece, T.na_Piece_tokens, pf_tokens _ _ _, ?_⟩
        refine ⟨_, rfl, _, _, _, _, _, rfl, hb, T.cl_Piece, T.na_Piece_tokens, pf_tokens _ _ _, ?_⟩
        refine ⟨_, _, .lst (SqL.of hl) htk.dps, .lst (SqL.of hl') htk'.dps, p1.shaped, p2.shaped, ?_⟩
        rw [decide_eq_true e, Bool.true_and] at k
        exact k
      · rw [decide_eq_false e, Bool.false_and] at k
        exact k
    · refine ⟨_, (pss_one (ps_ret (pe_and (pe_callB (id := "isinstance") (call_isiK' (K := K) rfl) (by rfl) T.n_isinstance (by decide +kernel) (pa_cons (pv 1) (pa_cons (pe_glob (v := .ref T.c_Piece) (by rfl) T.m_Piece rfl) pa_nil))) (pe_and (pe_cmpR op_eq (pe_fld (pv 0) rfl) (pe_fld (pv 1) rfl) (nomark _)) (pe_one (pe_cmpR (op_eqD (uE hr)) (pe_fld (pv 0) rfl) (pe_fld (pv 1) rfl) (nomark _))))))), ?_⟩
      walk_at "rd"
      refine ⟨_, _, _, _, _, rfl, .own _, ty, kit_not T.ic_Piece T.it_Piece sub, ?_⟩
      walk_at "rd"
      exact k
def sp_Piece_tokens (K : PySem.W.Frag) (C : Addr) : Sp := fun vs H Q _ => ∃ (a : Addr) (z : Str) (ts : List (List V)), vs = [.ref a] ∧ PieceAt K C H a z ts ∧
  ∀ (l : Addr) (tvs : List V) (H' : Hp), Same H H' → H l = none → H' l = some (.lst tvs) → Toks K H' z tvs ts → Q (.ref l) H'
theorem ok_Piece_tokens (T : Txt K mg) : FnOk P w K mg base CX0 1 T.f_Piece_tokens T.d_Piece_tokens ["self"] (sp_Piece_tokens K T.c_Piece) := by
  have nd := sc_Piece_tokens.nd
  refine T.F_Piece_tokens.ok sc_Piece_tokens (fun vs H Q E h => ?_) (fun cdv A outer s H vs Q E hr h => ?_)
  · obtain ⟨a, z, ts, rfl, _⟩ := h
    rfl
  · obtain ⟨a, z, ts, rfl, ⟨dx, l, p, tvs, pvs, ha, hl, htk, hp, hpl⟩, k⟩ := h
    refine ⟨_, (pss_one (ps_ret (pe_callTy (T := "list") call_list_of (by rfl) T.n_list (by decide +kernel) (pa_cons (pe_fld (pv 0) rfl) pa_nil)))), ?_⟩
    walk_at "rd"
    refine ⟨_, _, _, _, _, rfl, ha, T.cl_Piece, T.na_Piece_tokens, pf_tokens _ _ _, ?_⟩
    walk_at "rd"
    refine ⟨l, tvs, rfl, .inl (SqL.of hl), fun l2 hl2 => ?_⟩
    have s2 := same_new (o := .lst tvs) hl2
    exact k l2 tvs _ s2 hl2 upd_same (htk.same s2)
def sp_law_alike (K : PySem.W.Frag) : Sp := fun vs H Q _ => ∃ (x y : V) (d : PyData), vs = [x, y] ∧ Dp K H x d ∧ Dp K H y d ∧ Pl 64 1000000 d ∧ Q (.bl true) H
theorem ok_law_alike (T : Txt K mg) : FnG P w K mg base 1 T.f_law_alike T.d_law_alike ["_law_found", "_law_due"] (sp_law_alike K) := by
  have nd := sc_law_alike.nd
  refine FnG.by_body T.F_law_alike sc_law_alike (fun vs H Q E h => ?_) (fun cdv A outer s H vs Q E hr h => ?_)
  · obtain ⟨x, y, d, rfl, _⟩ := h
    rfl
  · obtain ⟨x, y, d, rfl, dx, dy, pl, k⟩ := h
    refine ⟨_, (pss_one (ps_ret (pe_and (pe_cmpR (op_eqD (uD hr)) (pv 0) (pv 1) (nomark _)) (pe_one (pe_cmpR op_eq (pe_callB (id := "repr") (call_reprD hr.free (uR hr)) (by rfl) T.n_repr (by decide +kernel) (pa_cons (pv 0) pa_nil)) (pe_callB (id := "repr") (call_reprD hr.free (uR hr)) (by rfl) T.n_repr (by decide +kernel) (pa_cons (pv 1) pa_nil)) (nomark _)))))), ?_⟩
    walk_at "rd"
    refine ⟨d, d, dx, dy, pl.shaped, pl.shaped, ?_⟩
    rw [SeqAt.eqv_refl d pl.lay]
    walk_at "rd"
    refine ⟨_, d, rfl, dx, pl, ?_⟩
    walk_at "rd"
    refine ⟨_, d, rfl, dy, pl, ?_⟩
    walk_at "rd"
    show Q (V.bl (decide (V.str d.shown = V.str d.shown))) H
    rw [decide_eq_true rfl]
    exact k
def sp_law_bag (K : PySem.W.Frag) : Sp := fun vs H Q _ => ∃ (a : Addr) (ns : List Int), vs = [.ref a] ∧ SqL K H a (ns.map V.int) ∧ ns.length ≤ 63 ∧ ∀ (b c : Addr) (H' : Hp), Same H H' → H b = none → BagAt H' b c → Q (.ref b) H'
theorem ok_law_bag (T : Txt K mg) : FnOk P w K mg base CX0 1 T.f_law_bag T.d_law_bag ["_law_script"] (sp_law_bag K) := by
  have nd := sc_law_bag.nd
  refine T.F_law_bag.ok sc_law_bag (fun vs H Q E h => ?_) (fun cdv A outer s H vs Q E hr h => ?_)
  · obtain ⟨a, ns, rfl, _⟩ := h
    rfl
  · obtain ⟨a, ns, rfl, ha, hn, k⟩ := h
    refine ⟨_, (pss_one (ps_ret (pe_lst (pa_cons pe_int (pa_cons pe_int (pa_cons pe_int (pa_cons (pe_lc (own := [("_law_cell", 1)]) (g := gName 1) (by rfl) nd (pi_list (pe_slice (sl_listK (K := K) rfl) (pv 0) po_none (po_some pe_int))) (blkOk_by (own := [("_law_cell", 1)]) (N := N_law_bag) (sc := defScope s_law_bag) (by decide +kernel)) (fun _ _ _ _ _ => (pg_name (i := 1) nd rfl (Or.inl rfl))) (fun _ _ _ _ _ => pts_nil) (fun _ _ _ _ _ => (pe_callB (id := "abs") call_abs (by rfl) T.n_abs (by decide +kernel) (pa_cons (pv 1) pa_nil)))) pa_nil))))))), ?_⟩
    walk_at "rd"
    refine ⟨_, _, rfl, ha, fun p hp => ?_⟩
    have hcut : ∃ ms : List Int, cutV (ns.map V.int) none (some 63) = ms.map V.int ∧ ms.length ≤ 63 := by
      refine ⟨(ns.drop (HT.sIx (ns.map V.int).length 0 none)).take (HT.sIx (ns.map V.int).length (ns.map V.int).length (some 63) - HT.sIx (ns.map V.int).length 0 none), ?_, ?_⟩
      · unfold cutV
        rw [List.map_take, List.map_drop]
      · rw [List.length_take, List.length_drop]
        omega
    obtain ⟨ms, ems, hms⟩ := hcut
    rw [ems]
    walk_at "rd"
    refine ⟨⟨_, SqL.of upd_same⟩, ?_⟩
    intro D hD
    refine lc_list (K := K) (a := p) (xs := ms.map V.int) (Acc ms (fun i => .int (if i < 0 then -i else i)) (upd H p (.lst (ms.map V.int))) D) (Acc.start _ _ _ _) (fun i H2 _ ka => SqL.of (ka.same hD _ _ upd_same)) ?_ ?_
    · intro i v H2 hv ka
      rw [List.getElem?_map] at hv
      obtain ⟨c, hc, rfl⟩ := Option.map_eq_some_iff.mp hv
      walk_at "rd"
      exact ka.step0 hc (by omega) rfl
    · intro H2 ka
      rw [List.length_map] at ka
      refine ⟨szl (n := 4) (by decide), fun b hb => ?_⟩
      have s2 := ka.same hD
      have hb1 := ((same_new (o := .lst (ms.map V.int)) hp).trans s2).free hb
      refine k _ D _ (((same_new hp).trans s2).trans (same_new hb)) hb1 ?_
      have hne := ne_of_none ka.2 hb
      refine BagAt.mk' (p := 0) (q := 1234567891) (n := 0) (c := D) (cs := ms.map fun i => if i < 0 then -i else i) upd_same ?_ (by decide) (by decide) (by decide) (by decide) ?_ (by rw [List.length_map]; exact hms)
      · rw [upd_ne hne, List.map_map]
        exact Acc.all ka
      · intro x hx
        obtain ⟨i, _, rfl⟩ := List.mem_map.mp hx
        split <;> omega
def sp_law_take : Sp := fun vs H Q _ => ∃ (b c : Addr) (m : Int), vs = [.ref b, .int m] ∧ BagAt H b c ∧ 0 < m ∧ m < 1073741824 ∧
  ∀ (r : Int) (H' : Hp), KeepB b H H' → BagAt H' b c → 0 ≤ r → r < m → Q (.int r) H'
theorem ok_law_take (T : Txt K mg) : FnOk P w K mg base CX0 1 T.f_law_take T.d_law_take ["_law_bag_here", "_law_many"] sp_law_take := by
  have nd := sc_law_take.nd
  refine T.F_law_take.ok sc_law_take (fun vs H Q E h => ?_) (fun cdv A outer s H vs Q E hr h => ?_)
  · obtain ⟨b, c, m, rfl, _⟩ := h
    rfl
  · obtain ⟨b, c, m, rfl, hbag, m0, m1, k⟩ := h
    obtain ⟨p, q, n, cs, hb, hc, p0, q0, q1, n0, cs0, csl⟩ := hbag
    have ncb := bag_ne hb hc
    refine ⟨_, (C8.pss_cut (ps_if (pt_cmpR op_eq (pe_ix (ix_listK (K := K) rfl) (pv 0) pe_int (fun _ _ => rfl)) pe_int (nomark _)) (pss_cons (ps_set (i := 2) nd rfl (Or.inl rfl) pe_int)
    (pss_cons (ps_if (pt_cmpR op_lt (pe_ix (ix_listK (K := K) rfl) (pv 0) pe_int (fun _ _ => rfl)) (pe_callB (id := "len") (call_lenK (K := K) rfl) (by rfl) T.n_len (by decide +kernel) (pa_cons (pe_ix (ix_listK (K := K) rfl) (pv 0) pe_int (fun _ _ => rfl)) pa_nil)) (nomark _)) (pss_one (ps_set (i := 2) nd rfl (Or.inl rfl) (pe_ix (ix_listK (K := K) rfl) (pe_ix (ix_listK (K := K) rfl) (pv 0) pe_int (fun _ _ => rfl)) (pe_ix (ix_listK (K := K) rfl) (pv 0) pe_int (fun _ _ => rfl)) (fun _ _ => rfl)))) pss_nil)
    (pss_cons (ps_augS (pv 0) pe_int pget_list pe_int ip_add set_list)
    (pss_cons (ps_if (pt_cmpR op_ge (pv 2) pe_int (nomark _)) (pss_one (ps_asg (pv 2) (pg_sub (pv 0) pe_int set_list))) pss_nil)
    (pss_cons (ps_set (i := 3) nd rfl (Or.inl rfl) (pe_op op_add (pe_op op_add (pe_op op_mul (pe_ix (ix_listK (K := K) rfl) (pv 0) pe_int (fun _ _ => rfl)) pe_int) (pe_op op_mod (pe_callTy (T := "int") call_int1 (by rfl) T.n_int (by decide +kernel) (pa_cons (pv 2) pa_nil)) pe_int)) (pe_op op_mul pe_int (pe_ix (ix_listK (K := K) rfl) (pv 0) pe_int (fun _ _ => rfl)))))
    (pss_one (ps_asg (pe_op op_mod (pe_callTy (T := "int") call_int1 (by rfl) T.n_int (by decide +kernel) (pa_cons (pv 3) pa_nil)) pe_int) (pg_sub (pv 0) pe_int set_list)))))))) pss_nil)
    (pss_cons (ps_if (pt_cmpR op_gt (pe_ix (ix_listK (K := K) rfl) (pv 0) pe_int (fun _ _ => rfl)) pe_int (nomark _)) (pss_cons (ps_set (i := 4) nd rfl (Or.inl rfl) (pe_op op_mod (pe_callTy (T := "int") call_int1 (by rfl) T.n_int (by decide +kernel) (pa_cons (pe_ix (ix_listK (K := K) rfl) (pv 0) pe_int (fun _ _ => rfl)) pa_nil)) (pv 1)))
    (pss_cons (ps_asg (pe_op op_fdiv (pe_callTy (T := "int") call_int1 (by rfl) T.n_int (by decide +kernel) (pa_cons (pe_ix (ix_listK (K := K) rfl) (pv 0) pe_int (fun _ _ => rfl)) pa_nil)) (pv 1)) (pg_sub (pv 0) pe_int set_list))
    (pss_one (ps_ret (pv 4))))) pss_nil)
    (pss_cons (ps_set (i := 5) nd rfl (Or.inl rfl) (pe_op op_mod (pe_callTy (T := "int") call_int1 (by rfl) T.n_int (by decide +kernel) (pa_cons (pe_op op_mul (pe_op op_add (pe_ix (ix_listK (K := K) rfl) (pv 0) pe_int (fun _ _ => rfl)) pe_int) pe_int) pa_nil)) pe_int))
    (pss_cons (ps_set (i := 6) nd rfl (Or.inl rfl) (pe_op op_mod (pe_callTy (T := "int") call_int1 (by rfl) T.n_int (by decide +kernel) (pa_cons (pe_op op_mul (pe_op op_mod (pe_callTy (T := "int") call_int1 (by rfl) T.n_int (by decide +kernel) (pa_cons (pe_op op_mul (pv 5) (pv 5)) pa_nil)) pe_int) pe_int) pa_nil)) pe_int))
    (pss_one (ps_ret (pe_op op_mod (pe_callTy (T := "int") call_int1 (by rfl) T.n_int (by decide +kernel) (pa_cons (pe_op op_fdiv (pv 6) pe_int) pa_nil)) (pv 1)))))))), ?_⟩
    refine ⟨fun σ' H' => ∃ x y, σ' = [some (.ref b), some (.int m), x, y, none, none, none] ∧ KeepB b H H' ∧ BagAt H' b c, ?_, ?_⟩
    · walk_at "rd"
      refine iteI (fun e => ?_) (fun e => ?_)
      · walk_at "rd"
        refine iteD (fun hn => ?_) (fun hn => ?_)
        · have hn : n < (cs.length : Int) := by rw [List.length_map] at hn; exact hn
          obtain ⟨z, hz, ez⟩ := at_ints n0 hn
          have z0 := cs0 z hz
          walk_at "rd"
          refine ⟨_, _, _, _, rfl, rfl, SqL.of (by assumption), ez, ?_⟩
          walk_at "rd"
          refine iteD (fun hz => ?_) (fun hz => ?_)
          · walk_at "rd"
            exact ⟨_, _, rfl, by walk_at "keep", BagAt.mk' upd_same (by walk_at "at") (by omega) (by walk_at "num") (by walk_at "num") (by walk_at "num") cs0 csl⟩
          · walk_at "rd"
            exact ⟨_, _, rfl, by walk_at "keep", BagAt.mk' upd_same (by walk_at "at") (by omega) (by walk_at "num") (by walk_at "num") (by walk_at "num") cs0 csl⟩
        · walk_at "rd"
          refine iteD (fun hz => absurd hz (by decide)) (fun hz => ?_)
          walk_at "rd"
          exact ⟨_, _, rfl, by walk_at "keep", BagAt.mk' upd_same (by walk_at "at") (by omega) (by walk_at "num") (by walk_at "num") (by walk_at "num") cs0 csl⟩
      · exact ⟨_, _, rfl, KeepB.refl _ _, BagAt.mk' hb hc p0 q0 q1 n0 cs0 csl⟩
    · rintro _ H1 ⟨x, y, rfl, hk, p, q, n, cs, hb, hc, p0, q0, q1, n0, cs0, csl⟩
      have ncb := bag_ne hb hc
      walk_at "rd"
      refine iteD (fun hp => ?_) (fun hp => ?_)
      · walk_at "rd"
        exact k _ _ (hk.trans (by walk_at "keep")) (BagAt.mk' upd_same (by walk_at "at") (Int.ediv_nonneg (by omega) (by omega)) (by omega) (by omega) (by omega) cs0 csl) (Int.emod_nonneg _ (by omega)) (Int.emod_lt_of_pos _ m0)
      · walk_at "rd"
        exact k _ _ hk (BagAt.mk' hb hc p0 q0 q1 n0 cs0 csl) (Int.emod_nonneg _ (by omega)) (Int.emod_lt_of_pos _ m0)
def sp_law_choice : Sp := fun vs H Q _ => ∃ (b c : Addr) (z : Str), vs = [.ref b, .str z] ∧ BagAt H b c ∧ SignsOk z ∧
  ∀ (y : Str) (H' : Hp), KeepB b H H' → BagAt H' b c → choiceB z y = true → Q (.str y) H'
theorem ok_law_choice (T : Txt K mg) : FnOk P w K mg base CX0 2 T.f_law_choice T.d_law_choice ["_law_bag_here", "_law_signs_here"] sp_law_choice := by
  have nd := sc_law_choice.nd
  refine T.F_law_choice.ok sc_law_choice (fun vs H Q E h => ?_) (fun cdv A outer s H vs Q E hr h => ?_)
  · obtain ⟨b, c, z, rfl, _⟩ := h
    rfl
  · obtain ⟨b, c, z, rfl, hb, hz, k⟩ := h
    refine ⟨_, (pss_cons (ps_set (i := 2) nd rfl (Or.inl rfl) (pe_join pe_str (pe_lc (own := [("_law_sign", 3)]) (g := gName 3) (by rfl) nd (pi_str (pv 1)) (blkOk_by (own := [("_law_sign", 3)]) (N := N_law_choice) (sc := defScope s_law_choice) (by decide +kernel)) (fun _ _ _ _ _ => (pg_name (i := 3) nd rfl (Or.inl rfl))) (fun _ _ _ _ _ => pts_one (pt_cmpR op_eq (pe_call (ok_law_take T) (hr.mono (by decide)) (by rfl) T.m_law_take T.F_law_take.kp T.b_law_take .nil pass0 (pa_cons (pv 0) (pa_cons pe_int pa_nil))) pe_int (nomark _))) (fun _ _ _ _ _ => (pv 3)))))
    (pss_one (ps_ret (pe_orT (pv 2) (pe_one (pe_ix ix_str (pv 1) (pe_call (ok_law_take T) (hr.mono (by decide)) (by rfl) T.m_law_take T.F_law_take.kp T.b_law_take .nil pass0 (pa_cons (pv 0) (pa_cons (pe_callB (id := "len") (call_lenK (K := K) rfl) (by rfl) T.n_len (by decide +kernel) (pa_cons (pv 1) pa_nil)) pa_nil))) (fun _ _ => rfl))))))), ?_⟩
    have hl := hz.len
    refine ⟨⟨_, rfl⟩, ?_⟩
    walk_at "rd"
    intro D hD
    refine lc_it walk_str (fun i H2 => Keep2 b D H H2 ∧ BagAt H2 b c ∧ ∃ cs : List Nat, H2 D = some (.lst ((cs.map sg).map V.str)) ∧ cs.Sublist ((cl z).take i)) ?_ (fun _ _ _ _ => trivial) ?_ ?_
    · exact ⟨Keep2.of2 KeepB.put, bag_upd hb hD, [], upd_same, List.nil_sublist _⟩
    · rintro i _ H2 _ hi ⟨k2, b2, cs, hDl, hs⟩ ⟨rfl, x, hx, rfl⟩
      have hcsl : cs.length ≤ 6 := by
        have h1 := hs.length_le
        rw [List.length_take] at h1
        have h2 := cl_len z
        omega
      have htk : (cl z).take (i + 1) = (cl z).take i ++ [x] := by
        rw [List.take_add_one, cl_get hx]; rfl
      walk_at "rd"
      refine ⟨b, c, 2, rfl, b2, by omega, by omega, fun r H3 k3 b3 r0 r1 => ?_⟩
      have hD3 : H3 D = some (.lst ((cs.map sg).map V.str)) := k3 _ _ (hb.neb hD) hDl
      walk_at "rd"
      refine iteI (fun _ => ?_) (fun _ => ?_)
      · walk_at "rd"
        refine ⟨_, hD3, szt (by rw [List.length_map, List.length_map]; omega), ?_, ?_, cs ++ [x], ?_, ?_⟩
        · exact (k2.trans (Keep2.of k3)).trans (Keep2.of2 KeepB.put)
        · exact bag_keep b3 KeepB.put (hb.neb hD) (hb.nec hD)
        · rw [upd_same, List.map_append, List.map_append]; rfl
        · rw [htk]; exact hs.append (List.Sublist.refl _)
      · refine ⟨k2.trans (Keep2.of k3), b3, cs, hD3, ?_⟩
        rw [htk]; exact hs.trans (List.sublist_append_left _ _)
    · rintro H2 ⟨k2, b2, cs, hDl, hs⟩
      have hs : cs.Sublist (cl z) := by
        rwa [show z.cps.size = (cl z).length from rfl, List.take_length] at hs
      have hcsl : cs.length ≤ 6 := by
        have h1 := hs.length_le
        have h2 := cl_len z
        omega
      have hj : ((cs.map sg).map (·.length)).sum + (cs.map sg).length * (Str.ofString "").length ≤ 16777216 := by
        rw [sum_ones]; omega
      refine ⟨_, _, cs.map sg, rfl, rfl, .inl (SqL.of hDl), hj, ?_⟩
      rw [join_signs]
      walk_at "rd"
      by_cases hn : cs = []
      · subst hn
        refine ⟨false, ⟨szl (by decide), rfl⟩, ?_⟩
        walk_at "rd"
        refine ⟨b, c, z.length, rfl, b2, by omega, by omega, fun r H3 k3 b3 r0 r1 => ?_⟩
        obtain ⟨x, hx, ex⟩ := at_mem (xs := cl z) r0 (by rw [cl_len]; exact r1)
        refine ⟨_, _, x, rfl, rfl, szl (by omega), ex, ?_⟩
        exact k _ H3 ((k2.free hD).trans k3) b3 (choice_sub (cs := [x]) hz (List.singleton_sublist.mpr hx) (by simp))
      · refine ⟨true, ⟨szl (by rw [len_of]; omega), ?_⟩, ?_⟩
        · rw [len_of]
          have : cs.length ≠ 0 := fun e => hn (List.eq_nil_of_length_eq_zero e)
          simp [this]
        · exact k _ H2 (k2.free hD) b2 (choice_sub hz hs hn)
def sp_law_word : Sp := fun vs H Q _ => ∃ (b c : Addr) (z : Str) (m : Int), vs = [.ref b, .str z, .int m] ∧ BagAt H b c ∧ SignsOk z ∧ 0 ≤ m ∧ m ≤ 1000 ∧
  ∀ (cs : List Nat) (H' : Hp), KeepB b H H' → BagAt H' b c → (∀ x ∈ cs, x ∈ cl z) → (cs.length : Int) = m → Q (.str ⟨cs.toArray⟩) H'
theorem ok_law_word (T : Txt K mg) : FnOk P w K mg base CX0 2 T.f_law_word T.d_law_word ["_law_bag_here", "_law_signs_here", "_law_many"] sp_law_word := by
  have nd := sc_law_word.nd
  refine T.F_law_word.ok sc_law_word (fun vs H Q E h => ?_) (fun cdv A outer s H vs Q E hr h => ?_)
  · obtain ⟨b, c, z, m, rfl, _⟩ := h
    rfl
  · obtain ⟨b, c, z, m, rfl, hb, hz, m0, m1, k⟩ := h
    refine ⟨_, (pss_one (ps_ret (pe_join pe_str (pe_lc (own := [("_law_k", 3)]) (g := gName 3) (by rfl) nd (pi_range1 (by rfl) T.n_range (pa_cons (pv 2) pa_nil)) (blkOk_by (own := [("_law_k", 3)]) (N := N_law_word) (sc := defScope s_law_word) (by decide +kernel)) (fun _ _ _ _ _ => (pg_name (i := 3) nd rfl (Or.inl rfl))) (fun _ _ _ _ _ => pts_nil) (fun _ _ _ _ _ => (pe_ix ix_str (pv 1) (pe_call (ok_law_take T) (hr.mono (by decide)) (by rfl) T.m_law_take T.F_law_take.kp T.b_law_take .nil pass0 (pa_cons (pv 0) (pa_cons (pe_callB (id := "len") (call_lenK (K := K) rfl) (by rfl) T.n_len (by decide +kernel) (pa_cons (pv 1) pa_nil)) pa_nil))) (fun _ _ => rfl))))))), ?_⟩
    have hl := hz.len
    refine ⟨⟨_, rfl⟩, ?_⟩
    walk_at "rd"
    intro D hD
    refine lc_range (lo := 0) (n := m.toNat) (fun i H2 => Keep2 b D H H2 ∧ BagAt H2 b c ∧ ∃ cs : List Nat, H2 D = some (.lst ((cs.map sg).map V.str)) ∧ cs.length = i ∧ ∀ x ∈ cs, x ∈ cl z) ?_ ?_ ?_
    · exact ⟨Keep2.of2 KeepB.put, bag_upd hb hD, [], upd_same, rfl, fun _ h => nomatch h⟩
    · rintro i H2 hi ⟨k2, b2, cs, hDl, hcs, hin⟩
      walk_at "rd"
      refine ⟨b, c, z.length, rfl, b2, by omega, by omega, fun r H3 k3 b3 r0 r1 => ?_⟩
      obtain ⟨x, hx, ex⟩ := at_mem (xs := cl z) r0 (by rw [cl_len]; exact r1)
      refine ⟨_, _, x, rfl, rfl, szl (by omega), ex, ?_⟩
      have hD3 : H3 D = some (.lst ((cs.map sg).map V.str)) := k3 _ _ (hb.neb hD) hDl
      refine ⟨_, hD3, szt (by rw [List.length_map, List.length_map]; omega), ?_, ?_, cs ++ [x], ?_, ?_, ?_⟩
      · exact (k2.trans (Keep2.of k3)).trans (Keep2.of2 KeepB.put)
      · exact bag_keep b3 KeepB.put (hb.neb hD) (hb.nec hD)
      · rw [upd_same, List.map_append, List.map_append]; rfl
      · rw [List.length_append, hcs]; rfl
      · intro y h'
        rcases List.mem_append.mp h' with h' | h'
        · exact hin y h'
        · rw [List.mem_singleton.mp h']; exact hx
    · rintro H2 ⟨k2, b2, cs, hDl, hcs, hin⟩
      have hj : ((cs.map sg).map (·.length)).sum + (cs.map sg).length * (Str.ofString "").length ≤ 16777216 := by
        rw [sum_ones]; omega
      refine ⟨_, _, cs.map sg, rfl, rfl, .inl (SqL.of hDl), hj, ?_⟩
      rw [join_signs]
      exact k cs H2 (k2.free hD) b2 hin (by omega)
def sp_law_free_token (K : PySem.W.Frag) : Sp := fun vs H Q _ => ∃ (b c : Addr) (z : Str) (m : Int), vs = [.ref b, .str z, .int m] ∧ BagAt H b c ∧ SignsOk z ∧ 1 ≤ m ∧ m ≤ 40 ∧
  ∀ (v : V) (t : List V) (H' : Hp), KeepB b H H' → BagAt H' b c → TokAt K H' z v t → sizeV t ≤ m → Q v H'
theorem ok_law_free_token (T : Txt K mg) : FnOk P w K mg base CX0 3 T.f_law_free_token T.d_law_free_token ["_law_bag_here", "_law_signs_here", "_law_room"] (sp_law_free_token K) := by
  have nd := sc_law_free_token.nd
  refine T.F_law_free_token.ok sc_law_free_token (fun vs H Q E h => ?_) (fun cdv A outer s H vs Q E hr h => ?_)
  · obtain ⟨b, c, z, m, rfl, _⟩ := h
    rfl
  · obtain ⟨b, c, z, m, rfl, hb, hz, m0, m1, k⟩ := h
    refine ⟨_, (pss_cons (ps_par3 (i := 3) (j := 4) (l := 5) (by rfl) nd rfl rfl rfl (by decide) (by decide) (by decide) rfl rfl rfl (pa_cons (pe_call (ok_law_take T) (hr.mono (by decide)) (by rfl) T.m_law_take T.F_law_take.kp T.b_law_take .nil pass0 (pa_cons (pv 0) (pa_cons pe_int pa_nil))) (pa_cons (pe_op op_add pe_int (pe_call (ok_law_take T) (hr.mono (by decide)) (by rfl) T.m_law_take T.F_law_take.kp T.b_law_take .nil pass0 (pa_cons (pv 0) (pa_cons (pv 2) pa_nil)))) (pa_cons (pe_op op_add pe_int (pe_call (ok_law_take T) (hr.mono (by decide)) (by rfl) T.m_law_take T.F_law_take.kp T.b_law_take .nil pass0 (pa_cons (pv 0) (pa_cons pe_int pa_nil)))) pa_nil))) (by rfl))
    (pss_cons (ps_if (pt_cmpR op_lt (pv 3) pe_int (nomark _)) (pss_one (ps_ret (pe_tup (pa_cons pe_str (pa_cons (pv 5) (pa_cons (pv 4) pa_nil)))))) pss_nil)
    (pss_cons (ps_if (pt_cmpR op_eq (pv 3) pe_int (nomark _)) (pss_one (ps_ret (pe_tup (pa_cons pe_str (pa_cons (pv 5) (pa_cons (pv 4) pa_nil)))))) pss_nil)
    (pss_cons (ps_if (pt_cmpR (op_in_seqK (K := K) rfl) (pv 3) (pe_tup (pa_cons pe_int (pa_cons pe_int pa_nil))) (by rfl)) (pss_one (ps_ret (pe_tup (pa_cons pe_str (pa_cons (pe_call (ok_law_choice T) (hr.mono (by decide)) (by rfl) T.m_law_choice T.F_law_choice.kp T.b_law_choice .nil pass0 (pa_cons (pv 0) (pa_cons (pv 1) pa_nil))) pa_nil))))) pss_nil)
    (pss_cons (ps_if (pt_cmpR op_eq (pv 3) pe_int (nomark _)) (pss_one (ps_ret (pe_tup (pa_cons pe_str pa_nil)))) pss_nil)
    (pss_one (ps_ret (pe_tup (pa_cons pe_str (pa_cons (pe_call (ok_law_word T) (hr.mono (by decide)) (by rfl) T.m_law_word T.F_law_word.kp T.b_law_word .nil pass0 (pa_cons (pv 0) (pa_cons (pv 1) (pa_cons (pe_ifExp (pt_cmpR op_eq (pe_call (ok_law_take T) (hr.mono (by decide)) (by rfl) T.m_law_take T.F_law_take.kp T.b_law_take .nil pass0 (pa_cons (pv 0) (pa_cons pe_int pa_nil))) pe_int (nomark _)) (pv 4) (pe_callB (id := "min") (call_min2 rfl) (by rfl) T.n_min (by decide +kernel) (pa_cons (pv 4) (pa_cons pe_int pa_nil)))) pa_nil)))) pa_nil)))))))))), ?_⟩
    have hl := hz.len
    refine ⟨_, rfl, ?_⟩
    walk_at "rd"
    refine ⟨b, c, 8, rfl, hb, by decide, by decide, fun r1 H1 k1 b1 r10 r11 => ?_⟩
    walk_at "rd"
    refine ⟨b, c, m, rfl, b1, by omega, by omega, fun r2 H2 k2 b2 r20 r21 => ?_⟩
    walk_at "rd"
    refine ⟨b, c, 12, rfl, b2, by decide, by decide, fun r3 H3 k3 b3 r30 r31 => ?_⟩
    walk_at "rd"
    have kk := (k1.trans k2).trans k3
    refine ⟨_, _, _, rfl, ?_⟩
    walk_at "rd"
    refine iteD (fun hw => ?_) (fun hw => ?_)
    · walk_at "rd"
      intro p hp
      exact k _ _ _ (kk.trans (KeepB.new hp)) (bag_upd b3 hp) ⟨⟨p, rfl, SqT.of upd_same⟩, tok_copy (by omega) (by omega) (by omega) (by omega)⟩ (show 1 + r2 ≤ m by omega)
    · walk_at "rd"
      refine iteI (fun hw2 => ?_) (fun hw2 => ?_)
      · walk_at "rd"
        intro p hp
        exact k _ _ _ (kk.trans (KeepB.new hp)) (bag_upd b3 hp) ⟨⟨p, rfl, SqT.of upd_same⟩, tok_say (by omega) (by omega) (by omega) (by omega)⟩ (show 1 + r2 ≤ m by omega)
      · walk_at "rd"
        intro p hp
        refine ⟨p, _, rfl, .inr (SqT.of upd_same), rfl, rfl, ?_⟩
        walk_at "rd"
        refine iteK (fun hw3 => ?_) (fun hw3 => ?_)
        · walk_at "rd"
          refine ⟨b, c, z, rfl, bag_upd b3 hp, hz, fun y H4 k4 b4 hy => ?_⟩
          walk_at "rd"
          intro q hq
          exact k _ _ _ (((kk.trans (KeepB.new hp)).trans k4).trans (KeepB.new hq)) (bag_upd b4 hq) ⟨⟨q, rfl, SqT.of upd_same⟩, tok_any hy⟩ (by rw [sizeV_any]; omega)
        · walk_at "rd"
          refine iteI (fun hw4 => ?_) (fun hw4 => ?_)
          · walk_at "rd"
            intro q hq
            exact k _ _ _ ((kk.trans (KeepB.new hp)).trans (KeepB.new hq)) (bag_upd (bag_upd b3 hp) hq) ⟨⟨q, rfl, SqT.of upd_same⟩, tok_flush⟩ (show (0 : Int) ≤ m by omega)
          · walk_at "rd"
            refine ⟨b, c, 4, rfl, bag_upd b3 hp, by decide, by decide, fun r4 H4 k4 b4 r40 r41 => ?_⟩
            walk_at "rd"
            have fin : ∀ (n : Int) (cs : List Nat) (H5 : Hp), 1 ≤ n → n ≤ m → KeepB b H4 H5 → BagAt H5 b c → (∀ x ∈ cs, x ∈ cl z) → (cs.length : Int) = n → ∀ q, H5 q = none → Q (.ref q) (upd H5 q (.tup [.str "text", .str ⟨cs.toArray⟩])) := fun n cs H5 n0 n1 k5 b5 hcs hn q hq => by
              refine k _ _ _ ((((kk.trans (KeepB.new hp)).trans k4).trans k5).trans (KeepB.new hq)) (bag_upd b5 hq) ⟨⟨q, rfl, SqT.of upd_same⟩, tok_text (over_of hcs) (by rw [len_of]; omega) (by rw [len_of]; omega)⟩ ?_
              rw [sizeV_text, len_of]
              omega
            refine iteI (fun hw5 => ?_) (fun hw5 => ?_)
            · walk_at "rd"
              refine ⟨b, c, z, 1 + r2, rfl, b4, hz, by omega, by omega, fun cs H5 k5 b5 hcs hn => ?_⟩
              walk_at "rd"
              intro q hq
              exact fin (1 + r2) cs H5 (by omega) (by omega) k5 b5 hcs hn q hq
            · walk_at "rd"
              refine ⟨_, _, rfl, ?_⟩
              walk_at "rd"
              refine ⟨b, c, z, (if 3 < 1 + r2 then 3 else 1 + r2), rfl, b4, hz, by split <;> omega, by split <;> omega, fun cs H5 k5 b5 hcs hn => ?_⟩
              walk_at "rd"
              intro q hq
              exact fin _ cs H5 (by split <;> omega) (by split <;> omega) k5 b5 hcs hn q hq
def sp_law_size (K : PySem.W.Frag) : Sp := fun vs H Q _ => ∃ (a : Addr) (xs : List V) (z : Str), vs = [.ref a] ∧ SqT K H a xs ∧ tokV z xs = true ∧ ∀ H', Same H H' → Q (.int (sizeV xs)) H'
theorem ok_law_size (T : Txt K mg) : FnOk P w K mg base CX0 1 T.f_law_size T.d_law_size ["_law_token"] (sp_law_size K) := by
  have nd := sc_law_size.nd
  refine T.F_law_size.ok sc_law_size (fun vs H Q E h => ?_) (fun cdv A outer s H vs Q E hr h => ?_)
  · obtain ⟨a, xs, z, rfl, _⟩ := h
    rfl
  · obtain ⟨a, xs, z, rfl, ha, ht, k⟩ := h
    refine ⟨_, (pss_cons (ps_if (pt_cmpR op_eq (pe_ix (ix_tupK (K := K) rfl) (pv 0) pe_int (fun _ _ => rfl)) pe_str (nomark _)) (pss_one (ps_ret (pe_callB (id := "len") (call_lenK (K := K) rfl) (by rfl) T.n_len (by decide +kernel) (pa_cons (pe_ix (ix_tupK (K := K) rfl) (pv 0) pe_int (fun _ _ => rfl)) pa_nil)))) pss_nil)
    (pss_one (ps_ret (pe_ifExp (pt_cmpR (op_in_seqK (K := K) rfl) (pe_ix (ix_tupK (K := K) rfl) (pv 0) pe_int (fun _ _ => rfl)) (pe_tup (pa_cons pe_str (pa_cons pe_str pa_nil))) (by rfl)) (pe_dget (hu_of hr) (pe_disp (pps_cons pe_str pe_int (pps_cons pe_str pe_int pps_nil)) (by rfl) (by rfl) (fun z => by cases z) (by decide)) (pe_ix (ix_tupK (K := K) rfl) (pv 0) pe_int (fun _ _ => rfl)) (fun _ _ => rfl)) (pe_ix (ix_tupK (K := K) rfl) (pv 0) pe_int (fun _ _ => rfl)))))), ?_⟩
    obtain ⟨kd, rest, rfl, hk⟩ := tok_inv ht
    rcases hk with ⟨rfl, rfl⟩ | ⟨y, rfl, rfl, h1, h2, h3⟩ | ⟨y, rfl, rfl, h1⟩ | ⟨d, n, hkd, rfl, h1, h2, h3, h4⟩
    · walk_at "rd"
      walk_at "ks"
      walk_at "rd"
      intro p hp
      refine ⟨p, _, rfl, .inr (SqT.of upd_same), rfl, rfl, ?_⟩
      have e : (if false = true then !inV (V.str "flush") [V.str "any", V.str "flush"] else inV (V.str "flush") [V.str "any", V.str "flush"]) = true := by decide +kernel
      rw [e]
      walk_at "rd"
      intro d hd
      refine ⟨upd_same, [(Sum.inr "any", .int 1), (Sum.inr "flush", .int 0)], rfl, by decide, ?_⟩
      have e1 : mergeK [] [((Sum.inr "any" : Key), V.int 1), (Sum.inr "flush", .int 0)] = [((Sum.inr "any" : Key), V.int 1), (Sum.inr "flush", .int 0)] := by decide +kernel
      rw [e1]
      have sm : Same H (upd (upd (upd H p (.tup [V.str "any", V.str "flush"])) d (.dK [])) d (.dK [((Sum.inr "any" : Key), V.int 1), (Sum.inr "flush", .int 0)])) := by
        rw [upd_upd]
        exact (same_new hp).trans (same_new hd)
      have ha' := sqT_same sm ha
      walk_at "rd"
      have dg := DGet.k (k := (Sum.inr "flush" : Key)) (upd_same (H := upd (upd H p (.tup [V.str "any", V.str "flush"])) d (.dK [])) (a := d) (o := .dK [((Sum.inr "any" : Key), V.int 1), (Sum.inr "flush", .int 0)]))
      have e2 : valV [((Sum.inr "any" : Key), V.int 1), (Sum.inr "flush", .int 0)] (Sum.inr "flush") = some (.int 0) := by decide +kernel
      rw [e2] at dg
      refine ⟨d, _, rfl, dg, ?_⟩
      exact k _ sm
    · walk_at "rd"
      walk_at "ks"
      walk_at "rd"
      rw [sizeV_text] at k
      exact k _ (Same.refl _)
    · walk_at "rd"
      walk_at "ks"
      walk_at "rd"
      intro p hp
      refine ⟨p, _, rfl, .inr (SqT.of upd_same), rfl, rfl, ?_⟩
      have e : (if false = true then !inV (V.str "any") [V.str "any", V.str "flush"] else inV (V.str "any") [V.str "any", V.str "flush"]) = true := by decide +kernel
      rw [e]
      walk_at "rd"
      intro d hd
      refine ⟨upd_same, [(Sum.inr "any", .int 1), (Sum.inr "flush", .int 0)], rfl, by decide, ?_⟩
      have e1 : mergeK [] [((Sum.inr "any" : Key), V.int 1), (Sum.inr "flush", .int 0)] = [((Sum.inr "any" : Key), V.int 1), (Sum.inr "flush", .int 0)] := by decide +kernel
      rw [e1]
      have sm : Same H (upd (upd (upd H p (.tup [V.str "any", V.str "flush"])) d (.dK [])) d (.dK [((Sum.inr "any" : Key), V.int 1), (Sum.inr "flush", .int 0)])) := by
        rw [upd_upd]
        exact (same_new hp).trans (same_new hd)
      have ha' := sqT_same sm ha
      walk_at "rd"
      have dg := DGet.k (k := (Sum.inr "any" : Key)) (upd_same (H := upd (upd H p (.tup [V.str "any", V.str "flush"])) d (.dK [])) (a := d) (o := .dK [((Sum.inr "any" : Key), V.int 1), (Sum.inr "flush", .int 0)]))
      have e2 : valV [((Sum.inr "any" : Key), V.int 1), (Sum.inr "flush", .int 0)] (Sum.inr "any") = some (.int 1) := by decide +kernel
      rw [e2] at dg
      refine ⟨d, _, rfl, dg, ?_⟩
      rw [sizeV_any] at k
      exact k _ sm
    · have go : ∀ kd : Str, inV (V.str kd) [V.str "any", V.str "flush"] = false → (if false = true then !inV (V.str kd) [V.str "any", V.str "flush"] else inV (V.str kd) [V.str "any", V.str "flush"]) = false := fun kd h => by
        rw [if_neg Bool.false_ne_true]; exact h
      rcases hkd with rfl | rfl
      · walk_at "rd"
        walk_at "ks"
        walk_at "rd"
        intro p hp
        refine ⟨p, _, rfl, .inr (SqT.of upd_same), rfl, rfl, ?_⟩
        rw [go _ (by decide +kernel)]
        walk_at "rd"
        refine ⟨_, _, _, _, rfl, rfl, sqT_same (same_new hp) ha, rfl, ?_⟩
        exact k _ (same_new hp)
      · walk_at "rd"
        walk_at "ks"
        walk_at "rd"
        intro p hp
        refine ⟨p, _, rfl, .inr (SqT.of upd_same), rfl, rfl, ?_⟩
        rw [go _ (by decide +kernel)]
        walk_at "rd"
        refine ⟨_, _, _, _, rfl, rfl, sqT_same (same_new hp) ha, rfl, ?_⟩
        exact k _ (same_new hp)
def sp_law_wide (K : PySem.W.Frag) : Sp := fun vs H Q _ => ∃ (l : Addr) (tvs : List V) (ts : List (List V)) (z : Str), vs = [.ref l] ∧ SqL K H l tvs ∧ Toks K H z tvs ts ∧ ts.length ≤ 1000 ∧ ∀ H', Same H H' → Q (.int (tsize ts)) H'
theorem ok_law_wide (T : Txt K mg) : FnOk P w K mg base CX0 2 T.f_law_wide T.d_law_wide ["_law_tokens"] (sp_law_wide K) := by
  have nd := sc_law_wide.nd
  refine T.F_law_wide.ok sc_law_wide (fun vs H Q E h => ?_) (fun cdv A outer s H vs Q E hr h => ?_)
  · obtain ⟨l, tvs, ts, z, rfl, _⟩ := h
    rfl
  · obtain ⟨l, tvs, ts, z, rfl, hl, htk, hn, k⟩ := h
    refine ⟨_, (pss_one (ps_ret (pe_callB (id := "sum") (cr_sum rfl) (by rfl) T.n_sum (by decide +kernel) (pa_cons (pe_lc (own := [("_law_token", 1)]) (g := gName 1) (by rfl) nd (pi_list (pv 0)) (blkOk_by (own := [("_law_token", 1)]) (N := N_law_wide) (sc := defScope s_law_wide) (by decide +kernel)) (fun _ _ _ _ _ => (pg_name (i := 1) nd rfl (Or.inl rfl))) (fun _ _ _ _ _ => pts_nil) (fun _ _ _ _ _ => (pe_call (ok_law_size T) (hr.mono (by decide)) (by rfl) T.m_law_size T.F_law_size.kp T.b_law_size .nil pass0 (pa_cons (pv 1) pa_nil)))) pa_nil)))), ?_⟩
    have hlen := paired_len htk
    walk_at "rd"
    refine ⟨⟨_, hl⟩, ?_⟩
    intro D hD
    refine lc_list (K := K) (a := l) (xs := tvs) (Acc ts (fun t => .int (sizeV t)) H D) (Acc.start _ _ _ _) (fun i H3 _ ka2 => (ka2.same hD).seq hl) ?_ ?_
    · intro i v H3 hv ka
      obtain ⟨t, ht, ⟨⟨a, rfl, ha⟩, hok⟩⟩ := paired_get htk hv
      walk_at "rd"
      refine ⟨a, t, z, rfl, sqT_same (ka.same hD) ha, hok, fun H4 s4 => ?_⟩
      exact ka.step (KeepB.of_same s4) ((s4 _ _ ka.2).trans ka.2.symm) ht (by omega) rfl
    · rw [hlen]
      intro H3 ka
      refine ⟨_, ts.map sizeV, rfl, SqL.of (by rw [List.map_map]; exact Acc.all ka), ?_⟩
      exact k _ (ka.same hD)
def sp_law_free_tokens (K : PySem.W.Frag) : Sp := fun vs H Q _ => ∃ (b c : Addr) (z : Str) (m : Int), vs = [.ref b, .str z, .int m] ∧ BagAt H b c ∧ SignsOk z ∧ 1 ≤ m ∧ m ≤ 40 ∧
  ∀ (l : Addr) (tvs : List V) (ts : List (List V)) (H' : Hp), KeepB b H H' → BagAt H' b c → H l = none → l ≠ b → H' l = some (.lst tvs) → Toks K H' z tvs ts → ts.length ≤ 20 → 1 ≤ tsize ts → tsize ts ≤ m → Q (.ref l) H'
theorem ok_law_free_tokens (T : Txt K mg) : FnOk P w K mg base CX0 4 T.f_law_free_tokens T.d_law_free_tokens ["_law_bag_here", "_law_signs_here", "_law_most"] (sp_law_free_tokens K) := by
  have nd := sc_law_free_tokens.nd
  refine T.F_law_free_tokens.ok sc_law_free_tokens (fun vs H Q E h => ?_) (fun cdv A outer s H vs Q E hr h => ?_)
  · obtain ⟨b, c, z, m, rfl, _⟩ := h
    rfl
  · obtain ⟨b, c, z, m, rfl, hb, hz, m0, m1, k⟩ := h
    refine ⟨_, (pss_cons (ps_set (i := 3) nd rfl (Or.inl rfl) (pe_lst pa_nil))
    (pss_cons (ps_for PassesOwn.never rfl (pi_range1 (by rfl) T.n_range (pa_cons (pe_op op_add pe_int (pe_call (ok_law_take T) (hr.mono (by decide)) (by rfl) T.m_law_take T.F_law_take.kp T.b_law_take .nil pass0 (pa_cons (pv 0) (pa_cons pe_int pa_nil)))) pa_nil)) (pg_name (i := 4) nd rfl (Or.inl rfl)) (pss_one (ps_if (pt_cmpR op_lt (pe_call (ok_law_wide T) (hr.mono (by decide)) (by rfl) T.m_law_wide T.F_law_wide.kp T.b_law_wide .nil pass0 (pa_cons (pv 3) pa_nil)) (pv 2) (nomark _)) (pss_one (ps_expr (pe_bm PySem.F.plainAttrs_list PySem.F.slot_list_append PySem.F.type_list_append mt_append (pv 3) (pa_cons (pe_call (ok_law_free_token T) (hr.mono (by decide)) (by rfl) T.m_law_free_token T.F_law_free_token.kp T.b_law_free_token .nil pass0 (pa_cons (pv 0) (pa_cons (pv 1) (pa_cons (pe_callB (id := "min") (call_min2 rfl) (by rfl) T.n_min (by decide +kernel) (pa_cons (pe_op op_sub (pv 2) (pe_call (ok_law_wide T) (hr.mono (by decide)) (by rfl) T.m_law_wide T.F_law_wide.kp T.b_law_wide .nil pass0 (pa_cons (pv 3) pa_nil))) (pa_cons (pe_ix (ix_listK (K := K) rfl) (pe_lst (pa_cons pe_int (pa_cons pe_int (pa_cons pe_int pa_nil)))) (pe_call (ok_law_take T) (hr.mono (by decide)) (by rfl) T.m_law_take T.F_law_take.kp T.b_law_take .nil pass0 (pa_cons (pv 0) (pa_cons pe_int pa_nil))) (fun _ _ => rfl)) pa_nil))) pa_nil)))) pa_nil)))) pss_nil)))
    (pss_cons (ps_if (pt_cmpR op_eq (pe_call (ok_law_wide T) (hr.mono (by decide)) (by rfl) T.m_law_wide T.F_law_wide.kp T.b_law_wide .nil pass0 (pa_cons (pv 3) pa_nil)) pe_int (nomark _)) (pss_one (ps_expr (pe_bm PySem.F.plainAttrs_list PySem.F.slot_list_insert PySem.F.type_list_insert mt_insert (pv 3) (pa_cons (pe_call (ok_law_take T) (hr.mono (by decide)) (by rfl) T.m_law_take T.F_law_take.kp T.b_law_take .nil pass0 (pa_cons (pv 0) (pa_cons (pe_op op_add (pe_callB (id := "len") (call_lenK (K := K) rfl) (by rfl) T.n_len (by decide +kernel) (pa_cons (pv 3) pa_nil)) pe_int) pa_nil))) (pa_cons (pe_tup (pa_cons pe_str (pa_cons (pe_ix ix_str (pv 1) (pe_call (ok_law_take T) (hr.mono (by decide)) (by rfl) T.m_law_take T.F_law_take.kp T.b_law_take .nil pass0 (pa_cons (pv 0) (pa_cons (pe_callB (id := "len") (call_lenK (K := K) rfl) (by rfl) T.n_len (by decide +kernel) (pa_cons (pv 1) pa_nil)) pa_nil))) (fun _ _ => rfl)) pa_nil))) pa_nil))))) pss_nil)
    (pss_one (ps_ret (pv 3)))))), ?_⟩
    have hzl := hz.len
    walk_at "rd"
    intro D hD
    have nDb := hb.neb hD
    have nDc := hb.nec hD
    walk_at "rd"
    refine ⟨b, c, 9, rfl, bag_upd hb hD, by decide, by decide, fun r H1 k1 b1 r0 r1 => ?_⟩
    walk_at "rd"
    have hD1 : H1 D = some (.lst []) := k1 _ _ nDb upd_same
    refine for_range (lo := 0) (n := (1 + r).toNat) (fun i σ H2 => ∃ (kv : Option V) (tvs : List V) (ts : List (List V)), σ = [some (.ref b), some (.str z), some (.int m), some (.ref D), kv] ∧ Keep2 b D H H2 ∧ BagAt H2 b c ∧ H2 D = some (.lst tvs) ∧ Toks K H2 z tvs ts ∧ ts.length ≤ i ∧ tsize ts ≤ m) ?_ ?_ ?_
    · exact ⟨none, [], [], rfl, (Keep2.of2 KeepB.put).trans (Keep2.of k1), b1, hD1, .nil, Nat.le_refl _, by rw [tsize_nil]; omega⟩
    · rintro i σ H2 hi ⟨kv, tvs, ts, rfl, k2, b2, hD2, htk, hn, hm⟩
      have hlen := paired_len htk
      walk_at "rd"
      refine ⟨D, tvs, ts, z, rfl, SqL.of hD2, htk, by omega, fun H3 s3 => ?_⟩
      walk_at "rd"
      refine iteD (fun hlt => ?_) (fun hlt => ?_)
      · walk_at "rd"
        have hD3 := s3 _ _ hD2
        have b3 := bag_same b2 s3
        have htk3 := htk.same s3
        try refine ⟨Or.inl ⟨rfl, _, SqL.of hD3⟩, ?_⟩
        walk_at "rd"
        refine ⟨D, tvs, ts, z, rfl, SqL.of hD3, htk3, by omega, fun H4 s4 => ?_⟩
        walk_at "rd"
        intro p hp
        have s5 := s4.trans (same_new (o := .lst [.int 3, .int 3, .int 40]) hp)
        walk_at "rd"
        refine ⟨b, c, 3, rfl, bag_same b3 s5, by decide, by decide, fun r3 H5 k5 b5 r30 r31 => ?_⟩
        obtain ⟨v, hv, v3, v40⟩ : ∃ v : Int, atI [V.int 3, V.int 3, V.int 40] r3 = some (V.int v) ∧ 3 ≤ v ∧ v ≤ 40 := by
          obtain ⟨v, hv, e⟩ := at3 (x := .int 3) (y := .int 3) (z := .int 40) r30 r31
          rcases e with rfl | rfl | rfl
          · exact ⟨3, hv, by decide, by decide⟩
          · exact ⟨3, hv, by decide, by decide⟩
          · exact ⟨40, hv, by decide, by decide⟩
        have npb : p ≠ b := (bag_same b3 s4).neb hp
        have hs0 := tsize_nn htk.ok
        refine ⟨_, _, _, _, rfl, rfl, SqL.of (k5 _ _ npb upd_same), hv, ?_⟩
        walk_at "rd"
        refine ⟨_, _, rfl, ?_⟩
        walk_at "rd"
        refine ⟨b, c, z, _, rfl, b5, hz, by split <;> omega, by split <;> omega, fun tv t H6 k6 b6 htt hsz => ?_⟩
        have k56 := k5.trans k6
        have hD6 : H6 D = some (.lst tvs) := k56 _ _ nDb (s5 _ _ hD3)
        refine ⟨D, tvs, tv, rfl, rfl, hD6, szt (by omega), ?_⟩
        have htk6 := (htk3.same s5).keep k56 (bag_same b3 s5).lst
        refine ⟨_, tvs ++ [tv], ts ++ [t], rfl, ?_, bag_keep b6 KeepB.put nDb nDc, upd_same, ?_, ?_, ?_⟩
        · exact (k2.trans ((Keep2.of (KeepB.of_same (s3.trans s5))).trans (Keep2.of k56))).trans (Keep2.of2 KeepB.put)
        · exact Toks.keep KeepB.put (lst_lst hD6) (paired_app htk6 (paired_one htt))
        · rw [List.length_append, List.length_singleton]; omega
        · rw [tsize_app, tsize_one]
          split at hsz <;> omega
      · walk_at "rd"
        exact ⟨_, tvs, ts, rfl, k2.trans (Keep2.of (KeepB.of_same s3)), bag_same b2 s3, s3 _ _ hD2, htk.same s3, by omega, hm⟩
    · rintro σ H2 ⟨kv, tvs, ts, rfl, k2, b2, hD2, htk, hn, hm⟩
      have hlen := paired_len htk
      have hs0 := tsize_nn htk.ok
      walk_at "rd"
      refine ⟨D, tvs, ts, z, rfl, SqL.of hD2, htk, by omega, fun H3 s3 => ?_⟩
      have hD3 := s3 _ _ hD2
      have b3 := bag_same b2 s3
      have htk3 := htk.same s3
      walk_at "rd"
      refine iteI (fun hw => ?_) (fun hw => ?_)
      · walk_at "rd"
        try refine ⟨Or.inl ⟨rfl, _, SqL.of hD3⟩, ?_⟩
        walk_at "rd"
        refine ⟨b, c, tvs.length + 1, rfl, b3, by omega, by omega, fun r4 H4 k4 b4 r40 r41 => ?_⟩
        walk_at "rd"
        refine ⟨b, c, z.length, rfl, b4, by omega, by omega, fun r5 H5 k5 b5 r50 r51 => ?_⟩
        obtain ⟨x, hx, ex⟩ := at_mem (xs := cl z) r50 (by rw [cl_len]; exact r51)
        refine ⟨_, _, x, rfl, rfl, szl (by omega), ex, ?_⟩
        walk_at "rd"
        intro p hp
        have k45 := (k4.trans k5).trans (KeepB.new (o := .tup [.str "text", .str (sg x)]) hp)
        have hD5 := k45 _ _ nDb hD3
        refine ⟨D, tvs, r4, _, rfl, rfl, hD5, szt (by omega), r40, by omega, ?_⟩
        walk_at "rd"
        have hle : r4.toNat ≤ ts.length := by omega
        have htok : TokAt K (upd H5 p (.tup [.str "text", .str (sg x)])) z (.ref p) [.str "text", .str (sg x)] := ⟨TupAt.new, tok_sign hx⟩
        have htk5 := htk3.keep k45 b3.lst
        have e := congrArg tsize (List.take_append_drop r4.toNat ts)
        rw [tsize_app] at e
        refine k D _ (ts.take r4.toNat ++ [[.str "text", .str (sg x)]] ++ ts.drop r4.toNat) _ ?_ (bag_keep (bag_upd b5 hp) KeepB.put nDb nDc) hD nDb upd_same ?_ ?_ ?_ ?_
        · exact ((k2.trans ((Keep2.of (KeepB.of_same s3)).trans (Keep2.of k45))).trans (Keep2.of2 KeepB.put)).free hD
        · exact Toks.keep KeepB.put (lst_lst hD5) (paired_app (paired_app (paired_take _ htk5) (paired_one htok)) (paired_drop _ htk5))
        · rw [List.length_append, List.length_append, List.length_take, List.length_drop, List.length_singleton]; omega
        · rw [tsize_app, tsize_app, tsize_one, size_sign]; omega
        · rw [tsize_app, tsize_app, tsize_one, size_sign]; omega
      · walk_at "rd"
        exact k D tvs ts _ ((k2.trans (Keep2.of (KeepB.of_same s3))).free hD) b3 hD nDb hD3 htk3 (by omega) (by omega) hm
theorem le_1w : ("=" : Str).length = 1 ∧ ("?" : Str).length = 1 ∧ ("c" : Str).length = 1 ∧ ("s" : Str).length = 1 ∧ ("." : Str).length = 1 := ⟨rfl, rfl, rfl, rfl, rfl⟩
def sp_law_show_token (K : PySem.W.Frag) : Sp := fun vs H Q _ => ∃ (v : V) (z : Str) (t : List V), vs = [v] ∧ TokAt K H z v t ∧ SignsOk z ∧ ∀ H', Same H H' → Q (.str (wordT t)) H'
theorem ok_law_show_token (T : Txt K mg) : FnOk P w K mg base CX0 1 T.f_law_show_token T.d_law_show_token ["_law_token"] (sp_law_show_token K) := by
  have nd := sc_law_show_token.nd
  refine T.F_law_show_token.ok sc_law_show_token (fun vs H Q E h => ?_) (fun cdv A outer s H vs Q E hr h => ?_)
  · obtain ⟨v, z, t, rfl, _⟩ := h
    rfl
  · obtain ⟨v, z, t, rfl, hv, hz, k⟩ := h
    refine ⟨_, (pss_cons (ps_if (pt_cmpR (op_in_seqK (K := K) rfl) (pe_ix (ix_tupK (K := K) rfl) (pv 0) pe_int (fun _ _ => rfl)) (pe_tup (pa_cons pe_str (pa_cons pe_str pa_nil))) (by rfl)) (pss_one (ps_ret (pe_op op_add_str (pe_dget (hu_of hr) (pe_disp (pps_cons pe_str pe_str (pps_cons pe_str pe_str pps_nil)) (by rfl) (by rfl) (fun z => by cases z) (by decide)) (pe_ix (ix_tupK (K := K) rfl) (pv 0) pe_int (fun _ _ => rfl)) (fun _ _ => rfl)) (pe_ix (ix_tupK (K := K) rfl) (pv 0) pe_int (fun _ _ => rfl))))) pss_nil)
    (pss_cons (ps_if (pt_cmpR op_eq (pe_ix (ix_tupK (K := K) rfl) (pv 0) pe_int (fun _ _ => rfl)) pe_str (nomark _)) (pss_one (ps_ret pe_str)) pss_nil)
    (pss_one (ps_ret (pe_op op_add_str (pe_op op_add_str (pe_op op_add_str (pe_ix ix_str (pe_ix (ix_tupK (K := K) rfl) (pv 0) pe_int (fun _ _ => rfl)) pe_int (fun _ _ => rfl)) (pe_callTy (T := "str") call_str_int (by rfl) T.n_str (by decide +kernel) (pa_cons (pe_ix (ix_tupK (K := K) rfl) (pv 0) pe_int (fun _ _ => rfl)) pa_nil))) pe_str) (pe_callTy (T := "str") call_str_int (by rfl) T.n_str (by decide +kernel) (pa_cons (pe_ix (ix_tupK (K := K) rfl) (pv 0) pe_int (fun _ _ => rfl)) pa_nil))))))), ?_⟩
    obtain ⟨⟨p, rfl, hp⟩, hok⟩ := hv
    obtain ⟨kd, rest, rfl, hk⟩ := tok_inv hok
    rcases hk with ⟨rfl, rfl⟩ | ⟨y, rfl, rfl, h1, h2, h3⟩ | ⟨y, rfl, rfl, h1⟩ | ⟨d, n, hkd, rfl, d1, d2, n1, n2⟩
    · walk_at "rd"
      intro q hq
      have s2 := same_new (o := .tup [.str "text", .str "any"]) hq
      have hp2 := sqT_same s2 hp
      refine ⟨q, _, rfl, .inr (SqT.of upd_same), rfl, rfl, ?_⟩
      walk_at "rd"
      refine iteKN (by decide +kernel) ?_
      walk_at "rd"
      walk_at "ks"
      walk_at "rd"
      exact k _ s2
    · walk_at "rd"
      intro q hq
      have s2 := same_new (o := .tup [.str "text", .str "any"]) hq
      have hp2 := sqT_same s2 hp
      refine ⟨q, _, rfl, .inr (SqT.of upd_same), rfl, rfl, ?_⟩
      walk_at "rd"
      refine iteKY (by decide +kernel) ?_
      walk_at "rd"
      intro d hd
      refine ⟨upd_same, [((Sum.inr "text" : Key), V.str "="), (Sum.inr "any", .str "?")], rfl, by decide, ?_⟩
      have e1 : mergeK [] [((Sum.inr "text" : Key), V.str "="), (Sum.inr "any", .str "?")] = [((Sum.inr "text" : Key), V.str "="), (Sum.inr "any", .str "?")] := by decide +kernel
      rw [e1]
      have s3 : Same H (upd (upd (upd H q (.tup [V.str "text", V.str "any"])) d (.dK [])) d (.dK [((Sum.inr "text" : Key), V.str "="), (Sum.inr "any", .str "?")])) := by
        rw [upd_upd]
        exact s2.trans (same_new hd)
      have hp3 := sqT_same s3 hp
      walk_at "rd"
      have dg := DGet.k (k := (Sum.inr "text" : Key)) (upd_same (H := upd (upd H q (.tup [V.str "text", V.str "any"])) d (.dK [])) (a := d) (o := .dK [((Sum.inr "text" : Key), V.str "="), (Sum.inr "any", .str "?")]))
      have e2 : valV [((Sum.inr "text" : Key), V.str "="), (Sum.inr "any", .str "?")] (Sum.inr "text") = some (.str "=") := by decide +kernel
      rw [e2] at dg
      refine ⟨d, _, rfl, dg, ?_⟩
      walk_at "rd"
      refine ⟨szl (by have := le_1w; omega), ?_⟩
      rw [← word_text]
      exact k _ s3
    · walk_at "rd"
      intro q hq
      have s2 := same_new (o := .tup [.str "text", .str "any"]) hq
      have hp2 := sqT_same s2 hp
      refine ⟨q, _, rfl, .inr (SqT.of upd_same), rfl, rfl, ?_⟩
      walk_at "rd"
      refine iteKY (by decide +kernel) ?_
      walk_at "rd"
      intro d hd
      refine ⟨upd_same, [((Sum.inr "text" : Key), V.str "="), (Sum.inr "any", .str "?")], rfl, by decide, ?_⟩
      have e1 : mergeK [] [((Sum.inr "text" : Key), V.str "="), (Sum.inr "any", .str "?")] = [((Sum.inr "text" : Key), V.str "="), (Sum.inr "any", .str "?")] := by decide +kernel
      rw [e1]
      have s3 : Same H (upd (upd (upd H q (.tup [V.str "text", V.str "any"])) d (.dK [])) d (.dK [((Sum.inr "text" : Key), V.str "="), (Sum.inr "any", .str "?")])) := by
        rw [upd_upd]
        exact s2.trans (same_new hd)
      have hp3 := sqT_same s3 hp
      walk_at "rd"
      have dg := DGet.k (k := (Sum.inr "any" : Key)) (upd_same (H := upd (upd H q (.tup [V.str "text", V.str "any"])) d (.dK [])) (a := d) (o := .dK [((Sum.inr "text" : Key), V.str "="), (Sum.inr "any", .str "?")]))
      have e2 : valV [((Sum.inr "text" : Key), V.str "="), (Sum.inr "any", .str "?")] (Sum.inr "any") = some (.str "?") := by decide +kernel
      rw [e2] at dg
      refine ⟨d, _, rfl, dg, ?_⟩
      walk_at "rd"
      have := choice_len h1
      have := hz.len
      refine ⟨szl (by have := le_1w; omega), ?_⟩
      rw [← word_any]
      exact k _ s3
    · rcases hkd with rfl | rfl
      · walk_at "rd"
        intro q hq
        have s2 := same_new (o := .tup [.str "text", .str "any"]) hq
        have hp2 := sqT_same s2 hp
        refine ⟨q, _, rfl, .inr (SqT.of upd_same), rfl, rfl, ?_⟩
        walk_at "rd"
        refine iteKN (by decide +kernel) ?_
        walk_at "rd"
        walk_at "ks"
        walk_at "rd"
        have ld := num_len d1 (by omega)
        have ln := num_len n1 n2
        refine ⟨_, _, 99, rfl, rfl, szl (by decide), by decide +kernel, ?_⟩
        walk_at "rd"
        refine ⟨num_log (by omega) (by omega), ?_⟩
        walk_at "rd"
        refine ⟨szl ?_, ?_⟩
        · show (1 : Nat) + (numS d).length ≤ _
          omega
        walk_at "rd"
        refine ⟨szl ?_, ?_⟩
        · have := le_1w
          rw [app_len]
          show 1 + (numS d).length + _ ≤ _
          omega
        walk_at "rd"
        refine ⟨num_log (by omega) (by omega), ?_⟩
        walk_at "rd"
        refine ⟨szl ?_, ?_⟩
        · have := le_1w
          rw [app_len, app_len]
          show 1 + (numS d).length + _ + (numS n).length ≤ _
          omega
        show Q (.str ("c" ++ numS d ++ "." ++ numS n)) _
        rw [← word_copy]
        exact k _ s2
      · walk_at "rd"
        intro q hq
        have s2 := same_new (o := .tup [.str "text", .str "any"]) hq
        have hp2 := sqT_same s2 hp
        refine ⟨q, _, rfl, .inr (SqT.of upd_same), rfl, rfl, ?_⟩
        walk_at "rd"
        refine iteKN (by decide +kernel) ?_
        walk_at "rd"
        walk_at "ks"
        walk_at "rd"
        have ld := num_len d1 (by omega)
        have ln := num_len n1 n2
        refine ⟨_, _, 115, rfl, rfl, szl (by decide), by decide +kernel, ?_⟩
        walk_at "rd"
        refine ⟨num_log (by omega) (by omega), ?_⟩
        walk_at "rd"
        refine ⟨szl ?_, ?_⟩
        · show (1 : Nat) + (numS d).length ≤ _
          omega
        walk_at "rd"
        refine ⟨szl ?_, ?_⟩
        · have := le_1w
          rw [app_len]
          show 1 + (numS d).length + _ ≤ _
          omega
        walk_at "rd"
        refine ⟨num_log (by omega) (by omega), ?_⟩
        walk_at "rd"
        refine ⟨szl ?_, ?_⟩
        · have := le_1w
          rw [app_len, app_len]
          show 1 + (numS d).length + _ + (numS n).length ≤ _
          omega
        show Q (.str ("s" ++ numS d ++ "." ++ numS n)) _
        rw [← word_say]
        exact k _ s2
def sp_law_show (K : PySem.W.Frag) : Sp := fun vs H Q _ => ∃ (l : Addr) (z : Str) (tvs : List V) (ts : List (List V)), vs = [.ref l] ∧ SqL K H l tvs ∧ Toks K H z tvs ts ∧ SignsOk z ∧ ts.length ≤ 200 ∧ ∀ H', Same H H' → Q (.str (Txt.join " " (ts.map wordT))) H'
theorem ok_law_show (T : Txt K mg) : FnOk P w K mg base CX0 2 T.f_law_show T.d_law_show ["_law_tokens"] (sp_law_show K) := by
  have nd := sc_law_show.nd
  refine T.F_law_show.ok sc_law_show (fun vs H Q E h => ?_) (fun cdv A outer s H vs Q E hr h => ?_)
  · obtain ⟨l, z, tvs, ts, rfl, _⟩ := h
    rfl
  · obtain ⟨l, z, tvs, ts, rfl, hl, htk, hz, hn, k⟩ := h
    refine ⟨_, (pss_one (ps_ret (pe_join pe_str (pe_lc (own := [("_law_token", 1)]) (g := gName 1) (by rfl) nd (pi_list (pv 0)) (blkOk_by (own := [("_law_token", 1)]) (N := N_law_show) (sc := defScope s_law_show) (by decide +kernel)) (fun _ _ _ _ _ => (pg_name (i := 1) nd rfl (Or.inl rfl))) (fun _ _ _ _ _ => pts_nil) (fun _ _ _ _ _ => (pe_call (ok_law_show_token T) (hr.mono (by decide)) (by rfl) T.m_law_show_token T.F_law_show_token.kp T.b_law_show_token .nil pass0 (pa_cons (pv 1) pa_nil))))))), ?_⟩
    walk_at "rd"
    refine ⟨⟨_, rfl⟩, ?_⟩
    walk_at "rd"
    refine ⟨⟨_, hl⟩, ?_⟩
    intro D hD
    refine lc_list (K := K) (a := l) (xs := tvs) (fun j H' => Same H H' ∧ H' D = some (.lst (((ts.take j).map wordT).map V.str))) ?_ ?_ ?_ ?_
    · exact ⟨same_new hD, upd_same⟩
    · exact fun _ _ _ p => p.1.seq hl
    · rintro j v H' hj ⟨s2, hD'⟩
      obtain ⟨tj, htj, hv⟩ := paired_get htk hj
      have hjl : j < ts.length := (List.getElem?_eq_some_iff.mp htj).1
      walk_at "rd"
      refine ⟨v, z, tj, rfl, hv.same s2, hz, fun H3 s3 => ?_⟩
      walk_at "rd"
      refine ⟨_, s3 _ _ hD', szl (by rw [List.length_map, List.length_map, List.length_take]; omega), fun x o e => (upd_ne (ne_of_none e hD)).trans (s3 _ _ (s2 _ _ e)), ?_⟩
      rw [List.take_add_one, htj, List.map_append, List.map_append]
      exact upd_same
    · rintro H' ⟨s2, hD'⟩
      rw [paired_len htk, List.take_length] at hD'
      walk_at "rd"
      refine ⟨" ", D, ts.map wordT, rfl, rfl, .inl (SqL.of hD'), ?_, k _ s2⟩
      exact words_sum hz htk.ok hn
def sp_law_signs : Sp := fun vs H Q _ => ∃ b c : Addr, vs = [.ref b] ∧ BagAt H b c ∧ ∀ (z : Str) (H' : Hp), KeepB b H H' → BagAt H' b c → z ∈ signs7 → Q (.str z) H'
theorem ok_law_signs (T : Txt K mg) : FnOk P w K mg base CX0 2 T.f_law_signs T.d_law_signs ["_law_bag_here"] sp_law_signs := by
  have nd := sc_law_signs.nd
  refine T.F_law_signs.ok sc_law_signs (fun vs H Q E h => ?_) (fun cdv A outer s H vs Q E hr h => ?_)
  · obtain ⟨b, c, rfl, _⟩ := h
    rfl
  · obtain ⟨b, c, rfl, hb, k⟩ := h
    refine ⟨_, (pss_one (ps_ret (pe_ix (ix_listK (K := K) rfl) (pe_lst (pa_cons pe_str (pa_cons pe_str (pa_cons pe_str (pa_cons pe_str (pa_cons pe_str (pa_cons pe_str (pa_cons pe_str pa_nil)))))))) (pe_call (ok_law_take T) (hr.mono (by decide)) (by rfl) T.m_law_take T.F_law_take.kp T.b_law_take .nil pass0 (pa_cons (pv 0) (pa_cons pe_int pa_nil))) (fun _ _ => rfl)))), ?_⟩
    walk_at "rd"
    intro p hp
    walk_at "rd"
    refine ⟨b, c, _, rfl, bag_upd hb hp, by decide, by decide, fun r H1 k1 b1 r0 r1 => ?_⟩
    obtain ⟨v, hv, ev⟩ := at_mem (xs := [V.str "ab", V.str "abc", V.str "xz", V.str "bdfhjl", V.str "mnoz", V.str "ay", V.str "cegkw"]) (r := r) r0 r1
    refine ⟨_, _, _, _, rfl, rfl, SqL.of (k1 _ _ (hb.neb hp) upd_same), ev, ?_⟩
    have ok : ∃ z, v = .str z ∧ z ∈ signs7 := by
      simp only [List.mem_cons, List.not_mem_nil, or_false] at hv
      rcases hv with rfl | rfl | rfl | rfl | rfl | rfl | rfl <;> exact ⟨_, rfl, by decide +kernel⟩
    obtain ⟨z, rfl, hz⟩ := ok
    exact k z H1 ((KeepB.new hp).trans k1) b1 hz
theorem cutV_drop {xs : List V} {n : Nat} : cutV xs (some (n : Int)) none = xs.drop n := by
  unfold cutV
  have e0 : HT.sIx xs.length xs.length none = xs.length := rfl
  have e1 : HT.sIx xs.length 0 (some (n : Int)) = min n xs.length := HT.sIx_nat _ _ _
  rw [e0, e1]
  by_cases h : n ≤ xs.length
  · rw [Nat.min_eq_left h, List.take_of_length_le (by rw [List.length_drop]; exact Nat.le_refl _)]
  · rw [Nat.min_eq_right (by omega), Nat.sub_self, List.take_zero, List.drop_eq_nil_of_le (by omega)]
def menu16 : List Str := ["a", "any", "b", "copy", "edge", "flush", "in", "new", "old", "out", "plan", "s", "say", "t", "text", "zzzzzzzz"]
def sp_law_words (K : PySem.W.Frag) : Sp := fun vs H Q _ => ∃ (b c : Addr) (m : Int), vs = [.ref b, .int m] ∧ BagAt H b c ∧ 0 ≤ m ∧ m ≤ 16 ∧
  ∀ (l : Addr) (ys : List Str) (H' : Hp), KeepB b H H' → BagAt H' b c → H l = none → l ≠ b → H' l = some (.lst (ys.map V.str)) → ys.length = m.toNat → (∃ r : Nat, r ≤ 16 ∧ ys = (menu16.drop r ++ menu16.take r).take m.toNat) → Q (.ref l) H'
theorem ok_law_words (T : Txt K mg) : FnOk P w K mg base CX0 2 T.f_law_words T.d_law_words ["_law_bag_here", "_law_many"] (sp_law_words K) := by
  have nd := sc_law_words.nd
  refine T.F_law_words.ok sc_law_words (fun vs H Q E h => ?_) (fun cdv A outer s H vs Q E hr h => ?_)
  · obtain ⟨b, c, m, rfl, _⟩ := h
    rfl
  · obtain ⟨b, c, m, rfl, hb, hm0, hm1, k⟩ := h
    refine ⟨_, (pss_cons (ps_set (i := 2) nd rfl (Or.inl rfl) (pe_split pe_str pe_str))
    (pss_cons (ps_set (i := 3) nd rfl (Or.inl rfl) (pe_call (ok_law_take T) (hr.mono (by decide)) (by rfl) T.m_law_take T.F_law_take.kp T.b_law_take .nil pass0 (pa_cons (pv 0) (pa_cons pe_int pa_nil))))
    (pss_one (ps_ret (pe_slice sl_list (pe_op op_cat (pe_slice sl_list (pv 2) (po_some (pv 3)) po_none) (pe_slice sl_list (pv 2) po_none (po_some (pv 3)))) po_none (po_some (pv 1))))))), ?_⟩
    have hsp : Txt.split "a any b copy edge flush in new old out plan s say t text zzzzzzzz" " " = menu16 := by decide +kernel
    walk_at "rd"
    refine ⟨⟨_, rfl⟩, ?_⟩
    refine ⟨_, _, rfl, rfl, rfl, szl (by decide +kernel), ?_⟩
    rw [hsp]
    intro M hM
    have bM := bag_upd hb hM (o := .lst (menu16.map V.str))
    have nM : M ≠ b := hb.neb hM
    have hM1 : (upd H M (.lst (menu16.map V.str))) M = some (.lst (menu16.map V.str)) := upd_same
    walk_at "rd"
    refine ⟨b, c, 16, rfl, bM, by decide, by decide, fun r H2 k2 b2 r0 r1 => ?_⟩
    obtain ⟨rr, hrr⟩ : ∃ n : Nat, (n : Int) = r := ⟨r.toNat, by omega⟩
    subst hrr
    have hM2 := k2 _ _ nM hM1
    walk_at "rd"
    refine ⟨M, _, rfl, SqL.of hM2, fun p hp => ?_⟩
    rw [cutV_drop]
    have s3 := same_new (o := .lst ((menu16.map V.str).drop rr)) hp
    walk_at "rd"
    refine ⟨M, _, rfl, SqL.of (s3 _ _ hM2), fun q hq => ?_⟩
    rw [cutV_take]
    have s4 := same_new (o := .lst ((menu16.map V.str).take rr)) hq
    have hp4 := s4 _ _ (upd_same (H := H2) (a := p) (o := HO.lst ((menu16.map V.str).drop rr)))
    walk_at "rd"
    refine ⟨p, q, _, _, rfl, rfl, hp4, upd_same, szl (by rw [List.length_drop, List.length_take, List.length_map]; show 16 - rr + min rr 16 ≤ _; omega), fun u hu => ?_⟩
    have s5 := same_new (o := .lst ((menu16.map V.str).drop rr ++ (menu16.map V.str).take rr)) hu
    walk_at "rd"
    obtain ⟨mm, hmm⟩ : ∃ n : Nat, (n : Int) = m := ⟨m.toNat, by omega⟩
    subst hmm
    refine ⟨u, _, rfl, SqL.of upd_same, fun l hl => ?_⟩
    rw [cutV_take]
    have s25 := (s3.trans s4).trans s5
    have s6 := same_new (o := .lst (((menu16.map V.str).drop rr ++ (menu16.map V.str).take rr).take mm)) hl
    have kk : KeepB b H _ := ((KeepB.of_same (same_new (o := .lst (menu16.map V.str)) hM)).trans k2).trans (KeepB.of_same s25)
    have nl : l ≠ b := (bag_same b2 s25).neb hl
    refine k l ((menu16.drop rr ++ menu16.take rr).take mm) _ (kk.trans (KeepB.of_same s6)) (bag_same b2 (s25.trans s6)) (kk.back hl nl) nl ?_ ?_ ⟨rr, by omega, rfl⟩
    · rw [← List.map_drop, ← List.map_take, ← List.map_append, ← List.map_take] at *
      exact upd_same
    · rw [List.length_take, List.length_append, List.length_drop, List.length_take]
      show min mm (16 - rr + min rr 16) = _
      omega
def sp_NoText_init (C : Addr) : Sp := fun vs H Q _ => ∃ (a : Addr) (x : V), vs = [.ref a, x] ∧ H a = some (exo a C none) ∧ ∀ d, H d = none → d ≠ a → Q .non (upd (upd H d (exd d [("at", x)])) a (exo a C (some d)))
theorem ok_NoText_init (T : Txt K mg) : FnOk P w K mg base CX0 1 T.f_NoText_init T.d_NoText_init ["self", "at"] (sp_NoText_init T.c_NoText) := by
  have nd := sc_NoText_init.nd
  refine T.F_NoText_init.ok sc_NoText_init (fun vs H Q E h => ?_) (fun cdv A outer s H vs Q E hr h => ?_)
  · obtain ⟨a, x, rfl, _⟩ := h
    rfl
  · obtain ⟨a, x, rfl, ha, k⟩ := h
    refine ⟨_, (pss_one (ps_ost (pv 0) (pv 1))), ?_⟩
    walk_at "rd"
    refine ⟨a, T.c_NoText, rfl, T.ox_NoText, T.nf_NoText_at, .inl ⟨ha, fun d hd ne => ?_⟩⟩
    exact k d hd ne
def sp_check_one_line : Sp := fun vs H Q _ => ∃ y : Str, vs = [.str y] ∧ 10 ∉ cl y ∧ y.length ≤ 1000000 ∧ Q .non H
theorem ok_check_one_line (T : Txt K mg) : FnOk P w K mg base (L2.CX P w) 3 T.f_check_one_line T.d_check_one_line ["text"] (sp_check_one_line ) := by
  have nd := sc_check_one_line.nd
  refine T.F_check_one_line.okX sc_check_one_line (fun vs H Q E h => ?_) (fun cdv A outer s H vs Q E hr h => ?_)
  · obtain ⟨y, rfl, _⟩ := h
    rfl
  · obtain ⟨y, rfl, h, hl, k⟩ := h
    refine ⟨_, (pss_one (ps_if (pt_cmpR op_in_sign pe_str (pv 0) (by rfl)) (pss_one (ps_raise rfl (takes_of rfl rfl rfl rfl) (pmk_oex T.ox_NoText T.oi_NoText T.ot_NoText (ok_NoText_init T) (hr.mono (by decide)) T.b_NoText_init .nil pass0 (by rfl) T.m_NoText (pa_cons pe_int pa_nil)))) pss_nil)), ?_⟩
    walk_at "rd"
    refine iteKN (decide_eq_false h) ?_
    walk_at "rd"
    exact k
def sp_check_string (K : PySem.W.Frag) : Sp := fun vs H Q _ => ∃ y : Str, vs = [.str y] ∧ Q .non H
theorem ok_check_string (T : Txt K mg) : FnOk P w K mg base (L2.CX P w) 3 T.f_check_string T.d_check_string ["thing"] (sp_check_string K) := by
  have nd := sc_check_string.nd
  refine T.F_check_string.okX sc_check_string (fun vs H Q E h => ?_) (fun cdv A outer s H vs Q E hr h => ?_)
  · obtain ⟨y, rfl, _⟩ := h
    rfl
  · obtain ⟨y, rfl, k⟩ := h
    refine ⟨_, (pss_one (ps_if (pt_not (pt_val (pe_callB (id := "isinstance") (call_isiK' (K := K) rfl) (by rfl) T.n_isinstance (by decide +kernel) (pa_cons (pv 0) (pa_cons (pe_bltn (v := .ty "str") (by rfl) T.n_str (by decide +kernel) rfl) pa_nil))))) (pss_one (ps_raise rfl (takes_of rfl rfl rfl rfl) (pmk_oex T.ox_NoText T.oi_NoText T.ot_NoText (ok_NoText_init T) (hr.mono (by decide)) T.b_NoText_init .nil pass0 (by rfl) T.m_NoText (pa_cons pe_int pa_nil)))) pss_nil)), ?_⟩
    walk_at "rd"
    refine ⟨_, _, _, _, _, rfl, .ty _, (Ty7.str (H := H)).1, kit7 (n := "str") (by decide) (.inl rfl), ?_⟩
    walk_at "rd"
    refine iteKN rfl ?_
    walk_at "rd"
    exact k
theorem join_mem {s : Nat} {c : Nat} : ∀ {ws : List Str}, c ∈ cl (Str.join (chS s) ws) → c = s ∨ ∃ w ∈ ws, c ∈ cl w
  | [], h => by cases h
  | [x], h => .inr ⟨x, List.mem_cons_self, h⟩
  | x :: y :: r, h => by
    rw [join_cons2, cl_app, cl_app] at h
    rcases List.mem_append.mp h with q | q
    · rcases List.mem_append.mp q with q | q
      · exact .inr ⟨x, List.mem_cons_self, q⟩
      · exact .inl (List.mem_singleton.mp q)
    · rcases join_mem q with e | ⟨w, hw, hc⟩
      · exact .inl e
      · exact .inr ⟨w, List.mem_cons_of_mem _ hw, hc⟩
def sp_only_line (K : PySem.W.Frag) : Sp := fun vs H Q _ => ∃ (ws : List Str), vs = [.str (Txt.join " " ws)] ∧ ws ≠ [] ∧ (∀ w ∈ ws, 32 ∉ cl w ∧ 10 ∉ cl w) ∧ (Txt.join " " ws).length ≤ 100000 ∧ ∀ (l : Addr) (H' : Hp), Same H H' → H l = none → H' l = some (.lst (ws.map V.str)) → Q (.ref l) H'
theorem ok_only_line (T : Txt K mg) : FnOk P w K mg base (L2.CX P w) 4 T.f_only_line T.d_only_line ["text"] (sp_only_line K) := by
  have nd := sc_only_line.nd
  refine T.F_only_line.okX sc_only_line (fun vs H Q E h => ?_) (fun cdv A outer s H vs Q E hr h => ?_)
  · obtain ⟨ws, rfl, _⟩ := h
    rfl
  · obtain ⟨ws, rfl, hne, hw, hl, k⟩ := h
    refine ⟨_, (pss_cons (ps_expr (pe_call (ok_check_string T) (hr.mono (by decide)) (by rfl) T.m_check_string T.F_check_string.kp T.b_check_string .nil (passes_call (takes_of rfl rfl rfl rfl) (fun _ _ _ _ h => h)) (pa_cons (pv 0) pa_nil)))
    (pss_one (ps_ret (pe_split (pe_ix (ix_listK (K := K) rfl) (pe_split (pv 0) pe_str) pe_int (fun _ _ => rfl)) pe_str)))), ?_⟩
    walk_at "rd"
    have hfree : 10 ∉ cl (Txt.join " " ws) := by
      intro hm
      rw [show Txt.join " " ws = Str.join (chS 32) ws from StrLaws.glued_eq_join _ _] at hm
      rcases join_mem hm with e | ⟨w, hw', hc⟩
      · cases e
      · exact (hw w hw').2 hc
    refine ⟨⟨_, rfl⟩, ?_⟩
    walk_at "rd"
    have e1 : Txt.split (Txt.join " " ws) "\n" = [Txt.join " " ws] := split_join (c := 10) (ws := [Txt.join " " ws]) (List.cons_ne_nil _ _) (List.forall_mem_cons.mpr ⟨hfree, fun _ h => nomatch h⟩)
    have e2 : Txt.split (Txt.join " " ws) " " = ws := split_join (c := 32) hne fun w h => (hw w h).1
    rw [e1]
    intro p hp
    walk_at "rd"
    refine ⟨⟨_, rfl⟩, ?_⟩
    walk_at "rd"
    rw [e2]
    intro l hl'
    have s1 := same_new (o := .lst ([Txt.join " " ws].map V.str)) hp
    exact k l _ (s1.trans (same_new hl')) (s1.free hl') upd_same
theorem clen0 (x : Str) : x.length = (cl x).length := rfl
def sp_word_number : Sp := fun vs H Q _ => ∃ i : Int, vs = [.str (numS i)] ∧ 1 ≤ i ∧ i ≤ 40 ∧ ∀ H', Same H H' → Q (.int i) H'
theorem ok_word_number (T : Txt K mg) : FnOk P w K mg base CX0 1 T.f_word_number T.d_word_number ["word"] (sp_word_number ) := by
  have nd := sc_word_number.nd
  refine T.F_word_number.ok sc_word_number (fun vs H Q E h => ?_) (fun cdv A outer s H vs Q E hr h => ?_)
  · obtain ⟨i, rfl, _⟩ := h
    rfl
  · obtain ⟨i, rfl, h1, h2, k⟩ := h
    refine ⟨_, (pss_cons (ps_if (PW.pt (pw_or (pt_not (pt_chain op_le op_le pe_int (pe_callB (id := "len") (call_lenK (K := K) rfl) (by rfl) T.n_len (by decide +kernel) (pa_cons (pv 0) pa_nil)) (pe_glob (v := .int 3) (by rfl) T.m_MOST_DIGITS ⟨_, rfl⟩))) (pw_or1 (pt_not (pt_val (pe_callB (id := "all") (cr_all rfl) (by rfl) T.n_all (by decide +kernel) (pa_cons (pe_lc (own := [("digit", 1)]) (g := gName 1) (by rfl) nd (pi_str (pv 0)) (blkOk_by (own := [("digit", 1)]) (N := N_word_number) (sc := defScope s_word_number) (by decide +kernel)) (fun _ _ _ _ _ => (pg_name (i := 1) nd rfl (Or.inl rfl))) (fun _ _ _ _ _ => pts_nil) (fun _ _ _ _ _ => (pe_chain op_le_str op_le_str pe_str (pv 1) pe_str))) pa_nil))))))) (pss_one (ps_ret pe_non)) pss_nil)
    (pss_one (ps_ret (pe_ifExp (PW.pt (pw_and (pt_cmpR op_gt (pe_callB (id := "len") (call_lenK (K := K) rfl) (by rfl) T.n_len (by decide +kernel) (pa_cons (pv 0) pa_nil)) pe_int (nomark _)) (pw_and1 (pt_cmpR op_eq (pe_ix ix_str (pv 0) pe_int (fun _ _ => rfl)) pe_str (nomark _))))) pe_non (pe_callTy (T := "int") call_int_str (by rfl) T.n_int (by decide +kernel) (pa_cons (pv 0) pa_nil)))))), ?_⟩
    have ok := numOk h1 h2
    obtain ⟨o1, o2, o3, o4, o5⟩ := ok
    walk_at "rd"
    rw [decide_eq_true (by omega)]
    walk_at "rd"
    rw [decide_eq_true (show ((numS i).length : Int) ≤ 3 by omega)]
    refine iteKN rfl ?_
    walk_at "rd"
    intro D hD
    refine lc_it walk_str (Acc (cl (numS i)) (fun _ => .bl true) H D) (Acc.start _ _ _ _) (fun _ _ _ _ => trivial) ?_ ?_
    · rintro j _ H2 _ hj ka ⟨rfl, c, hc, rfl⟩
      have hdg := o3 c (List.mem_of_getElem? (cl_get hc))
      walk_at "rd"
      refine iteKY (show (!decide (([c] : List Nat) < [48])) = true by rw [one_lt, decide_eq_false (by omega)]; rfl) ?_
      walk_at "rd"
      refine ka.step0 (cl_get hc) (by rw [← clen0]; omega) ?_
      show V.bl (!decide (([57] : List Nat) < [c])) = _
      rw [one_lt, decide_eq_false (by omega)]
      rfl
    · intro H2 ka
      have hD2 := Acc.all ka
      walk_at "rd"
      refine ⟨D, (cl (numS i)).map fun _ => true, rfl, SqL.of (by rw [List.map_map]; exact hD2), ?_⟩
      rw [show ((cl (numS i)).map fun _ => true).all id = true by rw [List.all_map]; exact List.all_eq_true.mpr fun _ _ => rfl]
      walk_at "rd"
      refine iteKN rfl ?_
      have s2 := ka.same hD
      obtain ⟨c0, r, hcl⟩ : ∃ c0 r, cl (numS i) = c0 :: r := by
        cases h : cl (numS i) with
        | nil => rw [clen0, h] at o1; simp at o1
        | cons c0 r => exact ⟨c0, r, rfl⟩
      have hat : atI (numS i).cps.toList 0 = some c0 := by
        show atI (cl (numS i)) 0 = _
        rw [hcl]
        unfold atI ixN
        rw [if_pos (by omega), if_pos (by simp only [List.length_cons]; omega)]
        rfl
      have h48 : c0 ≠ 48 := by
        rw [hcl] at o5
        exact o5
      walk_at "rd"
      refine iteD (fun hl => ?_) (fun hl => ?_)
      · walk_at "rd"
        refine ⟨_, _, c0, rfl, rfl, szl (by omega), hat, ?_⟩
        walk_at "rd"
        refine iteStN (fun e => h48 ?_) ?_
        · have := congrArg cl e
          have : [c0] = [48] := this
          exact (List.cons.inj this).1
        walk_at "rd"
        exact ⟨_, _, rfl, o4, by omega, k _ s2⟩
      · walk_at "rd"
        exact ⟨_, _, rfl, o4, by omega, k _ s2⟩
theorem beg_text {y : Str} : begT [.str "text", .str y] = "=" := by
  show (if ("text" : Str) = "text" then ("=" : Str) else "?") = _
  rw [if_pos rfl]
theorem beg_any {y : Str} : begT [.str "any", .str y] = "?" := by
  show (if ("any" : Str) = "text" then ("=" : Str) else "?") = _
  rw [if_neg (show ¬ ("any" : Str) = "text" by decide +kernel)]
theorem beg_copy {d n : Int} : begT [.str "copy", .int d, .int n] = "c" := by
  show (if ("copy" : Str) = "copy" then ("c" : Str) else "s") = _
  rw [if_pos rfl]
theorem beg_say {d n : Int} : begT [.str "say", .int d, .int n] = "s" := by
  show (if ("say" : Str) = "copy" then ("c" : Str) else "s") = _
  rw [if_neg (show ¬ ("say" : Str) = "copy" by decide +kernel)]
theorem nums_split {d n : Int} (h1 : 1 ≤ d) (h2 : d ≤ 40) (h3 : 1 ≤ n) (h4 : n ≤ 40) : Txt.split (numS d ++ "." ++ numS n) "." = [numS d, numS n] :=
  split_join (c := 46) (ws := [numS d, numS n]) (List.cons_ne_nil _ _) (List.forall_mem_cons.mpr ⟨cl_num h1 h2 (by omega), List.forall_mem_cons.mpr ⟨cl_num h3 h4 (by omega), fun _ h => nomatch h⟩⟩)
def sp_any_token (K : PySem.W.Frag) : Sp := fun vs H Q _ => ∃ (z : Str) (t : List V), vs = [.str (begT t), .str (restT t)] ∧ tokV z t = true ∧ ∀ (v : V) (H' : Hp), Same H H' → TupAt K H' v t → Q v H'
theorem ok_any_token (T : Txt K mg) : FnOk P w K mg base CX0 2 T.f_any_token T.d_any_token ["begin", "told"] (sp_any_token K) := by
  have nd := sc_any_token.nd
  refine T.F_any_token.ok sc_any_token (fun vs H Q E h => ?_) (fun cdv A outer s H vs Q E hr h => ?_)
  · obtain ⟨z, t, rfl, _⟩ := h
    rfl
  · obtain ⟨z, t, rfl, hok, k⟩ := h
    refine ⟨_, (pss_cons (ps_if (pt_cmpR op_eq (pv 0) pe_str (nomark _)) (pss_one (ps_ret (pe_tup (pa_cons pe_str (pa_cons (pv 1) pa_nil))))) pss_nil)
    (pss_cons (ps_if (pt_cmpR op_eq (pv 0) pe_str (nomark _)) (pss_one (ps_ret (pe_tup (pa_cons pe_str (pa_cons (pv 1) pa_nil))))) pss_nil)
    (pss_cons (ps_if (PW.pt (pw_and (pt_cmpR op_eq (pv 0) pe_str (nomark _)) (pw_and1 (pt_cmpR op_eq (pv 1) pe_str (nomark _))))) (pss_one (ps_ret (pe_tup (pa_cons pe_str pa_nil)))) pss_nil)
    (pss_cons (ps_setLc (i := 2) (own := [("word", 3)]) (g := gName 3) (by rfl) nd rfl rfl (sw_true rfl rfl rfl (by decide +kernel)) (pi_list (pe_split (pv 1) pe_str)) (blkOk_by (own := [("word", 3)]) (N := N_any_token) (sc := defScope s_any_token) (by decide +kernel)) (fun _ _ _ _ _ => (pg_name (i := 3) nd rfl (Or.inl rfl))) (fun _ _ _ _ _ => pts_nil) (fun _ _ _ _ _ => (pe_call (ok_word_number T) (hr.mono (by decide)) (by rfl) T.m_word_number T.F_word_number.kp T.b_word_number .nil pass0 (pa_cons (pv 3) pa_nil))))
    (pss_cons (ps_if (PW.pt (pw_or (pt_cmpR (op_notIn_seqK (K := K) rfl) (pv 0) (pe_tup (pa_cons pe_str (pa_cons pe_str pa_nil))) (by rfl)) (pw_or1 (pt_cmpR op_ne (pe_callB (id := "len") (call_lenK (K := K) rfl) (by rfl) T.n_len (by decide +kernel) (pa_cons (pv 2) pa_nil)) pe_int (nomark _))))) (pss_one (ps_ret pe_non)) pss_nil)
    (pss_one (ps_ret (pe_tup (pa_cons (pe_ifExp (pt_cmpR op_eq (pv 0) pe_str (nomark _)) pe_str pe_str) (pa_cons (pe_ix (ix_listK (K := K) rfl) (pv 2) pe_int (fun _ _ => rfl)) (pa_cons (pe_ix (ix_listK (K := K) rfl) (pv 2) pe_int (fun _ _ => rfl)) pa_nil))))))))))), ?_⟩
    obtain ⟨kd, rest, rfl, hk⟩ := tok_inv hok
    rcases hk with ⟨rfl, rfl⟩ | ⟨y, rfl, rfl, h1, h2, h3⟩ | ⟨y, rfl, rfl, h1⟩ | ⟨d, n, hkd, rfl, d1, d2, n1, n2⟩
    · rw [show begT [.str "flush"] = "!" from rfl, show restT [.str "flush"] = ("" : Str) from rfl]
      walk_at "rd"
      walk_at "ks"
      walk_at "rd"
      walk_at "ks"
      walk_at "rd"
      walk_at "ks"
      walk_at "rd"
      walk_at "ks"
      walk_at "rd"
      intro p hp
      exact k _ _ (same_new hp) TupAt.new
    · rw [beg_text, show restT [.str "text", .str y] = y from rfl]
      walk_at "rd"
      walk_at "ks"
      walk_at "rd"
      intro p hp
      exact k _ _ (same_new hp) TupAt.new
    · rw [beg_any, show restT [.str "any", .str y] = y from rfl]
      walk_at "rd"
      walk_at "ks"
      walk_at "rd"
      walk_at "ks"
      walk_at "rd"
      intro p hp
      exact k _ _ (same_new hp) TupAt.new
    · rcases hkd with rfl | rfl
      · rw [beg_copy, show restT [.str "copy", .int d, .int n] = numS d ++ "." ++ numS n from rfl]
        walk_at "rd"
        walk_at "ks"
        walk_at "rd"
        walk_at "ks"
        walk_at "rd"
        walk_at "ks"
        walk_at "rd"
        refine ⟨⟨_, rfl⟩, ?_⟩
        walk_at "rd"
        rw [nums_split d1 (by omega) n1 n2]
        have ld := num_len d1 (by omega)
        have ln := num_len n1 n2
        have l1 : ("." : Str).length = 1 := rfl
        refine ⟨szl (by rw [app_len, app_len]; omega), ?_⟩
        intro L hL
        have sL := same_new (o := .lst [.str (numS d), .str (numS n)]) hL
        have hL1 : (upd H L (.lst [.str (numS d), .str (numS n)])) L = some (.lst [.str (numS d), .str (numS n)]) := upd_same
        have hnum : ∀ (j : Nat) (v : V), [V.str (numS d), V.str (numS n)][j]? = some v → ∃ i : Int, v = .str (numS i) ∧ 1 ≤ i ∧ i ≤ 40 ∧ ([V.int d, V.int n])[j]? = some (.int i) := fun j v hj => by
          rcases j with _ | _ | j
          · cases hj; exact ⟨d, rfl, d1, by omega, rfl⟩
          · cases hj; exact ⟨n, rfl, n1, n2, rfl⟩
          · cases hj
        walk_at "rd"
        refine ⟨⟨_, SqL.of hL1⟩, ?_⟩
        intro D hD
        refine lc_list (K := K) (a := L) (xs := [.str (numS d), .str (numS n)]) (fun j H' => Same (upd H L (.lst [.str (numS d), .str (numS n)])) H' ∧ H' D = some (.lst ([V.int d, V.int n].take j))) ?_ ?_ ?_ ?_
        · exact ⟨same_new hD, upd_same⟩
        · exact fun _ _ _ p => SqL.of (p.1 _ _ hL1)
        · rintro j v H' hj ⟨s2, hD'⟩
          obtain ⟨i, rfl, i1, i2, hi⟩ := hnum j v hj
          walk_at "rd"
          intro H3 s3
          walk_at "rd"
          refine ⟨_, s3 _ _ hD', szl (by rw [List.length_take]; show (min j 2).succ ≤ 1000000; omega), fun x o e => (upd_ne (ne_of_none e hD)).trans (s3 _ _ (s2 _ _ e)), ?_⟩
          rw [List.take_add_one, hi]
          exact upd_same
        · rintro H' ⟨s2, hD'⟩
          have hD' : H' D = some (.lst [.int d, .int n]) := hD'
          walk_at "rd"
          intro q hq
          have s3 := same_new (o := .tup [.str "c", .str "s"]) hq
          refine ⟨q, _, rfl, .inr (SqT.of upd_same), rfl, rfl, ?_⟩
          walk_at "rd"
          refine iteKN (by decide +kernel) ?_
          walk_at "rd"
          refine iteNeF ?_
          have hD3 := s3 _ _ hD'
          walk_at "rd"
          walk_at "ks"
          walk_at "rd"
          intro q2 hq2
          exact k _ _ (((sL.trans s2).trans s3).trans (same_new hq2)) TupAt.new
      · rw [beg_say, show restT [.str "say", .int d, .int n] = numS d ++ "." ++ numS n from rfl]
        walk_at "rd"
        walk_at "ks"
        walk_at "rd"
        walk_at "ks"
        walk_at "rd"
        walk_at "ks"
        walk_at "rd"
        refine ⟨⟨_, rfl⟩, ?_⟩
        walk_at "rd"
        rw [nums_split d1 (by omega) n1 n2]
        have ld := num_len d1 (by omega)
        have ln := num_len n1 n2
        have l1 : ("." : Str).length = 1 := rfl
        refine ⟨szl (by rw [app_len, app_len]; omega), ?_⟩
        intro L hL
        have sL := same_new (o := .lst [.str (numS d), .str (numS n)]) hL
        have hL1 : (upd H L (.lst [.str (numS d), .str (numS n)])) L = some (.lst [.str (numS d), .str (numS n)]) := upd_same
        have hnum : ∀ (j : Nat) (v : V), [V.str (numS d), V.str (numS n)][j]? = some v → ∃ i : Int, v = .str (numS i) ∧ 1 ≤ i ∧ i ≤ 40 ∧ ([V.int d, V.int n])[j]? = some (.int i) := fun j v hj => by
          rcases j with _ | _ | j
          · cases hj; exact ⟨d, rfl, d1, by omega, rfl⟩
          · cases hj; exact ⟨n, rfl, n1, n2, rfl⟩
          · cases hj
        walk_at "rd"
        refine ⟨⟨_, SqL.of hL1⟩, ?_⟩
        intro D hD
        refine lc_list (K := K) (a := L) (xs := [.str (numS d), .str (numS n)]) (fun j H' => Same (upd H L (.lst [.str (numS d), .str (numS n)])) H' ∧ H' D = some (.lst ([V.int d, V.int n].take j))) ?_ ?_ ?_ ?_
        · exact ⟨same_new hD, upd_same⟩
        · exact fun _ _ _ p => SqL.of (p.1 _ _ hL1)
        · rintro j v H' hj ⟨s2, hD'⟩
          obtain ⟨i, rfl, i1, i2, hi⟩ := hnum j v hj
          walk_at "rd"
          intro H3 s3
          walk_at "rd"
          refine ⟨_, s3 _ _ hD', szl (by rw [List.length_take]; show (min j 2).succ ≤ 1000000; omega), fun x o e => (upd_ne (ne_of_none e hD)).trans (s3 _ _ (s2 _ _ e)), ?_⟩
          rw [List.take_add_one, hi]
          exact upd_same
        · rintro H' ⟨s2, hD'⟩
          have hD' : H' D = some (.lst [.int d, .int n]) := hD'
          walk_at "rd"
          intro q hq
          have s3 := same_new (o := .tup [.str "c", .str "s"]) hq
          refine ⟨q, _, rfl, .inr (SqT.of upd_same), rfl, rfl, ?_⟩
          walk_at "rd"
          refine iteKN (by decide +kernel) ?_
          walk_at "rd"
          refine iteNeF ?_
          have hD3 := s3 _ _ hD'
          walk_at "rd"
          walk_at "ks"
          walk_at "rd"
          intro q2 hq2
          exact k _ _ (((sL.trans s2).trans s3).trans (same_new hq2)) TupAt.new
def sp_word_token (K : PySem.W.Frag) : Sp := fun vs H Q _ => ∃ (z : Str) (t : List V), vs = [.str z, .str (wordT t)] ∧ SignsOk z ∧ tokV z t = true ∧ ∀ (v : V) (H' : Hp), Same H H' → TokAt K H' z v t → Q v H'
theorem ok_word_token (T : Txt K mg) : FnOk P w K mg base CX0 5 T.f_word_token T.d_word_token ["signs", "word"] (sp_word_token K) := by
  have nd := sc_word_token.nd
  refine T.F_word_token.ok sc_word_token (fun vs H Q E h => ?_) (fun cdv A outer s H vs Q E hr h => ?_)
  · obtain ⟨z, t, rfl, _⟩ := h
    rfl
  · obtain ⟨z, t, rfl, hz, hok, k⟩ := h
    refine ⟨_, (pss_cons (ps_set (i := 2) nd rfl (Or.inl rfl) (pe_call (ok_any_token T) (hr.mono (by decide)) (by rfl) T.m_any_token T.F_any_token.kp T.b_any_token .nil pass0 (pa_cons (pe_slice sl_str (pv 1) po_none (po_some pe_int)) (pa_cons (pe_slice sl_str (pv 1) (po_some pe_int) po_none) pa_nil))))
    (pss_one (ps_ret (pe_ifExp (pt_val (pe_call (ok_is_token T) (hr.mono (by decide)) (by rfl) T.m_is_token T.F_is_token.kp T.b_is_token .nil pass0 (pa_cons (pv 0) (pa_cons (pv 2) pa_nil)))) (pv 2) pe_non)))), ?_⟩
    have hzl := hz.len
    have wl := word_len hz hok
    obtain ⟨e, c, hc⟩ := word_two hok
    obtain ⟨c1, c2⟩ := cut_beg (y := restT t) hc
    rw [e] at wl ⊢
    walk_at "rd"
    rw [c1, c2]
    walk_at "rd"
    refine ⟨z, t, rfl, hok, fun v H1 s1 hv => ?_⟩
    obtain ⟨p, rfl, hp⟩ := hv
    walk_at "rd"
    refine ⟨z, p, t, rfl, hp, hok, by omega, fun H2 s2 => ?_⟩
    walk_at "rd"
    exact k _ _ (s1.trans s2) ⟨⟨p, rfl, sqT_same s2 hp⟩, hok⟩
def sp_words_piece (K : PySem.W.Frag) (C : Addr) : Sp := fun vs H Q _ => ∃ (z : Str) (l : Addr) (ts : List (List V)), vs = [.str z, .ref l] ∧ H l = some (.lst ((ts.map wordT).map V.str)) ∧ SignsOk z ∧ (∀ t ∈ ts, tokV z t = true) ∧ ts.length ≤ 200 ∧ 1 ≤ tsize ts ∧ tsize ts ≤ 40 ∧ ∀ (a : Addr) (H' : Hp), Same H H' → PieceAt K C H' a z ts → Q (.ref a) H'
theorem ok_words_piece (T : Txt K mg) : FnOk P w K mg base CX0 8 T.f_words_piece T.d_words_piece ["signs", "words"] (sp_words_piece K T.c_Piece) := by
  have nd := sc_words_piece.nd
  refine T.F_words_piece.ok sc_words_piece (fun vs H Q E h => ?_) (fun cdv A outer s H vs Q E hr h => ?_)
  · obtain ⟨z, l, ts, rfl, _⟩ := h
    rfl
  · obtain ⟨z, l, ts, rfl, hl, hz, hok, hn, h1, h2, k⟩ := h
    refine ⟨_, (pss_cons (ps_setLc (i := 2) (own := [("word", 3)]) (g := gName 3) (by rfl) nd rfl rfl (sw_true rfl rfl rfl (by decide +kernel)) (pi_list (pv 1)) (blkOk_by (own := [("word", 3)]) (N := N_words_piece) (sc := defScope s_words_piece) (by decide +kernel)) (fun _ _ _ _ _ => (pg_name (i := 3) nd rfl (Or.inl rfl))) (fun _ _ _ _ _ => pts_nil) (fun _ _ _ _ _ => (pe_call (ok_word_token T) (hr.mono (by decide)) (by rfl) T.m_word_token T.F_word_token.kp T.b_word_token .nil pass0 (pa_cons (pv 0) (pa_cons (pv 3) pa_nil)))))
    (pss_cons (ps_if (pt_not (pt_val (pe_callB (id := "all") (cr_all rfl) (by rfl) T.n_all (by decide +kernel) (pa_cons (pe_lc (own := [("token", 4)]) (g := gName 4) (by rfl) nd (pi_list (pv 2)) (blkOk_by (own := [("token", 4)]) (N := N_words_piece) (sc := defScope s_words_piece) (by decide +kernel)) (fun _ _ _ _ _ => (pg_name (i := 4) nd rfl (Or.inl rfl))) (fun _ _ _ _ _ => pts_nil) (fun _ _ _ _ _ => (pe_cmpR op_notN (pv 4) pe_non (nomark _)))) pa_nil)))) (pss_one (ps_ret pe_non)) pss_nil)
    (pss_one (ps_ret (pe_ifExp (pt_chain op_le op_le pe_int (pe_callB (id := "sum") (cr_sum rfl) (by rfl) T.n_sum (by decide +kernel) (pa_cons (pe_lc (own := [("token", 4)]) (g := gName 4) (by rfl) nd (pi_list (pv 2)) (blkOk_by (own := [("token", 4)]) (N := N_words_piece) (sc := defScope s_words_piece) (by decide +kernel)) (fun _ _ _ _ _ => (pg_name (i := 4) nd rfl (Or.inl rfl))) (fun _ _ _ _ _ => pts_nil) (fun _ _ _ _ _ => (pe_call (ok_size T) (hr.mono (by decide)) (by rfl) T.m_size T.F_size.kp T.b_size .nil pass0 (pa_cons (pv 4) pa_nil)))) pa_nil)) (ClX.pe_cval (pe_glob (v := .ref T.c_Piece) (by rfl) T.m_Piece rfl))) (pe_make T.mk_Piece (ok_Piece_init T) (hr.mono (by decide)) (by rfl) T.m_Piece T.b_Piece_init .nil pass0 (pa_cons (pv 0) (pa_cons (pv 2) pa_nil))) pe_non))))), ?_⟩
    walk_at "rd"
    refine ⟨⟨_, SqL.of hl⟩, ?_⟩
    intro D hD
    refine lc_list (K := K) (a := l) (xs := (ts.map wordT).map V.str) (fun j H' => Same H H' ∧ ∃ tvs, H' D = some (.lst tvs) ∧ Toks K H' z tvs (ts.take j)) ?_ ?_ ?_ ?_
    · exact ⟨same_new hD, [], upd_same, .nil⟩
    · exact fun _ _ _ p => SqL.of (p.1 _ _ hl)
    · rintro j v H' hj ⟨s2, tvs, hD', htk⟩
      rw [List.getElem?_map, List.getElem?_map] at hj
      obtain ⟨t, ht, rfl⟩ : ∃ t, ts[j]? = some t ∧ V.str (wordT t) = v := by
        cases h : ts[j]? with
        | none => rw [h] at hj; cases hj
        | some t => rw [h] at hj; exact ⟨t, rfl, Option.some.inj hj⟩
      have htl := paired_len htk
      rw [List.length_take] at htl
      walk_at "rd"
      refine ⟨z, t, rfl, hz, hok t (List.mem_of_getElem? ht), fun v' H3 s3 hv => ?_⟩
      walk_at "rd"
      have hD3 := s3 _ _ hD'
      refine ⟨tvs, hD3, szl (by omega), fun x o e => (upd_ne (ne_of_none e hD)).trans (s3 _ _ (s2 _ _ e)), tvs ++ [v'], upd_same, ?_⟩
      rw [List.take_add_one, ht]
      exact Toks.put hD3 (paired_app (htk.same s3) (paired_one hv))
    · rintro H' ⟨s2, tvs, hD', htk⟩
      rw [List.length_map, List.length_map, List.take_length] at htk
      have hlen := paired_len htk
      walk_at "rd"
      refine ⟨⟨_, SqL.of hD'⟩, ?_⟩
      intro D2 hD2
      refine lc_list (K := K) (a := D) (xs := tvs) (Acc ts (fun _ => .bl true) H' D2) (Acc.start _ _ _ _) (fun i H2 _ ka => SqL.of ((ka.same hD2) _ _ hD')) ?_ ?_
      · intro i v H2 hv ka
        obtain ⟨t, ht, ⟨⟨a, rfl, ha⟩, hok'⟩⟩ := paired_get htk hv
        walk_at "rd"
        exact ka.step0 ht (by omega) rfl
      · rw [hlen]
        intro H2 ka
        refine ⟨_, ts.map (fun _ => true), rfl, SqL.of (by rw [List.map_map]; exact Acc.all ka), ?_⟩
        rw [show (ts.map fun _ => true).all id = true by simp]
        have s3 := ka.same hD2
        have hD3 := s3 _ _ hD'
        have htk3 := htk.same s3
        walk_at "rd"
        refine iteKN rfl ?_
        walk_at "rd"
        refine ⟨⟨_, SqL.of hD3⟩, ?_⟩
        intro D3 hDn
        refine lc_list (K := K) (a := D) (xs := tvs) (Acc ts (fun t => .int (sizeV t)) H2 D3) (Acc.start _ _ _ _) (fun i H3 _ ka2 => SqL.of ((ka2.same hDn) _ _ hD3)) ?_ ?_
        · intro i v H3 hv ka2
          obtain ⟨t, ht, ⟨⟨a, rfl, ha⟩, hok'⟩⟩ := paired_get htk3 hv
          walk_at "rd"
          refine ⟨a, t, z, rfl, sqT_same (ka2.same hDn) ha, hok', ?_⟩
          exact ka2.step0 ht (by omega) rfl
        · rw [hlen]
          intro H3 ka2
          have s4 := ka2.same hDn
          refine ⟨_, ts.map sizeV, rfl, SqL.of (by rw [List.map_map]; exact Acc.all ka2), ?_⟩
          walk_at "rd"
          refine iteDY (show (1 : Int) ≤ (ts.map sizeV).sum from h1) ?_
          walk_at "rd"
          refine ⟨_, _, _, _, rfl, T.cr_Piece, T.cv_Piece_MOST, ?_⟩
          walk_at "rd"
          refine iteDY (show (ts.map sizeV).sum ≤ 40 from h2) ?_
          walk_at "rd"
          intro pa dx hpa hdx hne
          have s5 := same_make (C := T.c_Piece) hpa hdx hne
          refine ⟨pa, dx, D, z, tvs, ts, rfl, upd_same, hz, SqL.of (s5 _ _ (s4 _ _ hD3)), (htk3.same s4).same s5, by omega, h1, h2, fun H6 k6 pat _ => ?_⟩
          exact ⟨rfl, k pa H6 (((s2.trans s3).trans s4).trans (same_keepB hpa ((KeepB.of_same s5).trans k6))) pat⟩
theorem words_sum2 {z : Str} {ts : List (List V)} (hz : SignsOk z) (h : ∀ t ∈ ts, tokV z t = true) : ((ts.map wordT).map (·.length)).sum ≤ ts.length * 50 := by
  induction ts with
  | nil => simp
  | cons t ts ih =>
    have h1 := word_len hz (h t List.mem_cons_self)
    have h2 := ih fun u hu' => h u (List.mem_cons_of_mem _ hu')
    simp only [List.map_cons, List.sum_cons, List.length_cons]
    omega
def sp_read_piece (K : PySem.W.Frag) (C : Addr) : Sp := fun vs H Q _ => ∃ (z : Str) (ts : List (List V)), vs = [.str z, .str (Txt.join " " (ts.map wordT))] ∧ SignsOk z ∧ (∀ t ∈ ts, tokV z t = true) ∧ ts.length ≤ 200 ∧ 1 ≤ tsize ts ∧ tsize ts ≤ 40 ∧ ∀ (a : Addr) (H' : Hp), Same H H' → PieceAt K C H' a z ts → Q (.ref a) H'
theorem ok_read_piece (T : Txt K mg) : FnOk P w K mg base (L2.CX P w) 9 T.f_read_piece T.d_read_piece ["signs", "text"] (sp_read_piece K T.c_Piece) := by
  have nd := sc_read_piece.nd
  refine T.F_read_piece.okX sc_read_piece (fun vs H Q E h => ?_) (fun cdv A outer s H vs Q E hr h => ?_)
  · obtain ⟨z, ts, rfl, _⟩ := h
    rfl
  · obtain ⟨z, ts, rfl, hz, hok, hn, h1, h2, k⟩ := h
    refine ⟨_, (pss_cons (ps_set (i := 2) nd rfl (Or.inl rfl) (pe_call (ok_words_piece T) (hr.mono (by decide)) (by rfl) T.m_words_piece T.F_words_piece.kp T.b_words_piece .nil pass0 (pa_cons (pv 0) (pa_cons (pe_call (ok_only_line T) (hr.mono (by decide)) (by rfl) T.m_only_line T.F_only_line.kp T.b_only_line .nil (passes_call (takes_of rfl rfl rfl rfl) (fun _ _ _ _ h => h)) (pa_cons (pv 1) pa_nil)) pa_nil))))
    (pss_cons (ps_if (pt_cmpR op_isN (pv 2) pe_non (nomark _)) (pss_one (ps_raise rfl (takes_of rfl rfl rfl rfl) (pmk_oex T.ox_NoText T.oi_NoText T.ot_NoText (ok_NoText_init T) (hr.mono (by decide)) T.b_NoText_init .nil pass0 (by rfl) T.m_NoText (pa_cons pe_int pa_nil)))) pss_nil)
    (pss_cons (ps_expr (pe_call (ok_check_one_line T) (hr.mono (by decide)) (by rfl) T.m_check_one_line T.F_check_one_line.kp T.b_check_one_line .nil (passes_call (takes_of rfl rfl rfl rfl) (fun _ _ _ _ h => h)) (pa_cons (pv 1) pa_nil)))
    (pss_one (ps_ret (pv 2)))))), ?_⟩
    have hne : ts.map wordT ≠ [] := by
      intro e
      have : ts = [] := List.map_eq_nil_iff.mp e
      rw [this, tsize_nil] at h1
      omega
    have hfree : ∀ w ∈ ts.map wordT, 32 ∉ cl w ∧ 10 ∉ cl w := fun w hw => by
      obtain ⟨t, ht, rfl⟩ := List.mem_map.mp hw
      exact ⟨word_free hz (hok t ht) (.inl rfl), word_free hz (hok t ht) (.inr rfl)⟩
    have hlen : (Txt.join " " (ts.map wordT)).length ≤ 100000 := by
      rw [show Txt.join " " (ts.map wordT) = Str.join " " (ts.map wordT) from StrLaws.glued_eq_join _ _]
      have h3 := StrLaws.join_length_le " " (ts.map wordT)
      have h4 := words_sum2 hz hok
      have e1 : (" " : Str).length = 1 := rfl
      rw [e1, List.length_map] at h3
      omega
    have h10 : 10 ∉ cl (Txt.join " " (ts.map wordT)) := by
      intro hm
      rw [show Txt.join " " (ts.map wordT) = Str.join (chS 32) (ts.map wordT) from StrLaws.glued_eq_join _ _] at hm
      rcases join_mem hm with e | ⟨w, hw', hc⟩
      · cases e
      · exact (hfree w hw').2 hc
    walk_at "rd"
    intro l H1 s1 hl hl1
    walk_at "rd"
    refine ⟨z, l, ts, rfl, hl1, hz, hok, hn, h1, h2, fun a H2 s2 pat => ?_⟩
    walk_at "rd"
    refine iteKN (decide_eq_false fun e => nomatch e) ?_
    walk_at "rd"
    exact k a _ (s1.trans s2) pat
def sp_is_name (K : PySem.W.Frag) : Sp := fun vs H Q _ => ∃ (x : V) (n : String), vs = [x] ∧ Ty7 K H x n ∧
  (∀ y, x = .str y → y.length ≤ 1000 ∧ ∀ H', Same H H' → Q (.bl (decide (1 ≤ y.length) && decide (y.length ≤ 8) && lettersB y)) H') ∧ (strV x = false → Q (.bl false) H)
theorem ok_is_name (T : Txt K mg) : FnOk P w K mg base CX0 2 T.f_is_name T.d_is_name ["thing"] (sp_is_name K) := by
  have nd := sc_is_name.nd
  refine T.F_is_name.ok sc_is_name (fun vs H Q E h => ?_) (fun cdv A outer s H vs Q E hr h => ?_)
  · obtain ⟨x, n, rfl, _⟩ := h
    rfl
  · obtain ⟨x, n, rfl, hx, k1, k2⟩ := h
    refine ⟨_, (pss_one (ps_ret (pe_and (pe_callB (id := "isinstance") (call_isiK' (K := K) rfl) (by rfl) T.n_isinstance (by decide +kernel) (pa_cons (pv 0) (pa_cons (pe_bltn (v := .ty "str") (by rfl) T.n_str (by decide +kernel) rfl) pa_nil))) (pe_and (pe_chain op_le op_le pe_int (pe_callB (id := "len") (call_lenK (K := K) rfl) (by rfl) T.n_len (by decide +kernel) (pa_cons (pv 0) pa_nil)) (pe_glob (v := .int 8) (by rfl) T.m_MOST_LETTERS ⟨_, rfl⟩)) (pe_one (pe_call (ok_are_letters T) (hr.mono (by decide)) (by rfl) T.m_are_letters T.F_are_letters.kp T.b_are_letters .nil pass0 (pa_cons (pv 0) pa_nil))))))), ?_⟩
    walk_at "rd"
    refine ⟨_, _, _, _, _, rfl, .ty _, hx.1, kit7 hx.2 (.inl rfl), ?_⟩
    walk_at "rd"
    rw [hx.str_iff]
    cases hst : strV x with
    | false =>
      walk_at "rd"
      exact k2 hst
    | true =>
      obtain ⟨y, rfl⟩ : ∃ y, x = .str y := by
        cases x <;> simp [strV] at hst
        exact ⟨_, rfl⟩
      obtain ⟨hl, k1⟩ := k1 y rfl
      walk_at "rd"
      refine iteD (fun g1 => ?_) (fun g1 => ?_)
      · rw [decide_eq_true (show 1 ≤ y.length by omega), Bool.true_and] at k1
        walk_at "rd"
        refine iteD (fun g2 => ?_) (fun g2 => ?_)
        · rw [decide_eq_true (show y.length ≤ 8 by omega), Bool.true_and] at k1
          walk_at "rd"
          exact k1
        · rw [decide_eq_false (show ¬ y.length ≤ 8 by omega), Bool.false_and] at k1
          walk_at "rd"
          exact k1 _ (Same.refl _)
      · rw [decide_eq_false (show ¬ 1 ≤ y.length by omega), Bool.false_and] at k1
        walk_at "rd"
        exact k1 _ (Same.refl _)
theorem eqv_dash {ys : List Str} (h : ∀ y ∈ ys, y ≠ ("-" : Str)) : PyData.eqv (.list (ys.map PyData.str)) (.list [.str "-"]) = false := by
  cases ys with
  | nil => simp [PyData.eqv, PyData.eqvAll]
  | cons y r =>
    have h1 : (y == ("-" : Str)) = false := Bool.eq_false_iff.mpr fun q => h y List.mem_cons_self (beq_iff_eq.mp q)
    simp [PyData.eqv, PyData.eqvAll, h1]
def nameB (y : Str) : Bool := decide (1 ≤ y.length) && decide (y.length ≤ 8) && lettersB y
def rowT (ys : List Str) : Str := if ys = [] then "-" else Txt.join " " ys
def sp_read_row (K : PySem.W.Frag) : Sp := fun vs H Q _ => ∃ (ys : List Str), vs = [.str (rowT ys)] ∧ (∀ y ∈ ys, nameB y = true) ∧ ys.length ≤ 300 ∧ ∀ (l : Addr) (H' : Hp), Same H H' → H l = none → H' l = some (.lst (ys.map V.str)) → Q (.ref l) H'
theorem ok_read_row (T : Txt K mg) : FnOk P w K mg base (L2.CX P w) 5 T.f_read_row T.d_read_row ["text"] (sp_read_row K) := by
  have nd := sc_read_row.nd
  refine T.F_read_row.okX sc_read_row (fun vs H Q E h => ?_) (fun cdv A outer s H vs Q E hr h => ?_)
  · obtain ⟨ys, rfl, _⟩ := h
    rfl
  · obtain ⟨ys, rfl, hy, hn, k⟩ := h
    refine ⟨_, (pss_cons (ps_set (i := 1) nd rfl (Or.inl rfl) (pe_call (ok_only_line T) (hr.mono (by decide)) (by rfl) T.m_only_line T.F_only_line.kp T.b_only_line .nil (passes_call (takes_of rfl rfl rfl rfl) (fun _ _ _ _ h => h)) (pa_cons (pv 0) pa_nil)))
    (pss_cons (ps_set (i := 2) nd rfl (Or.inl rfl) (pe_ifExp (pt_cmpR (op_eqD (uE hr)) (pv 1) (pe_lst (pa_cons (pe_glob (v := .str "-") (by rfl) T.m_NO_NAMES ⟨_, rfl⟩) pa_nil)) (nomark _)) (pe_lst pa_nil) (pv 1)))
    (pss_cons (ps_if (pt_not (pt_val (pe_callB (id := "all") (cr_all rfl) (by rfl) T.n_all (by decide +kernel) (pa_cons (pe_lc (own := [("word", 3)]) (g := gName 3) (by rfl) nd (pi_list (pv 2)) (blkOk_by (own := [("word", 3)]) (N := N_read_row) (sc := defScope s_read_row) (by decide +kernel)) (fun _ _ _ _ _ => (pg_name (i := 3) nd rfl (Or.inl rfl))) (fun _ _ _ _ _ => pts_nil) (fun _ _ _ _ _ => (pe_call (ok_is_name T) (hr.mono (by decide)) (by rfl) T.m_is_name T.F_is_name.kp T.b_is_name .nil pass0 (pa_cons (pv 3) pa_nil)))) pa_nil)))) (pss_one (ps_raise rfl (takes_of rfl rfl rfl rfl) (pmk_oex T.ox_NoText T.oi_NoText T.ot_NoText (ok_NoText_init T) (hr.mono (by decide)) T.b_NoText_init .nil pass0 (by rfl) T.m_NoText (pa_cons pe_int pa_nil)))) pss_nil)
    (pss_cons (ps_expr (pe_call (ok_check_one_line T) (hr.mono (by decide)) (by rfl) T.m_check_one_line T.F_check_one_line.kp T.b_check_one_line .nil (passes_call (takes_of rfl rfl rfl rfl) (fun _ _ _ _ h => h)) (pa_cons (pv 0) pa_nil)))
    (pss_one (ps_ret (pv 2))))))), ?_⟩
    have hn1 : ∀ y ∈ ys, 32 ∉ cl y ∧ 10 ∉ cl y ∧ y.length ≤ 8 ∧ y ≠ "-" := fun y h => by
      have q := hy y h
      unfold nameB at q
      simp only [Bool.and_eq_true, decide_eq_true_eq] at q
      have hl : ∀ c ∈ cl y, 97 ≤ c ∧ c ≤ 122 := fun c hc => by
        have := List.all_eq_true.mp q.2 c hc
        unfold letB at this
        rw [Bool.and_eq_true, decide_eq_true_eq, decide_eq_true_eq] at this
        exact this
      refine ⟨fun hc => by have := hl 32 hc; omega, fun hc => by have := hl 10 hc; omega, q.1.2, fun e => ?_⟩
      have := hl 45 (by rw [e]; exact List.mem_singleton.mpr rfl)
      omega
    obtain ⟨ws, hws, e0, hwf⟩ : ∃ ws : List Str, ws ≠ [] ∧ rowT ys = Txt.join " " ws ∧ (ys = [] ∧ ws = [("-" : Str)] ∨ ys ≠ [] ∧ ws = ys) := by
      by_cases e : ys = []
      · exact ⟨[("-" : Str)], List.cons_ne_nil _ _, by unfold rowT; rw [if_pos e]; rfl, .inl ⟨e, rfl⟩⟩
      · exact ⟨ys, e, by unfold rowT; rw [if_neg e], .inr ⟨e, rfl⟩⟩
    have hfree : ∀ w ∈ ws, 32 ∉ cl w ∧ 10 ∉ cl w ∧ w.length ≤ 8 := fun w hw => by
      rcases hwf with ⟨_, rfl⟩ | ⟨_, rfl⟩
      · rw [List.mem_singleton.mp hw]
        exact ⟨by decide +kernel, by decide +kernel, by decide +kernel⟩
      · exact ⟨(hn1 w hw).1, (hn1 w hw).2.1, (hn1 w hw).2.2.1⟩
    have hwl : ws.length ≤ 300 := by
      rcases hwf with ⟨_, rfl⟩ | ⟨_, rfl⟩
      · decide
      · exact hn
    rw [e0]
    have hlen : (Txt.join " " ws).length ≤ 100000 := by
      rw [show Txt.join " " ws = Str.join " " ws from StrLaws.glued_eq_join _ _]
      have h3 := StrLaws.join_length_le " " ws
      have h4 : (ws.map (·.length)).sum ≤ ws.length * 8 := by
        clear h3 e0 hwf hws hwl
        induction ws with
        | nil => simp
        | cons w ws ih =>
          have h1 := (hfree w List.mem_cons_self).2.2
          have h2 := ih fun u hu => hfree u (List.mem_cons_of_mem _ hu)
          simp only [List.map_cons, List.sum_cons, List.length_cons]
          omega
      have e1 : (" " : Str).length = 1 := rfl
      rw [e1] at h3
      omega
    have h10 : 10 ∉ cl (Txt.join " " ws) := by
      intro hm
      rw [show Txt.join " " ws = Str.join (chS 32) ws from StrLaws.glued_eq_join _ _] at hm
      rcases join_mem hm with e | ⟨w, hw', hc⟩
      · cases e
      · exact (hfree w hw').2.1 hc
    have hwok : ∀ w ∈ ws, PyData.strOk w = true ∧ w.length ≤ 40 := fun w hw => by
      rcases hwf with ⟨_, rfl⟩ | ⟨_, rfl⟩
      · rw [List.mem_singleton.mp hw]
        exact ⟨by decide +kernel, by decide +kernel⟩
      · have q := hy w hw
        unfold nameB at q
        simp only [Bool.and_eq_true, decide_eq_true_eq] at q
        refine ⟨cln_iff.mpr fun c hc => ?_, by omega⟩
        have := List.all_eq_true.mp q.2 c hc
        unfold letB at this
        rw [Bool.and_eq_true, decide_eq_true_eq, decide_eq_true_eq] at this
        omega
    have PW : Pl 64 1000000 (.list (ws.map PyData.str)) := (pl_strs hwok (by omega)).mono (by decide) (by decide)
    have PD : Pl 64 1000000 (.list [.str ("-" : Str)]) := (PlAll.cons (Pl.str (w := 16) (by decide +kernel) (by decide +kernel)) .nil).list.mono (by decide) (Nat.le_of_ble_eq_true rfl)
    walk_at "rd"
    refine ⟨fun w h => ⟨(hfree w h).1, (hfree w h).2.1⟩, hlen, fun l H1 s1 hl hl1 => ?_⟩
    walk_at "rd"
    intro q hq
    have s2 := same_new (o := .lst [.str "-"]) hq
    refine ⟨_, _, .lst (SqL.of (s2 _ _ hl1)) (dps_strs ws), .lst (SqL.of upd_same) (.cons (.str _) .nil), PW.shaped, PD.shaped, ?_⟩
    rcases hwf with ⟨rfl, rfl⟩ | ⟨hne, rfl⟩
    · rw [show PyData.eqv (.list ([("-" : Str)].map PyData.str)) (.list [.str "-"]) = true from SeqAt.eqv_refl _ PD.lay]
      walk_at "rd"
      intro nl hnl0
      have sX := (s1.trans s2).trans (same_new (o := .lst []) hnl0)
      have hnl : (upd (upd H1 q (.lst [.str "-"])) nl (.lst [])) nl = some (.lst []) := upd_same
      walk_at "rd"
      refine ⟨⟨_, SqL.of hnl⟩, ?_⟩
      intro D hD
      refine lc_list (K := K) (a := nl) (xs := ([] : List Str).map V.str) (Acc ([] : List Str) (fun _ => .bl true) (upd (upd H1 q (.lst [.str "-"])) nl (.lst [])) D) (Acc.start _ _ _ _) (fun i H2 _ ka => SqL.of ((ka.same hD) _ _ hnl)) ?_ ?_
      · intro i v H2 hv ka
        rw [List.getElem?_map] at hv
        obtain ⟨y, hy1, rfl⟩ : ∃ y, ([] : List Str)[i]? = some y ∧ V.str y = v := by
          cases h : ([] : List Str)[i]? with
          | none => rw [h] at hv; cases hv
          | some t => rw [h] at hv; exact ⟨t, rfl, Option.some.inj hv⟩
        have hyb := hy y (List.mem_of_getElem? hy1)
        have hyl := (hn1 y (List.mem_of_getElem? hy1)).2.2.1
        walk_at "rd"
        refine ⟨.str y, "str", rfl, Ty7.str, fun y' e => ?_, fun e => nomatch e⟩
        cases e
        refine ⟨by omega, fun H3 s3 => ?_⟩
        refine ka.step (KeepB.of_same s3) ((s3 _ _ ka.2).trans ka.2.symm) hy1 (by show ([] : List Str).length ≤ _; omega) ?_
        show V.bl (nameB y) = V.bl true
        rw [hyb]
      · rw [List.length_map]
        intro H2 ka
        have s3 := ka.same hD
        refine ⟨_, ([] : List Str).map (fun _ => true), rfl, SqL.of (by rw [List.map_map]; exact Acc.all ka), ?_⟩
        rw [show ((([] : List Str) : List Str).map fun _ => true).all id = true by simp]
        walk_at "rd"
        refine iteKN rfl ?_
        walk_at "rd"
        exact k nl _ (sX.trans s3) ((s1.trans s2).free hnl0) (s3 _ _ hnl)
    · rw [eqv_dash fun y h => (hn1 y h).2.2.2]
      have hnl := s2 _ _ hl1
      walk_at "rd"
      refine ⟨⟨_, SqL.of hnl⟩, ?_⟩
      intro D hD
      refine lc_list (K := K) (a := l) (xs := ws.map V.str) (Acc ws (fun _ => .bl true) (upd H1 q (.lst [.str "-"])) D) (Acc.start _ _ _ _) (fun i H2 _ ka => SqL.of ((ka.same hD) _ _ hnl)) ?_ ?_
      · intro i v H2 hv ka
        rw [List.getElem?_map] at hv
        obtain ⟨y, hy1, rfl⟩ : ∃ y, ws[i]? = some y ∧ V.str y = v := by
          cases h : ws[i]? with
          | none => rw [h] at hv; cases hv
          | some t => rw [h] at hv; exact ⟨t, rfl, Option.some.inj hv⟩
        have hyb := hy y (List.mem_of_getElem? hy1)
        have hyl := (hn1 y (List.mem_of_getElem? hy1)).2.2.1
        walk_at "rd"
        refine ⟨.str y, "str", rfl, Ty7.str, fun y' e => ?_, fun e => nomatch e⟩
        cases e
        refine ⟨by omega, fun H3 s3 => ?_⟩
        refine ka.step (KeepB.of_same s3) ((s3 _ _ ka.2).trans ka.2.symm) hy1 (by show ws.length ≤ _; omega) ?_
        show V.bl (nameB y) = V.bl true
        rw [hyb]
      · rw [List.length_map]
        intro H2 ka
        have s3 := ka.same hD
        refine ⟨_, ws.map (fun _ => true), rfl, SqL.of (by rw [List.map_map]; exact Acc.all ka), ?_⟩
        rw [show ((ws : List Str).map fun _ => true).all id = true by simp]
        walk_at "rd"
        refine iteKN rfl ?_
        walk_at "rd"
        exact k l _ ((s1.trans s2).trans s3) hl (s3 _ _ hnl)
theorem le_1 : ("=" : Str).length = 1 ∧ ("?" : Str).length = 1 ∧ ("c" : Str).length = 1 ∧ ("s" : Str).length = 1 ∧ ("." : Str).length = 1 ∧ Str.empty.length = 0 := ⟨rfl, rfl, rfl, rfl, rfl, rfl⟩
def sp_word (K : PySem.W.Frag) : Sp := fun vs H Q _ => ∃ (v : V) (z : Str) (t : List V), vs = [v] ∧ TokAt K H z v t ∧ SignsOk z ∧ ∀ H', Same H H' → Q (.str (wordT t)) H'
theorem ok_word (T : Txt K mg) : FnOk P w K mg base CX0 1 T.f_word T.d_word ["token"] (sp_word K) := by
  have nd := sc_word.nd
  refine T.F_word.ok sc_word (fun vs H Q E h => ?_) (fun cdv A outer s H vs Q E hr h => ?_)
  · obtain ⟨v, z, t, rfl, _⟩ := h
    rfl
  · obtain ⟨v, z, t, rfl, hv, hz, k⟩ := h
    refine ⟨_, (pss_cons (ps_set (i := 1) nd rfl (Or.inl rfl) (pe_ix (ix_tupK (K := K) rfl) (pv 0) pe_int (fun _ _ => rfl)))
    (pss_cons (ps_if (pt_cmpR op_eq (pv 1) pe_str (nomark _)) (pss_one (ps_ret pe_str)) pss_nil)
    (pss_cons (ps_if (pt_cmpR op_eq (pv 1) pe_str (nomark _)) (pss_one (ps_ret (pe_op op_add_str pe_str (pe_ix (ix_tupK (K := K) rfl) (pv 0) pe_int (fun _ _ => rfl))))) pss_nil)
    (pss_cons (ps_if (pt_cmpR op_eq (pv 1) pe_str (nomark _)) (pss_one (ps_ret (pe_op op_add_str pe_str (pe_ix (ix_tupK (K := K) rfl) (pv 0) pe_int (fun _ _ => rfl))))) pss_nil)
    (pss_cons (ps_set (i := 2) nd rfl (Or.inl rfl) (pe_ifExp (pt_cmpR op_eq (pv 1) pe_str (nomark _)) pe_str pe_str))
    (pss_one (ps_ret (pe_joined (PJ.cons (pe_fmt (pv 2)) (PJ.cons (pe_fmt (pe_ix (ix_tupK (K := K) rfl) (pv 0) pe_int (fun _ _ => rfl))) (PJ.cons pe_str (PJ.cons (pe_fmt (pe_ix (ix_tupK (K := K) rfl) (pv 0) pe_int (fun _ _ => rfl))) PJ.nil)))))))))))), ?_⟩
    obtain ⟨⟨p, rfl, hp⟩, hok⟩ := hv
    obtain ⟨kd, rest, rfl, hk⟩ := tok_inv hok
    rcases hk with ⟨rfl, rfl⟩ | ⟨y, rfl, rfl, h1, h2, h3⟩ | ⟨y, rfl, rfl, h1⟩ | ⟨d, n, hkd, rfl, d1, d2, n1, n2⟩
    · walk_at "rd"
      walk_at "ks"
      walk_at "rd"
      exact k _ (Same.refl _)
    · walk_at "rd"
      walk_at "ks"
      walk_at "rd"
      walk_at "ks"
      walk_at "rd"
      refine ⟨szl (by rw [show ("=" : Str).length = 1 from rfl]; omega), ?_⟩
      rw [← word_text]
      exact k _ (Same.refl _)
    · walk_at "rd"
      walk_at "ks"
      walk_at "rd"
      walk_at "ks"
      walk_at "rd"
      walk_at "ks"
      walk_at "rd"
      have := choice_len h1
      have := hz.len
      refine ⟨szl (by rw [show ("?" : Str).length = 1 from rfl]; omega), ?_⟩
      rw [← word_any]
      exact k _ (Same.refl _)
    · rcases hkd with rfl | rfl
      · walk_at "rd"
        walk_at "ks"
        walk_at "rd"
        walk_at "ks"
        walk_at "rd"
        walk_at "ks"
        walk_at "rd"
        walk_at "ks"
        walk_at "rd"
        have ld := num_len d1 (by omega)
        have ln := num_len n1 n2
        refine Or.inr ⟨d, rfl, num_log (by omega) (by omega), numS d, rfl, szl ?_, ?_⟩
        · have := le_1
          rw [app_len, app_len]
          omega
        walk_at "rd"
        refine ⟨szl ?_, ?_⟩
        · have := le_1
          rw [app_len, app_len, app_len]
          omega
        walk_at "rd"
        refine Or.inr ⟨n, rfl, num_log (by omega) (by omega), numS n, rfl, szl ?_, ?_⟩
        · have := le_1
          rw [app_len, app_len, app_len, app_len]
          omega
        show Q (.str (Str.empty ++ "c" ++ numS d ++ "." ++ numS n)) H
        rw [emp_app, ← word_copy]
        exact k _ (Same.refl _)
      · walk_at "rd"
        walk_at "ks"
        walk_at "rd"
        walk_at "ks"
        walk_at "rd"
        walk_at "ks"
        walk_at "rd"
        walk_at "ks"
        walk_at "rd"
        have ld := num_len d1 (by omega)
        have ln := num_len n1 n2
        refine Or.inr ⟨d, rfl, num_log (by omega) (by omega), numS d, rfl, szl ?_, ?_⟩
        · have := le_1
          rw [app_len, app_len]
          omega
        walk_at "rd"
        refine ⟨szl ?_, ?_⟩
        · have := le_1
          rw [app_len, app_len, app_len]
          omega
        walk_at "rd"
        refine Or.inr ⟨n, rfl, num_log (by omega) (by omega), numS n, rfl, szl ?_, ?_⟩
        · have := le_1
          rw [app_len, app_len, app_len, app_len]
          omega
        show Q (.str (Str.empty ++ "s" ++ numS d ++ "." ++ numS n)) H
        rw [emp_app, ← word_say]
        exact k _ (Same.refl _)
def sp_show_piece (K : PySem.W.Frag) (C : Addr) : Sp := fun vs H Q _ => ∃ (a : Addr) (z : Str) (ts : List (List V)), vs = [.ref a] ∧ PieceAt K C H a z ts ∧ SignsOk z ∧ ts.length ≤ 200 ∧ ∀ H', Same H H' → Q (.str (Txt.join " " (ts.map wordT))) H'
theorem ok_show_piece (T : Txt K mg) : FnOk P w K mg base CX0 2 T.f_show_piece T.d_show_piece ["piece"] (sp_show_piece K T.c_Piece) := by
  have nd := sc_show_piece.nd
  refine T.F_show_piece.ok sc_show_piece (fun vs H Q E h => ?_) (fun cdv A outer s H vs Q E hr h => ?_)
  · obtain ⟨a, z, ts, rfl, _⟩ := h
    rfl
  · obtain ⟨a, z, ts, rfl, pa, hz, hn, k⟩ := h
    refine ⟨_, (pss_one (ps_ret (pe_join pe_str (pe_lc (own := [("token", 1)]) (g := gName 1) (by rfl) nd (pi_list (pe_meth0 (pv 0) T.cl_Piece T.mt_Piece_tokens (ok_Piece_tokens T) (hr.mono (by decide)) T.b_Piece_tokens .nil pass0)) (blkOk_by (own := [("token", 1)]) (N := N_show_piece) (sc := defScope s_show_piece) (by decide +kernel)) (fun _ _ _ _ _ => (pg_name (i := 1) nd rfl (Or.inl rfl))) (fun _ _ _ _ _ => pts_nil) (fun _ _ _ _ _ => (pe_call (ok_word T) (hr.mono (by decide)) (by rfl) T.m_word T.F_word.kp T.b_word .nil pass0 (pa_cons (pv 1) pa_nil))))))), ?_⟩
    obtain ⟨dx, l, p, hi⟩ := pa.ins
    walk_at "rd"
    refine ⟨⟨_, rfl⟩, ?_⟩
    walk_at "rd"
    refine ⟨a, _, _, rfl, hi, pf_no _ _ _ (by decide +kernel) (by decide +kernel) (by decide +kernel), ?_⟩
    refine ⟨a, z, ts, rfl, pa, fun l2 tvs H1 s1 hl2 hl21 htk => ?_⟩
    walk_at "rd"
    refine ⟨⟨_, SqL.of hl21⟩, ?_⟩
    intro D hD
    refine lc_list (K := K) (a := l2) (xs := tvs) (fun j H' => Same H1 H' ∧ H' D = some (.lst (((ts.take j).map wordT).map V.str))) ?_ ?_ ?_ ?_
    · exact ⟨same_new hD, upd_same⟩
    · exact fun _ _ _ p => SqL.of (p.1 _ _ hl21)
    · rintro j v H' hj ⟨s2, hD'⟩
      obtain ⟨tj, htj, hv⟩ := paired_get htk hj
      have hjl : j < ts.length := (List.getElem?_eq_some_iff.mp htj).1
      walk_at "rd"
      refine ⟨v, z, tj, rfl, hv.same s2, hz, fun H3 s3 => ?_⟩
      walk_at "rd"
      refine ⟨_, s3 _ _ hD', szl (by rw [List.length_map, List.length_map, List.length_take]; omega), fun x o e => (upd_ne (ne_of_none e hD)).trans (s3 _ _ (s2 _ _ e)), ?_⟩
      rw [List.take_add_one, htj, List.map_append, List.map_append]
      exact upd_same
    · rintro H' ⟨s2, hD'⟩
      rw [paired_len htk, List.take_length] at hD'
      walk_at "rd"
      refine ⟨" ", D, ts.map wordT, rfl, rfl, .inl (SqL.of hD'), ?_, k _ (s1.trans s2)⟩
      exact words_sum hz htk.ok hn
def sp_show_row (K : PySem.W.Frag) : Sp := fun vs H Q _ => ∃ (l : Addr) (ys : List Str), vs = [.ref l] ∧ SqL K H l (ys.map V.str) ∧ ys.length ≤ 1000 ∧ (∀ y ∈ ys, y.length ≤ 100) ∧ Q (.str (if ys = [] then "-" else Txt.join " " ys)) H
theorem ok_show_row (T : Txt K mg) : FnOk P w K mg base CX0 1 T.f_show_row T.d_show_row ["names"] (sp_show_row K) := by
  have nd := sc_show_row.nd
  refine T.F_show_row.ok sc_show_row (fun vs H Q E h => ?_) (fun cdv A outer s H vs Q E hr h => ?_)
  · obtain ⟨l, ys, rfl, _⟩ := h
    rfl
  · obtain ⟨l, ys, rfl, hl, hn, hy, k⟩ := h
    refine ⟨_, (pss_one (ps_ret (pe_ifExp (pt_cmpR op_gt (pe_callB (id := "len") (call_lenK (K := K) rfl) (by rfl) T.n_len (by decide +kernel) (pa_cons (pv 0) pa_nil)) pe_int (nomark _)) (pe_join pe_str (pv 0)) (pe_glob (v := .str "-") (by rfl) T.m_NO_NAMES ⟨_, rfl⟩)))), ?_⟩
    walk_at "rd"
    by_cases e : ys = []
    · subst e
      walk_at "rd"
      refine iteDN (by simp) ?_
      exact k
    · rw [if_neg e] at k
      have : 0 < ys.length := List.length_pos_iff.mpr e
      walk_at "rd"
      refine iteDY (by rw [List.length_map]; omega) ?_
      walk_at "rd"
      refine ⟨⟨_, rfl⟩, ?_⟩
      walk_at "rd"
      refine ⟨" ", l, ys, rfl, rfl, .inl hl, ?_, k⟩
      clear this
      have : (ys.map (·.length)).sum ≤ ys.length * 100 := by
        clear k e hl
        induction ys with
        | nil => simp
        | cons y ys ih =>
          have h1 := hy y List.mem_cons_self
          have h2 := ih (by rw [List.length_cons] at hn; omega) (fun y h => hy y (List.mem_cons_of_mem _ h))
          simp only [List.map_cons, List.sum_cons, List.length_cons]
          omega
      have e1 : (" " : Str).length = 1 := rfl
      rw [e1]
      omega
theorem menu_names : ∀ y ∈ menu16, nameB y = true := fun y hy => List.all_eq_true.mp (show menu16.all nameB = true by decide +kernel) y hy
theorem eqv_nilS {ys : List Str} (h : ys ≠ []) : PyData.eqv (.list (ys.map PyData.str)) (.list []) = false := by
  cases ys with
  | nil => exact absurd rfl h
  | cons y r => simp [PyData.eqv, PyData.eqvAll]
theorem flushes_size : ∀ n : Nat, tsize (List.replicate n [V.str "flush"]) = 0
  | 0 => rfl
  | n + 1 => by
    rw [List.replicate_succ, tsize_cons, flushes_size n]
    rfl
theorem take_drop1 (ts : List (List V)) : tsize (ts.take 1) + tsize (ts.drop 1) = tsize ts := by
  rw [← tsize_app, List.take_append_drop]
def sp_law (K : PySem.W.Frag) : Sp := fun vs H Q _ => ∃ (a : Addr) (ns : List Int), vs = [.ref a] ∧ SqL K H a (ns.map V.int) ∧ ns.length ≤ 63 ∧ ∀ H', Q (.bl true) H'
theorem ok_law (T : Txt K mg) : FnG P w K mg base 10 T.f_law T.d_law ["_law_script"] (sp_law K) := by
  have nd := sc_law.nd
  refine FnG.by_body T.F_law sc_law (fun vs H Q E h => ?_) (fun cdv A outer s H vs Q E hr h => ?_)
  · obtain ⟨a, ns, rfl, _⟩ := h
    rfl
  · obtain ⟨a, ns, rfl, ha, hn, k⟩ := h
    refine ⟨_, (pss_cons (ps_set (i := 1) nd rfl (Or.inr rfl) (pe_call (ok_law_bag T) (hr.room.mono (by decide)) (by rfl) T.m_law_bag T.F_law_bag.kp T.b_law_bag .nil pass0 (pa_cons (pv 0) pa_nil)))
    (pss_cons (ps_for PassesOwn.never rfl (pi_range1 (by rfl) T.n_range (pa_cons pe_int pa_nil)) (pg_name (i := 2) nd rfl (Or.inl rfl)) (pss_cons (ps_set (i := 3) nd rfl (Or.inl rfl) (pe_call (ok_law_signs T) (hr.room.mono (by decide)) (by rfl) T.m_law_signs T.F_law_signs.kp T.b_law_signs .nil pass0 (pa_cons (pv 1) pa_nil)))
    (pss_cons (ps_set (i := 4) nd rfl (Or.inl rfl) (pe_call (ok_law_free_tokens T) (hr.room.mono (by decide)) (by rfl) T.m_law_free_tokens T.F_law_free_tokens.kp T.b_law_free_tokens .nil pass0 (pa_cons (pv 1) (pa_cons (pv 3) (pa_cons (pe_ix (ix_listK (K := K) rfl) (pe_lst (pa_cons pe_int (pa_cons pe_int (pa_cons pe_int pa_nil)))) (pe_call (ok_law_take T) (hr.room.mono (by decide)) (by rfl) T.m_law_take T.F_law_take.kp T.b_law_take .nil pass0 (pa_cons (pv 1) (pa_cons pe_int pa_nil))) (fun _ _ => rfl)) pa_nil)))))
    (C8.pss_cut (ps_if (pt_cmpR op_eq (pe_call (ok_law_take T) (hr.room.mono (by decide)) (by rfl) T.m_law_take T.F_law_take.kp T.b_law_take .nil pass0 (pa_cons (pv 1) (pa_cons pe_int pa_nil))) pe_int (nomark _)) (pss_one (ps_set (i := 4) nd rfl (Or.inl rfl) (pe_op op_cat (pe_op op_cat (pe_slice sl_list (pv 4) po_none (po_some pe_int)) (pe_op op_rep (pe_lst (pa_cons (pe_tup (pa_cons pe_str pa_nil)) pa_nil)) pe_int)) (pe_slice sl_list (pv 4) (po_some pe_int) po_none)))) pss_nil)
    (pss_cons (ps_par (i := 5) (j := 6) (by rfl) nd rfl rfl (by decide) rfl rfl (pa_cons (pe_make T.mk_Piece (ok_Piece_init T) (hr.room.mono (by decide)) (by rfl) T.m_Piece T.b_Piece_init .nil pass0 (pa_cons (pv 3) (pa_cons (pe_callTy (T := "list") call_list_of (by rfl) T.n_list (by decide +kernel) (pa_cons (pv 4) pa_nil)) pa_nil))) (pa_cons (pe_call (ok_law_show T) (hr.room.mono (by decide)) (by rfl) T.m_law_show T.F_law_show.kp T.b_law_show .nil pass0 (pa_cons (pv 4) pa_nil)) pa_nil)) (by rfl))
    (pss_cons (ps_if (PW.pt (pw_or (pt_cmpR op_ne (pe_call (ok_show_piece T) (hr.room.mono (by decide)) (by rfl) T.m_show_piece T.F_show_piece.kp T.b_show_piece .nil pass0 (pa_cons (pv 5) pa_nil)) (pv 6) (nomark _)) (pw_or (pt_cmpR (op_neD (uD hr)) (pe_meth0 (pv 5) T.cl_Piece T.mt_Piece_tokens (ok_Piece_tokens T) (hr.room.mono (by decide)) T.b_Piece_tokens .nil pass0) (pv 4) (nomark _)) (pw_or1 (pt_cmpR (op_neSame (C := T.c_Piece) (FnG.of (ok_Piece_eq T)) (hr.mono (by decide)) T.mt_Piece_eq.at_ T.mt_Piece_eq.fn T.b_Piece_eq pass0 T.ne_Piece T.mro_Piece) (pe_call (ok_read_piece T) (hr.room.mono (by decide)) (by rfl) T.m_read_piece T.F_read_piece.kp T.b_read_piece .nil passF (pa_cons (pv 3) (pa_cons (pv 6) pa_nil))) (pv 5) (nomark _)))))) (pss_one (ps_ret pe_bl)) pss_nil)
    (pss_cons (ps_set (i := 7) nd rfl (Or.inl rfl) (pe_ix (ix_listK (K := K) rfl) (pe_lst (pa_cons (pe_call (ok_law_take T) (hr.room.mono (by decide)) (by rfl) T.m_law_take T.F_law_take.kp T.b_law_take .nil pass0 (pa_cons (pv 1) (pa_cons pe_int pa_nil))) (pa_cons (pe_call (ok_law_take T) (hr.room.mono (by decide)) (by rfl) T.m_law_take T.F_law_take.kp T.b_law_take .nil pass0 (pa_cons (pv 1) (pa_cons pe_int pa_nil))) (pa_cons pe_int pa_nil)))) (pe_call (ok_law_take T) (hr.room.mono (by decide)) (by rfl) T.m_law_take T.F_law_take.kp T.b_law_take .nil pass0 (pa_cons (pv 1) (pa_cons pe_int pa_nil))) (fun _ _ => rfl)))
    (pss_cons (ps_setLc (i := 8) (own := [("_law_k", 13)]) (g := gName 13) (by rfl) nd rfl rfl (sw_true rfl rfl rfl (by decide +kernel)) (pi_range1 (by rfl) T.n_range (pa_cons (pv 7) pa_nil)) (blkOk_by (own := [("_law_k", 13)]) (N := N_law) (sc := defScope s_law) (by decide +kernel)) (fun _ _ _ _ _ => (pg_name (i := 13) nd rfl (Or.inl rfl))) (fun _ _ _ _ _ => pts_nil) (fun _ _ _ _ _ => (pe_ix (ix_listK (K := K) rfl) (pe_call (ok_law_words T) (hr.room.mono (by decide)) (by rfl) T.m_law_words T.F_law_words.kp T.b_law_words .nil pass0 (pa_cons (pv 1) (pa_cons pe_int pa_nil))) (pe_call (ok_law_take T) (hr.room.mono (by decide)) (by rfl) T.m_law_take T.F_law_take.kp T.b_law_take .nil pass0 (pa_cons (pv 1) (pa_cons pe_int pa_nil))) (fun _ _ => rfl))))
    (pss_cons (ps_par (i := 9) (j := 10) (by rfl) nd rfl rfl (by decide) rfl rfl (pa_cons (pe_callTy (T := "list") call_list_of (by rfl) T.n_list (by decide +kernel) (pa_cons (pv 8) pa_nil)) (pa_cons (pe_ifExp (pt_cmpR (op_neD (uD hr)) (pv 8) (pe_lst pa_nil) (nomark _)) (pe_join pe_str (pv 8)) pe_str) pa_nil)) (by rfl))
    (pss_cons (ps_if (PW.pt (pw_or (pt_cmpR op_ne (pe_call (ok_show_row T) (hr.room.mono (by decide)) (by rfl) T.m_show_row T.F_show_row.kp T.b_show_row .nil pass0 (pa_cons (pv 9) pa_nil)) (pv 10) (nomark _)) (pw_or1 (pt_cmpR (op_neD (uD hr)) (pv 9) (pv 8) (nomark _))))) (pss_one (ps_ret pe_bl)) pss_nil)
    (pss_one (ps_for PassesOwn.never rfl (pi_range1 (by rfl) T.n_range (pa_cons pe_int pa_nil)) (pg_name (i := 11) nd rfl (Or.inl rfl)) (pss_cons (ps_set (i := 12) nd rfl (Or.inl rfl) (pe_call (ok_read_row T) (hr.room.mono (by decide)) (by rfl) T.m_read_row T.F_read_row.kp T.b_read_row .nil passF (pa_cons (pv 10) pa_nil)))
    (pss_cons (ps_if (pt_not (pt_val (pe_callG (cr_fnG (ok_law_alike T) (hr.mono (by decide)) T.b_law_alike pass0) (by rfl) T.m_law_alike T.F_law_alike.kp (pa_cons (pv 12) (pa_cons (pv 8) pa_nil))))) (pss_one (ps_ret pe_bl)) pss_nil)
    (pss_one (ps_expr (pe_bm PySem.F.plainAttrs_list PySem.F.slot_list_append PySem.F.type_list_append mt_append (pv 12) (pa_cons pe_str pa_nil))))))))))))))))))
    (pss_one (ps_ret pe_bl)))), ?_⟩
    walk_at "rd"
    refine ⟨a, ns, rfl, ha, hn, fun b c H1 s1 hb b1 => ?_⟩
    walk_at "rd"
    refine for_range (lo := 0) (n := 5) (fun i σ H2 => BagAt H2 b c ∧ ∃ x2 x3 x4 x5 x6 x7 x8 x9 x10 x11 x12 x13 : Option V, σ = [some (.ref a), some (.ref b), x2, x3, x4, x5, x6, x7, x8, x9, x10, x11, x12, x13]) ?_ ?_ ?_
    · exact ⟨b1, _, _, _, _, _, _, _, _, _, _, _, _, rfl⟩
    · rintro i σ H2 hi ⟨b2, x2, x3, x4, x5, x6, x7, x8, x9, x10, x11, x12, x13, rfl⟩
      walk_at "rd"
      refine ⟨b, c, rfl, b2, fun z H3 k3 b3 hz7 => ?_⟩
      have hz := (wide_of hz7).1
      have hzl := hz.len
      walk_at "rd"
      intro p hp
      have b4 := bag_upd b3 hp (o := .lst [.int 3, .int 8, .int 40])
      have npb : p ≠ b := b3.neb hp
      walk_at "rd"
      refine ⟨b, c, 3, rfl, b4, by decide, by decide, fun q H4 k4 b5 q0 q1 => ?_⟩
      obtain ⟨m, hm, m1, m40⟩ : ∃ m : Int, atI [V.int 3, V.int 8, V.int 40] q = some (V.int m) ∧ 1 ≤ m ∧ m ≤ 40 := by
        obtain ⟨v, hv, e⟩ := at3 (x := .int 3) (y := .int 8) (z := .int 40) q0 q1
        rcases e with rfl | rfl | rfl
        · exact ⟨3, hv, by decide, by decide⟩
        · exact ⟨8, hv, by decide, by decide⟩
        · exact ⟨40, hv, by decide, by decide⟩
      refine ⟨_, _, _, _, rfl, rfl, SqL.of (k4 _ _ npb upd_same), hm, ?_⟩
      walk_at "rd"
      refine ⟨b, c, z, m, rfl, b5, hz, m1, m40, fun lt tvs ts H5 k5 b6 hlt nlt hlt5 htk hn20 hs1 hs2 => ?_⟩
      clear k3 k4 b3 b4 hp hm
      walk_at "rd"
      refine ⟨fun σ H => BagAt H b c ∧ ∃ (lt : Addr) (tvs : List V) (ts : List (List V)), H lt = some (.lst tvs) ∧ Toks K H z tvs ts ∧ ts.length ≤ 100 ∧ 1 ≤ tsize ts ∧ tsize ts ≤ 40 ∧
        ∃ x5 x6 x7 x8 x9 x10 x11 x12 x13 : Option V, σ = [some (.ref a), some (.ref b), some (.int (0 + i)), some (.str z), some (.ref lt), x5, x6, x7, x8, x9, x10, x11, x12, x13], ?_, ?_⟩
      · walk_at "rd"
        refine ⟨b, c, 6, rfl, b6, by decide, by decide, fun q H6 k6 b7 q0 q1 => ?_⟩
        have hlt6 := k6 _ _ nlt hlt5
        have htk6 : Toks K H6 z tvs ts := Toks.bag k6 b6 htk
        have htl := paired_len htk6
        walk_at "rd"
        refine iteI (fun _ => ?_) (fun _ => ?_)
        · walk_at "rd"
          refine ⟨lt, _, rfl, SqL.of hlt6, fun u1 hu1 => ?_⟩
          rw [cut_first]
          have w1 := same_new (o := .lst (tvs.take 1)) hu1
          walk_at "rd"
          intro f hf
          have w2 := same_new (o := .tup [.str "flush"]) hf
          walk_at "rd"
          intro g hg
          have w3 := same_new (o := .lst [.ref f]) hg
          walk_at "rd"
          refine ⟨g, 50, [.ref f], rfl, rfl, upd_same, by decide, by decide, szl (Nat.le_of_ble_eq_true rfl), fun r hr => ?_⟩
          rw [flat_rep]
          have w4 := same_new (o := .lst (List.replicate (50 : Int).toNat (V.ref f))) hr
          have eu1 := ((w2.trans w3).trans w4) _ _ (upd_same (H := H6) (a := u1) (o := HO.lst (tvs.take 1)))
          walk_at "rd"
          refine ⟨u1, r, _, _, rfl, rfl, eu1, upd_same, szl (by rw [List.length_take, List.length_replicate]; show min 1 tvs.length + 50 ≤ _; omega), fun c1 hc1 => ?_⟩
          have w5 := same_new (o := .lst (tvs.take 1 ++ List.replicate (50 : Int).toNat (V.ref f))) hc1
          have w15 := (((w1.trans w2).trans w3).trans w4).trans w5
          walk_at "rd"
          refine ⟨lt, _, rfl, SqL.of (w15 _ _ hlt6), fun u2 hu2 => ?_⟩
          rw [show cutV tvs (some 1) none = tvs.drop 1 from cutV_drop (n := 1)]
          have w6 := same_new (o := .lst (tvs.drop 1)) hu2
          have ec1 := w6 _ _ (upd_same (H := _) (a := c1) (o := HO.lst (tvs.take 1 ++ List.replicate (50 : Int).toNat (V.ref f))))
          walk_at "rd"
          refine ⟨c1, u2, _, _, rfl, rfl, ec1, upd_same, szl (by rw [List.length_append, List.length_take, List.length_replicate, List.length_drop]; show min 1 tvs.length + 50 + _ ≤ _; omega), fun l2 hl2 => ?_⟩
          have w7 := same_new (o := .lst (tvs.take 1 ++ List.replicate (50 : Int).toNat (V.ref f) ++ tvs.drop 1)) hl2
          have w17 := (w15.trans w6).trans w7
          have ef : TokAt K _ z (.ref f) [.str "flush"] := ⟨⟨f, rfl, SqT.of ((((((w3.trans w4).trans w5).trans w6).trans w7)) _ _ (upd_same (H := _) (a := f) (o := HO.tup [.str "flush"])))⟩, tok_flush⟩
          have td := take_drop1 ts
          have fs := flushes_size (50 : Int).toNat
          refine ⟨bag_same b7 w17, l2, _, ts.take 1 ++ List.replicate (50 : Int).toNat [V.str "flush"] ++ ts.drop 1, upd_same, paired_app (paired_app (paired_take 1 (htk6.same w17)) (paired_rep ef _)) (paired_drop 1 (htk6.same w17)), ?_, ?_, ?_, _, _, _, _, _, _, _, _, _, rfl⟩
          · rw [List.length_append, List.length_append, List.length_take, List.length_replicate, List.length_drop]
            show min 1 ts.length + 50 + _ ≤ _
            omega
          · rw [tsize_app, tsize_app, fs]; omega
          · rw [tsize_app, tsize_app, fs]; omega
        · exact ⟨b7, lt, tvs, ts, hlt6, htk6, by omega, hs1, by omega, _, _, _, _, _, _, _, _, _, rfl⟩
      · rintro σ H6 ⟨b7, lt, tvs, ts, hlt6, htk6, hn100, hs1, hs2, x5, x6, x7, x8, x9, x10, x11, x12, x13, rfl⟩
        have okts := htk6.ok
        have hlt6' := hlt6
        walk_at "rd"
        refine ⟨lt, tvs, rfl, .inl (SqL.of hlt6), fun l1 hl1 => ?_⟩
        have w1 := same_new (o := .lst tvs) hl1
        walk_at "rd"
        intro pa dx hpa hdx hne
        have s2' := same_make (C := T.c_Piece) hpa hdx hne
        refine ⟨pa, dx, l1, z, tvs, ts, rfl, upd_same, hz, SqL.of (s2' _ _ upd_same), (htk6.same w1).same s2', by omega, hs1, hs2, fun H8 k8 pat _ => ?_⟩
        have w2 := w1.trans (same_keepB hpa ((KeepB.of_same s2').trans k8))
        have b8 := bag_same b7 w2
        have hlt8 := w2 _ _ hlt6
        have htk8 := htk6.same w2
        clear s2' k8 hpa hdx hne w1 w2 b7 hlt6 hlt6' htk6
        refine ⟨rfl, ?_⟩
        walk_at "rd"
        refine ⟨lt, z, tvs, ts, rfl, SqL.of hlt8, htk8, hz, by omega, fun H9 s9 => ?_⟩
        walk_at "rd"
        refine ⟨_, _, rfl, ?_⟩
        have PT : Pl 64 1000000 (.list (ts.map tokD)) := (toks_pl hz okts (by omega)).mono (by decide) (by decide)
        walk_at "rd"
        refine ⟨pa, z, ts, rfl, pat.same s9, hz, by omega, fun H10 s10 => ?_⟩
        have s90 := s9.trans s10
        obtain ⟨_, _, _, hi10⟩ := (pat.same s90).ins
        walk_at "rd"
        refine iteNeF ?_
        walk_at "rd"
        refine ⟨pa, _, _, rfl, hi10, pf_no _ _ _ (by decide +kernel) (by decide +kernel) (by decide +kernel), ?_⟩
        refine ⟨pa, z, ts, rfl, pat.same s90, fun l2 tvs2 H11 s11 hl2 hl21 htk2 => ?_⟩
        have s91 := s90.trans s11
        walk_at "rd"
        refine ⟨_, _, .lst (SqL.of hl21) htk2.dps, .lst (SqL.of (s91 _ _ hlt8)) (htk8.same s91).dps, PT.shaped, PT.shaped, ?_⟩
        rw [SeqAt.eqv_refl _ PT.lay]
        walk_at "rd"
        refine iteKN rfl ?_
        walk_at "rd"
        refine ⟨z, ts, rfl, hz, okts, by omega, hs1, hs2, fun a2 H12 s12 pat2 => ?_⟩
        have s92 := s91.trans s12
        have pat1 := pat.same s92
        obtain ⟨_, _, _, i1⟩ := pat1.ins
        obtain ⟨_, _, _, i2⟩ := pat2.ins
        walk_at "rd"
        refine ⟨a2, pa, _, _, _, _, rfl, rfl, i2, i1, .inl ⟨a2, pa, z, z, _, _, rfl, pat2, pat1, hz, hz, by omega, by omega, _, rfl, ?_⟩⟩
        rw [decide_eq_true (rfl : z = z), Bool.true_and, SeqAt.eqv_refl _ PT.lay]
        have b12 := bag_same b8 s92
        clear pat1 i1 i2 pat2 s92 s91 s90 s12 s11 s10 s9 htk2 hl21 hl2 hi10 b8 hlt8 htk8 pat
        walk_at "rd"
        refine iteKN rfl ?_
        walk_at "rd"
        refine ⟨b, c, 7, rfl, b12, by decide, by decide, fun m1' H13 k13 b13 m10 m11 => ?_⟩
        walk_at "rd"
        refine ⟨b, c, 7, rfl, b13, by decide, by decide, fun m2' H14 k14 b14 m20 m21 => ?_⟩
        walk_at "rd"
        intro pm hpm
        have npm : pm ≠ b := b14.neb hpm
        have b15 := bag_upd b14 hpm (o := .lst [.int m1', .int m2', .int 200])
        walk_at "rd"
        refine ⟨b, c, 3, rfl, b15, by decide, by decide, fun q H15 k15 b16 q0 q1 => ?_⟩
        obtain ⟨vm, hvm, vm0, vm200⟩ : ∃ v : Int, atI [V.int m1', V.int m2', V.int 200] q = some (V.int v) ∧ 0 ≤ v ∧ v ≤ 200 := by
          obtain ⟨v, hv, e⟩ := at3 (x := .int m1') (y := .int m2') (z := .int 200) q0 q1
          rcases e with rfl | rfl | rfl
          · exact ⟨m1', hv, m10, by omega⟩
          · exact ⟨m2', hv, m20, by omega⟩
          · exact ⟨200, hv, by decide, by decide⟩
        refine ⟨_, _, _, _, rfl, rfl, SqL.of (k15 _ _ npm upd_same), hvm, ?_⟩
        walk_at "rd"
        intro D hD
        have nDb := b16.neb hD
        have nDc := b16.nec hD
        refine lc_range (lo := 0) (n := vm.toNat) (fun j Hx => BagAt Hx b c ∧ ∃ ys : List Str, Hx D = some (.lst (ys.map V.str)) ∧ ys.length = j ∧ ∀ y ∈ ys, nameB y = true) ?_ ?_ ?_
        · exact ⟨bag_upd b16 hD, [], upd_same, rfl, fun _ h => nomatch h⟩
        · rintro j Hx hj ⟨bx, ys, hDx, hyl, hyn⟩
          walk_at "rd"
          refine ⟨b, c, 16, rfl, bx, by decide, by decide, fun lw ws H16 k16 b17 hlw nlw hlw1 hwl ⟨rr, hr16, hws⟩ => ?_⟩
          have hDx6 := k16 _ _ nDb hDx
          walk_at "rd"
          refine ⟨b, c, 16, rfl, b17, by decide, by decide, fun q H17 k17 b18 q0 q1 => ?_⟩
          have hD7 := k17 _ _ nDb hDx6
          have hlw7 := k17 _ _ nlw hlw1
          obtain ⟨y, hy⟩ : ∃ y, ws[q.toNat]? = some y := ⟨_, List.getElem?_eq_getElem (show q.toNat < ws.length by rw [hwl]; show _ < 16; omega)⟩
          have hyb : nameB y = true := by
            have hm := List.mem_of_getElem? hy
            rw [hws] at hm
            have hm := List.mem_of_mem_take hm
            rcases List.mem_append.mp hm with h | h
            · exact menu_names y (List.mem_of_mem_drop h)
            · exact menu_names y (List.mem_of_mem_take h)
          have hat : atI (ws.map V.str) q = some (.str y) := by
            unfold atI ixN
            rw [if_pos (by omega), if_pos (by rw [List.length_map, hwl]; show q < 16; omega), Option.bind_some, List.getElem?_map, hy]
            rfl
          refine ⟨_, _, _, _, rfl, rfl, SqL.of hlw7, hat, ?_⟩
          refine ⟨_, hD7, szl (by rw [List.length_map, hyl]; omega), bag_put (xs := ys.map V.str) b18 nDb nDc, ys ++ [y], by rw [List.map_append]; exact upd_same, by rw [List.length_append, hyl]; rfl, fun u hu => (List.mem_append.mp hu).elim (hyn u) fun h => by rw [List.mem_singleton.mp h]; exact hyb⟩
        · rintro Hx ⟨bx, ys, hDx, hyl, hyn⟩
          have hyl : ys.length ≤ 200 := by omega
          have hyk : ∀ y ∈ ys, PyData.strOk y = true ∧ y.length ≤ 8 ∧ y.length ≤ 100 := fun y h => by
            have q := hyn y h
            unfold nameB at q
            simp only [Bool.and_eq_true, decide_eq_true_eq] at q
            refine ⟨cln_iff.mpr fun c hc => ?_, q.1.2, by omega⟩
            have := List.all_eq_true.mp q.2 c hc
            unfold letB at this
            rw [Bool.and_eq_true, decide_eq_true_eq, decide_eq_true_eq] at this
            omega
          have PY : Pl 64 1000000 (.list (ys.map PyData.str)) := (pl_strs (fun y h => ⟨(hyk y h).1, by have := (hyk y h).2.1; omega⟩) (by omega)).mono (by decide) (by decide)
          have P0 : Pl 64 1000000 (.list []) := (PlAll.nil (n := 0) (w := 0)).list.mono (by decide) (by decide)
          have hsum : (ys.map (·.length)).sum + ys.length * (" " : Str).length ≤ 16777216 := by
            have e : ∀ {us : List Str}, (∀ u ∈ us, u.length ≤ 8) → (us.map (·.length)).sum ≤ us.length * 8 := fun {us} hu => by
              induction us with
              | nil => simp
              | cons u us ih =>
                have h1 := hu u List.mem_cons_self
                have h2 := ih fun v hv => hu v (List.mem_cons_of_mem _ hv)
                simp only [List.map_cons, List.sum_cons, List.length_cons]
                omega
            have h1 := e fun u hu => (hyk u hu).2.1
            have e1 : (" " : Str).length = 1 := rfl
            rw [e1]
            omega
          walk_at "rd"
          refine ⟨D, _, rfl, .inl (SqL.of hDx), fun lh hlh => ?_⟩
          have sh := same_new (o := .lst (ys.map V.str)) hlh
          walk_at "rd"
          intro q hq
          have sq := same_new (o := .lst []) hq
          refine ⟨_, _, .lst (SqL.of ((sh.trans sq) _ _ hDx)) (dps_strs ys), .lst (SqL.of upd_same) .nil, PY.shaped, P0.shaped, ?_⟩
          by_cases e : ys = []
          · have er : rowT ys = "-" := if_pos e
            rw [show PyData.eqv (.list (ys.map PyData.str)) (.list []) = true by rw [e]; exact SeqAt.eqv_refl _ P0.lay]
            walk_at "rd"
            refine iteKN rfl ?_
            walk_at "rd"
            rw [← er]
            walk_at "rd"
            refine ⟨_, _, rfl, ?_⟩
            walk_at "rd"
            refine ⟨lh, ys, rfl, SqL.of (sq _ _ upd_same), by omega, fun y h => (hyk y h).2.2, ?_⟩
            rw [show (if ys = [] then ("-" : Str) else Txt.join " " ys) = rowT ys from rfl]
            walk_at "rd"
            refine iteNeF ?_
            walk_at "rd"
            refine ⟨_, _, .lst (SqL.of (sq _ _ upd_same)) (dps_strs ys), .lst (SqL.of ((sh.trans sq) _ _ hDx)) (dps_strs ys), PY.shaped, PY.shaped, ?_⟩
            rw [SeqAt.eqv_refl _ PY.lay]
            walk_at "rd"
            refine iteKN rfl ?_
            have hD9 := (sh.trans sq) _ _ hDx
            have b9 := bag_same bx (sh.trans sq)
            walk_at "rd"
            refine for_range (lo := 0) (n := 2) (fun j σ H' => BagAt H' b c ∧ H' D = some (.lst (ys.map V.str)) ∧ ∃ y11 y12 : Option V, σ = [some (.ref a), some (.ref b), some (.int (0 + i)), some (.str z), some (.ref lt), some (.ref pa), some (.str (Txt.join " " (ts.map wordT))), some (.int vm), some (.ref D), some (.ref lh), some (.str (rowT ys)), y11, y12, x13]) ?_ ?_ ?_
            · exact ⟨b9, hD9, _, _, rfl⟩
            · rintro j σ H' hj ⟨b10, hD10, y11, y12, rfl⟩
              walk_at "rd"
              intro l H18 s18 hl hl1
              walk_at "rd"
              refine ⟨_, _, _, rfl, .lst (SqL.of hl1) (dps_strs ys), .lst (SqL.of (s18 _ _ hD10)) (dps_strs ys), PY, ?_⟩
              walk_at "rd"
              refine iteKN rfl ?_
              walk_at "rd"
              refine ⟨l, ys.map V.str, .str "a", rfl, rfl, hl1, szt (by rw [List.length_map]; omega), ?_⟩
              have b18 := bag_same b10 s18
              exact ⟨bag_put (xs := ys.map V.str) b18 (b10.neb hl) (b10.nec hl), (upd_ne (ne_of_none hD10 hl)).trans (s18 _ _ hD10), _, _, rfl⟩
            · rintro σ H' ⟨b10, hD10, y11, y12, rfl⟩
              exact ⟨b10, _, _, _, _, _, _, _, _, _, _, _, _, rfl⟩
          · have er : rowT ys = Txt.join " " ys := if_neg e
            rw [eqv_nilS e]
            walk_at "rd"
            refine iteKY rfl ?_
            walk_at "rd"
            refine ⟨⟨_, rfl⟩, ?_⟩
            walk_at "rd"
            refine ⟨" ", D, ys, rfl, rfl, .inl (SqL.of ((sh.trans sq) _ _ hDx)), hsum, ?_⟩
            rw [← er]
            walk_at "rd"
            refine ⟨_, _, rfl, ?_⟩
            walk_at "rd"
            refine ⟨lh, ys, rfl, SqL.of (sq _ _ upd_same), by omega, fun y h => (hyk y h).2.2, ?_⟩
            rw [show (if ys = [] then ("-" : Str) else Txt.join " " ys) = rowT ys from rfl]
            walk_at "rd"
            refine iteNeF ?_
            walk_at "rd"
            refine ⟨_, _, .lst (SqL.of (sq _ _ upd_same)) (dps_strs ys), .lst (SqL.of ((sh.trans sq) _ _ hDx)) (dps_strs ys), PY.shaped, PY.shaped, ?_⟩
            rw [SeqAt.eqv_refl _ PY.lay]
            walk_at "rd"
            refine iteKN rfl ?_
            have hD9 := (sh.trans sq) _ _ hDx
            have b9 := bag_same bx (sh.trans sq)
            walk_at "rd"
            refine for_range (lo := 0) (n := 2) (fun j σ H' => BagAt H' b c ∧ H' D = some (.lst (ys.map V.str)) ∧ ∃ y11 y12 : Option V, σ = [some (.ref a), some (.ref b), some (.int (0 + i)), some (.str z), some (.ref lt), some (.ref pa), some (.str (Txt.join " " (ts.map wordT))), some (.int vm), some (.ref D), some (.ref lh), some (.str (rowT ys)), y11, y12, x13]) ?_ ?_ ?_
            · exact ⟨b9, hD9, _, _, rfl⟩
            · rintro j σ H' hj ⟨b10, hD10, y11, y12, rfl⟩
              walk_at "rd"
              intro l H18 s18 hl hl1
              walk_at "rd"
              refine ⟨_, _, _, rfl, .lst (SqL.of hl1) (dps_strs ys), .lst (SqL.of (s18 _ _ hD10)) (dps_strs ys), PY, ?_⟩
              walk_at "rd"
              refine iteKN rfl ?_
              walk_at "rd"
              refine ⟨l, ys.map V.str, .str "a", rfl, rfl, hl1, szt (by rw [List.length_map]; omega), ?_⟩
              have b18 := bag_same b10 s18
              exact ⟨bag_put (xs := ys.map V.str) b18 (b10.neb hl) (b10.nec hl), (upd_ne (ne_of_none hD10 hl)).trans (s18 _ _ hD10), _, _, rfl⟩
            · rintro σ H' ⟨b10, hD10, y11, y12, rfl⟩
              exact ⟨b10, _, _, _, _, _, _, _, _, _, _, _, _, rfl⟩
    · rintro σ H2 ⟨b2, x2, x3, x4, x5, x6, x7, x8, x9, x10, x11, x12, x13, rfl⟩
      walk_at "rd"
      exact k H2
end
end
theorem all_mk {l : PySem.W.OpenLaw} {w : World} {K : PySem.W.Frag} {h : Heap} {mg : Str → Option Value} {fa c_Piece c_NoText f_ascends f_is_text f_is_choice f_is_integer f_is_within f_is_distance f_is_token f_size f_are_tokens f_places_of f_are_letters f_is_signs f_Piece_init f_Piece_eq f_Piece_tokens f_law_alike f_law_bag f_law_take f_law_choice f_law_word f_law_free_token f_law_size f_law_wide f_law_free_tokens f_law_show_token f_law_show f_law_signs f_law_words f_NoText_init f_check_one_line f_check_string f_only_line f_word_number f_any_token f_word_token f_words_piece f_read_piece f_is_name f_read_row f_word f_show_piece f_show_row f_law : Addr} (X : K.In h) (G : h.Ns mainGlobals mg) (hfa : mg "law" = some (.ref fa))
    {od0 an0 od1 an1 od2 an2 od3 an3 od4 an4 od5 an5 od6 an6 od7 an7 od8 an8 od9 an9 od10 an10 od11 an11 od12 an12 od13 an13 od14 an14 od15 an15 od16 an16 od17 an17 od18 an18 od19 an19 od20 an20 od21 an21 od22 an22 od23 an23 od24 an24 od25 an25 od26 an26 od27 an27 od28 an28 od29 an29 od30 an30 od31 an31 od32 an32 od33 an33 od34 an34 od35 an35 od36 an36 od37 an37 od38 an38 od39 an39 od40 an40 od41 an41 od42 an42 : Option Addr} {sl0 sl1 sl2 sl3 sl4 sl5 sl6 sl7 sl8 sl9 sl10 sl11 sl12 sl13 sl14 sl15 sl16 sl17 sl18 sl19 sl20 sl21 sl22 sl23 sl24 sl25 sl26 sl27 sl28 sl29 sl30 sl31 sl32 sl33 sl34 sl35 sl36 sl37 sl38 sl39 sl40 sl41 sl42 : Array (Option Value)} {oc0 kV0 dc0 pm0 cd0 ct0 oc1 kV1 dc1 pm1 cd1 ct1 oc2 kV2 dc2 pm2 cd2 ct2 oc3 kV3 dc3 pm3 cd3 ct3 oc4 kV4 dc4 pm4 cd4 ct4 oc5 kV5 dc5 pm5 cd5 ct5 oc6 kV6 dc6 pm6 cd6 ct6 oc7 kV7 dc7 pm7 cd7 ct7 oc8 kV8 dc8 pm8 cd8 ct8 oc9 kV9 dc9 pm9 cd9 ct9 oc10 kV10 dc10 pm10 cd10 ct10 oc11 kV11 dc11 pm11 cd11 ct11 oc12 kV12 dc12 pm12 cd12 ct12 oc13 kV13 dc13 pm13 cd13 ct13 oc14 kV14 dc14 pm14 cd14 ct14 oc15 kV15 dc15 pm15 cd15 ct15 oc16 kV16 dc16 pm16 cd16 ct16 oc17 kV17 dc17 pm17 cd17 ct17 oc18 kV18 dc18 pm18 cd18 ct18 oc19 kV19 dc19 pm19 cd19 ct19 oc20 kV20 dc20 pm20 cd20 ct20 oc21 kV21 dc21 pm21 cd21 ct21 oc22 kV22 dc22 pm22 cd22 ct22 oc23 kV23 dc23 pm23 cd23 ct23 oc24 kV24 dc24 pm24 cd24 ct24 oc25 kV25 dc25 pm25 cd25 ct25 oc26 kV26 dc26 pm26 cd26 ct26 oc27 kV27 dc27 pm27 cd27 ct27 oc28 kV28 dc28 pm28 cd28 ct28 oc29 kV29 dc29 pm29 cd29 ct29 oc30 kV30 dc30 pm30 cd30 ct30 oc31 kV31 dc31 pm31 cd31 ct31 oc32 kV32 dc32 pm32 cd32 ct32 oc33 kV33 dc33 pm33 cd33 ct33 oc34 kV34 dc34 pm34 cd34 ct34 oc35 kV35 dc35 pm35 cd35 ct35 oc36 kV36 dc36 pm36 cd36 ct36 oc37 kV37 dc37 pm37 cd37 ct37 oc38 kV38 dc38 pm38 cd38 ct38 oc39 kV39 dc39 pm39 cd39 ct39 oc40 kV40 dc40 pm40 cd40 ct40 oc41 kV41 dc41 pm41 cd41 ct41 oc42 kV42 dc42 pm42 cd42 ct42 : Value} {tc_Piece_MOST t_MOST_DIGITS t_MOST_DISTANCE t_MOST_LETTERS t_MOST_SIGNS t_MOST_SIZE t_NO_NAMES : Tok} {nmNoText qnNoText : Str} {NNoText : Addr} {bsNoText bmNoText subNoText : List Value} {snNoText : List Str} {abNoText : Bool} {coNoText : Option Bool} {ddNoText : Option Addr} {kaNoText kbNoText kcNoText kdNoText keNoText : Option Value}
    (aC_Piece : PySem.W.nsIn K mainGlobals "Piece" = some (some (.ref c_Piece)))
    (pg_Piece : PySem.W.plainGet K c_Piece Str.empty = true)
    (hd_Piece : PySem.W.hasDictIn K c_Piece = true)
    (po_Piece : PySem.W.plainOver K c_Piece = true)
    (sa_Piece : PySem.W.findIn K (.ref c_Piece) "__setattr__" = some (some (.builtin "object.__setattr__")))
    (kc_Piece : PySem.W.keepIn K (.ref c_Piece) = true)
    (aC_NoText : PySem.W.nsIn K mainGlobals "NoText" = some (some (.ref c_NoText)))
    (xb_NoText : PySem.W.subIn K (.ref c_NoText) (.type "BaseException") = some true)
    (xt_NoText : PySem.W.typeIn K (.ref c_NoText) = some (.type "type"))
    (xk_NoText : PySem.W.keepIn K (.ref c_NoText) = true)
    (xd_NoText : PySem.W.hasDictIn K c_NoText = true)
    (xL_NoText : K.lookup c_NoText = some (excClassObj nmNoText qnNoText c_NoText NNoText bsNoText bmNoText true snNoText subNoText abNoText coNoText ddNoText kaNoText kbNoText kcNoText kdNoText keNoText "ValueError.__new__"))
    (rv_NoText : PySem.HandSPX.refsVE bmNoText = true)
    (xs_NoText : PySem.W.findIn K (.ref c_NoText) "__setattr__" = some (some (.builtin "object.__setattr__")))
    (oi_NoText : PySem.W.findIn K (.ref c_NoText) "__init__" = some (some (.ref f_NoText_init)))
    (ot_NoText : PySem.W.typeIn K (.ref f_NoText_init) = some (.type "function"))
    (nf_NoText_at : PySem.W.findIn K (.ref c_NoText) "at" = some none)
    (a0 : PySem.W.nsIn K mainGlobals "_ascends" = some (some (.ref f_ascends)))
    (l0 : K.lookup f_ascends = some ⟨oc0, od0, .func (PySem.W.fnOf "_ascends" "_ascends" (defArgs s_ascends) (defBody s_ascends) (defScope s_ascends) .none kV0 dc0 pm0 an0 cd0 ct0), sl0⟩)
    (e0 : PySem.W.codeIn K cd0 "_ascends" = true)
    (k0 : PySem.W.keepIn K (.ref f_ascends) = true)
    (a1 : PySem.W.nsIn K mainGlobals "is_text" = some (some (.ref f_is_text)))
    (l1 : K.lookup f_is_text = some ⟨oc1, od1, .func (PySem.W.fnOf "is_text" "is_text" (defArgs s_is_text) (defBody s_is_text) (defScope s_is_text) .none kV1 dc1 pm1 an1 cd1 ct1), sl1⟩)
    (e1 : PySem.W.codeIn K cd1 "is_text" = true)
    (k1 : PySem.W.keepIn K (.ref f_is_text) = true)
    (a2 : PySem.W.nsIn K mainGlobals "is_choice" = some (some (.ref f_is_choice)))
    (l2 : K.lookup f_is_choice = some ⟨oc2, od2, .func (PySem.W.fnOf "is_choice" "is_choice" (defArgs s_is_choice) (defBody s_is_choice) (defScope s_is_choice) .none kV2 dc2 pm2 an2 cd2 ct2), sl2⟩)
    (e2 : PySem.W.codeIn K cd2 "is_choice" = true)
    (k2 : PySem.W.keepIn K (.ref f_is_choice) = true)
    (a3 : PySem.W.nsIn K mainGlobals "is_integer" = some (some (.ref f_is_integer)))
    (l3 : K.lookup f_is_integer = some ⟨oc3, od3, .func (PySem.W.fnOf "is_integer" "is_integer" (defArgs s_is_integer) (defBody s_is_integer) (defScope s_is_integer) .none kV3 dc3 pm3 an3 cd3 ct3), sl3⟩)
    (e3 : PySem.W.codeIn K cd3 "is_integer" = true)
    (k3 : PySem.W.keepIn K (.ref f_is_integer) = true)
    (a4 : PySem.W.nsIn K mainGlobals "is_within" = some (some (.ref f_is_within)))
    (l4 : K.lookup f_is_within = some ⟨oc4, od4, .func (PySem.W.fnOf "is_within" "is_within" (defArgs s_is_within) (defBody s_is_within) (defScope s_is_within) .none kV4 dc4 pm4 an4 cd4 ct4), sl4⟩)
    (e4 : PySem.W.codeIn K cd4 "is_within" = true)
    (k4 : PySem.W.keepIn K (.ref f_is_within) = true)
    (a5 : PySem.W.nsIn K mainGlobals "is_distance" = some (some (.ref f_is_distance)))
    (l5 : K.lookup f_is_distance = some ⟨oc5, od5, .func (PySem.W.fnOf "is_distance" "is_distance" (defArgs s_is_distance) (defBody s_is_distance) (defScope s_is_distance) .none kV5 dc5 pm5 an5 cd5 ct5), sl5⟩)
    (e5 : PySem.W.codeIn K cd5 "is_distance" = true)
    (k5 : PySem.W.keepIn K (.ref f_is_distance) = true)
    (a6 : PySem.W.nsIn K mainGlobals "is_token" = some (some (.ref f_is_token)))
    (l6 : K.lookup f_is_token = some ⟨oc6, od6, .func (PySem.W.fnOf "is_token" "is_token" (defArgs s_is_token) (defBody s_is_token) (defScope s_is_token) .none kV6 dc6 pm6 an6 cd6 ct6), sl6⟩)
    (e6 : PySem.W.codeIn K cd6 "is_token" = true)
    (k6 : PySem.W.keepIn K (.ref f_is_token) = true)
    (a7 : PySem.W.nsIn K mainGlobals "size" = some (some (.ref f_size)))
    (l7 : K.lookup f_size = some ⟨oc7, od7, .func (PySem.W.fnOf "size" "size" (defArgs s_size) (defBody s_size) (defScope s_size) .none kV7 dc7 pm7 an7 cd7 ct7), sl7⟩)
    (e7 : PySem.W.codeIn K cd7 "size" = true)
    (k7 : PySem.W.keepIn K (.ref f_size) = true)
    (a8 : PySem.W.nsIn K mainGlobals "_are_tokens" = some (some (.ref f_are_tokens)))
    (l8 : K.lookup f_are_tokens = some ⟨oc8, od8, .func (PySem.W.fnOf "_are_tokens" "_are_tokens" (defArgs s_are_tokens) (defBody s_are_tokens) (defScope s_are_tokens) .none kV8 dc8 pm8 an8 cd8 ct8), sl8⟩)
    (e8 : PySem.W.codeIn K cd8 "_are_tokens" = true)
    (k8 : PySem.W.keepIn K (.ref f_are_tokens) = true)
    (a9 : PySem.W.nsIn K mainGlobals "_places_of" = some (some (.ref f_places_of)))
    (l9 : K.lookup f_places_of = some ⟨oc9, od9, .func (PySem.W.fnOf "_places_of" "_places_of" (defArgs s_places_of) (defBody s_places_of) (defScope s_places_of) .none kV9 dc9 pm9 an9 cd9 ct9), sl9⟩)
    (e9 : PySem.W.codeIn K cd9 "_places_of" = true)
    (k9 : PySem.W.keepIn K (.ref f_places_of) = true)
    (a10 : PySem.W.nsIn K mainGlobals "_are_letters" = some (some (.ref f_are_letters)))
    (l10 : K.lookup f_are_letters = some ⟨oc10, od10, .func (PySem.W.fnOf "_are_letters" "_are_letters" (defArgs s_are_letters) (defBody s_are_letters) (defScope s_are_letters) .none kV10 dc10 pm10 an10 cd10 ct10), sl10⟩)
    (e10 : PySem.W.codeIn K cd10 "_are_letters" = true)
    (k10 : PySem.W.keepIn K (.ref f_are_letters) = true)
    (a11 : PySem.W.nsIn K mainGlobals "is_signs" = some (some (.ref f_is_signs)))
    (l11 : K.lookup f_is_signs = some ⟨oc11, od11, .func (PySem.W.fnOf "is_signs" "is_signs" (defArgs s_is_signs) (defBody s_is_signs) (defScope s_is_signs) .none kV11 dc11 pm11 an11 cd11 ct11), sl11⟩)
    (e11 : PySem.W.codeIn K cd11 "is_signs" = true)
    (k11 : PySem.W.keepIn K (.ref f_is_signs) = true)
    (a12 : PySem.W.findIn K (.ref c_Piece) "__init__" = some (some (.ref f_Piece_init)))
    (i12 : PySem.W.isFn K (.ref f_Piece_init) = true)
    (l12 : K.lookup f_Piece_init = some ⟨oc12, od12, .func (PySem.W.fnOf "__init__" "Piece.__init__" (defArgs s_Piece_init) (defBody s_Piece_init) (defScope s_Piece_init) .none kV12 dc12 pm12 an12 cd12 ct12), sl12⟩)
    (e12 : PySem.W.codeIn K cd12 "Piece.__init__" = true)
    (k12 : PySem.W.keepIn K (.ref f_Piece_init) = true)
    (mk_Piece : PySem.W.makesIn K c_Piece = true)
    (a13 : PySem.W.findIn K (.ref c_Piece) "__eq__" = some (some (.ref f_Piece_eq)))
    (i13 : PySem.W.isFn K (.ref f_Piece_eq) = true)
    (l13 : K.lookup f_Piece_eq = some ⟨oc13, od13, .func (PySem.W.fnOf "__eq__" "Piece.__eq__" (defArgs s_Piece_eq) (defBody s_Piece_eq) (defScope s_Piece_eq) .none kV13 dc13 pm13 an13 cd13 ct13), sl13⟩)
    (e13 : PySem.W.codeIn K cd13 "Piece.__eq__" = true)
    (k13 : PySem.W.keepIn K (.ref f_Piece_eq) = true)
    (a14 : PySem.W.findIn K (.ref c_Piece) "tokens" = some (some (.ref f_Piece_tokens)))
    (i14 : PySem.W.isFn K (.ref f_Piece_tokens) = true)
    (l14 : K.lookup f_Piece_tokens = some ⟨oc14, od14, .func (PySem.W.fnOf "tokens" "Piece.tokens" (defArgs s_Piece_tokens) (defBody s_Piece_tokens) (defScope s_Piece_tokens) .none kV14 dc14 pm14 an14 cd14 ct14), sl14⟩)
    (e14 : PySem.W.codeIn K cd14 "Piece.tokens" = true)
    (k14 : PySem.W.keepIn K (.ref f_Piece_tokens) = true)
    (a15 : PySem.W.nsIn K mainGlobals "_law_alike" = some (some (.ref f_law_alike)))
    (l15 : K.lookup f_law_alike = some ⟨oc15, od15, .func (PySem.W.fnOf "_law_alike" "_law_alike" (defArgs s_law_alike) (defBody s_law_alike) (defScope s_law_alike) .none kV15 dc15 pm15 an15 cd15 ct15), sl15⟩)
    (e15 : PySem.W.codeIn K cd15 "_law_alike" = true)
    (k15 : PySem.W.keepIn K (.ref f_law_alike) = true)
    (a16 : PySem.W.nsIn K mainGlobals "_law_bag" = some (some (.ref f_law_bag)))
    (l16 : K.lookup f_law_bag = some ⟨oc16, od16, .func (PySem.W.fnOf "_law_bag" "_law_bag" (defArgs s_law_bag) (defBody s_law_bag) (defScope s_law_bag) .none kV16 dc16 pm16 an16 cd16 ct16), sl16⟩)
    (e16 : PySem.W.codeIn K cd16 "_law_bag" = true)
    (k16 : PySem.W.keepIn K (.ref f_law_bag) = true)
    (a17 : PySem.W.nsIn K mainGlobals "_law_take" = some (some (.ref f_law_take)))
    (l17 : K.lookup f_law_take = some ⟨oc17, od17, .func (PySem.W.fnOf "_law_take" "_law_take" (defArgs s_law_take) (defBody s_law_take) (defScope s_law_take) .none kV17 dc17 pm17 an17 cd17 ct17), sl17⟩)
    (e17 : PySem.W.codeIn K cd17 "_law_take" = true)
    (k17 : PySem.W.keepIn K (.ref f_law_take) = true)
    (a18 : PySem.W.nsIn K mainGlobals "_law_choice" = some (some (.ref f_law_choice)))
    (l18 : K.lookup f_law_choice = some ⟨oc18, od18, .func (PySem.W.fnOf "_law_choice" "_law_choice" (defArgs s_law_choice) (defBody s_law_choice) (defScope s_law_choice) .none kV18 dc18 pm18 an18 cd18 ct18), sl18⟩)
    (e18 : PySem.W.codeIn K cd18 "_law_choice" = true)
    (k18 : PySem.W.keepIn K (.ref f_law_choice) = true)
    (a19 : PySem.W.nsIn K mainGlobals "_law_word" = some (some (.ref f_law_word)))
    (l19 : K.lookup f_law_word = some ⟨oc19, od19, .func (PySem.W.fnOf "_law_word" "_law_word" (defArgs s_law_word) (defBody s_law_word) (defScope s_law_word) .none kV19 dc19 pm19 an19 cd19 ct19), sl19⟩)
    (e19 : PySem.W.codeIn K cd19 "_law_word" = true)
    (k19 : PySem.W.keepIn K (.ref f_law_word) = true)
    (a20 : PySem.W.nsIn K mainGlobals "_law_free_token" = some (some (.ref f_law_free_token)))
    (l20 : K.lookup f_law_free_token = some ⟨oc20, od20, .func (PySem.W.fnOf "_law_free_token" "_law_free_token" (defArgs s_law_free_token) (defBody s_law_free_token) (defScope s_law_free_token) .none kV20 dc20 pm20 an20 cd20 ct20), sl20⟩)
    (e20 : PySem.W.codeIn K cd20 "_law_free_token" = true)
    (k20 : PySem.W.keepIn K (.ref f_law_free_token) = true)
    (a21 : PySem.W.nsIn K mainGlobals "_law_size" = some (some (.ref f_law_size)))
    (l21 : K.lookup f_law_size = some ⟨oc21, od21, .func (PySem.W.fnOf "_law_size" "_law_size" (defArgs s_law_size) (defBody s_law_size) (defScope s_law_size) .none kV21 dc21 pm21 an21 cd21 ct21), sl21⟩)
    (e21 : PySem.W.codeIn K cd21 "_law_size" = true)
    (k21 : PySem.W.keepIn K (.ref f_law_size) = true)
    (a22 : PySem.W.nsIn K mainGlobals "_law_wide" = some (some (.ref f_law_wide)))
    (l22 : K.lookup f_law_wide = some ⟨oc22, od22, .func (PySem.W.fnOf "_law_wide" "_law_wide" (defArgs s_law_wide) (defBody s_law_wide) (defScope s_law_wide) .none kV22 dc22 pm22 an22 cd22 ct22), sl22⟩)
    (e22 : PySem.W.codeIn K cd22 "_law_wide" = true)
    (k22 : PySem.W.keepIn K (.ref f_law_wide) = true)
    (a23 : PySem.W.nsIn K mainGlobals "_law_free_tokens" = some (some (.ref f_law_free_tokens)))
    (l23 : K.lookup f_law_free_tokens = some ⟨oc23, od23, .func (PySem.W.fnOf "_law_free_tokens" "_law_free_tokens" (defArgs s_law_free_tokens) (defBody s_law_free_tokens) (defScope s_law_free_tokens) .none kV23 dc23 pm23 an23 cd23 ct23), sl23⟩)
    (e23 : PySem.W.codeIn K cd23 "_law_free_tokens" = true)
    (k23 : PySem.W.keepIn K (.ref f_law_free_tokens) = true)
    (a24 : PySem.W.nsIn K mainGlobals "_law_show_token" = some (some (.ref f_law_show_token)))
    (l24 : K.lookup f_law_show_token = some ⟨oc24, od24, .func (PySem.W.fnOf "_law_show_token" "_law_show_token" (defArgs s_law_show_token) (defBody s_law_show_token) (defScope s_law_show_token) .none kV24 dc24 pm24 an24 cd24 ct24), sl24⟩)
    (e24 : PySem.W.codeIn K cd24 "_law_show_token" = true)
    (k24 : PySem.W.keepIn K (.ref f_law_show_token) = true)
    (a25 : PySem.W.nsIn K mainGlobals "_law_show" = some (some (.ref f_law_show)))
    (l25 : K.lookup f_law_show = some ⟨oc25, od25, .func (PySem.W.fnOf "_law_show" "_law_show" (defArgs s_law_show) (defBody s_law_show) (defScope s_law_show) .none kV25 dc25 pm25 an25 cd25 ct25), sl25⟩)
    (e25 : PySem.W.codeIn K cd25 "_law_show" = true)
    (k25 : PySem.W.keepIn K (.ref f_law_show) = true)
    (a26 : PySem.W.nsIn K mainGlobals "_law_signs" = some (some (.ref f_law_signs)))
    (l26 : K.lookup f_law_signs = some ⟨oc26, od26, .func (PySem.W.fnOf "_law_signs" "_law_signs" (defArgs s_law_signs) (defBody s_law_signs) (defScope s_law_signs) .none kV26 dc26 pm26 an26 cd26 ct26), sl26⟩)
    (e26 : PySem.W.codeIn K cd26 "_law_signs" = true)
    (k26 : PySem.W.keepIn K (.ref f_law_signs) = true)
    (a27 : PySem.W.nsIn K mainGlobals "_law_words" = some (some (.ref f_law_words)))
    (l27 : K.lookup f_law_words = some ⟨oc27, od27, .func (PySem.W.fnOf "_law_words" "_law_words" (defArgs s_law_words) (defBody s_law_words) (defScope s_law_words) .none kV27 dc27 pm27 an27 cd27 ct27), sl27⟩)
    (e27 : PySem.W.codeIn K cd27 "_law_words" = true)
    (k27 : PySem.W.keepIn K (.ref f_law_words) = true)
    (l28 : K.lookup f_NoText_init = some ⟨oc28, od28, .func (PySem.W.fnOf "__init__" "NoText.__init__" (defArgs s_NoText_init) (defBody s_NoText_init) (defScope s_NoText_init) .none kV28 dc28 pm28 an28 cd28 ct28), sl28⟩)
    (e28 : PySem.W.codeIn K cd28 "NoText.__init__" = true)
    (k28 : PySem.W.keepIn K (.ref f_NoText_init) = true)
    (a29 : PySem.W.nsIn K mainGlobals "_check_one_line" = some (some (.ref f_check_one_line)))
    (l29 : K.lookup f_check_one_line = some ⟨oc29, od29, .func (PySem.W.fnOf "_check_one_line" "_check_one_line" (defArgs s_check_one_line) (defBody s_check_one_line) (defScope s_check_one_line) .none kV29 dc29 pm29 an29 cd29 ct29), sl29⟩)
    (e29 : PySem.W.codeIn K cd29 "_check_one_line" = true)
    (k29 : PySem.W.keepIn K (.ref f_check_one_line) = true)
    (a30 : PySem.W.nsIn K mainGlobals "_check_string" = some (some (.ref f_check_string)))
    (l30 : K.lookup f_check_string = some ⟨oc30, od30, .func (PySem.W.fnOf "_check_string" "_check_string" (defArgs s_check_string) (defBody s_check_string) (defScope s_check_string) .none kV30 dc30 pm30 an30 cd30 ct30), sl30⟩)
    (e30 : PySem.W.codeIn K cd30 "_check_string" = true)
    (k30 : PySem.W.keepIn K (.ref f_check_string) = true)
    (a31 : PySem.W.nsIn K mainGlobals "_only_line" = some (some (.ref f_only_line)))
    (l31 : K.lookup f_only_line = some ⟨oc31, od31, .func (PySem.W.fnOf "_only_line" "_only_line" (defArgs s_only_line) (defBody s_only_line) (defScope s_only_line) .none kV31 dc31 pm31 an31 cd31 ct31), sl31⟩)
    (e31 : PySem.W.codeIn K cd31 "_only_line" = true)
    (k31 : PySem.W.keepIn K (.ref f_only_line) = true)
    (a32 : PySem.W.nsIn K mainGlobals "word_number" = some (some (.ref f_word_number)))
    (l32 : K.lookup f_word_number = some ⟨oc32, od32, .func (PySem.W.fnOf "word_number" "word_number" (defArgs s_word_number) (defBody s_word_number) (defScope s_word_number) .none kV32 dc32 pm32 an32 cd32 ct32), sl32⟩)
    (e32 : PySem.W.codeIn K cd32 "word_number" = true)
    (k32 : PySem.W.keepIn K (.ref f_word_number) = true)
    (a33 : PySem.W.nsIn K mainGlobals "_any_token" = some (some (.ref f_any_token)))
    (l33 : K.lookup f_any_token = some ⟨oc33, od33, .func (PySem.W.fnOf "_any_token" "_any_token" (defArgs s_any_token) (defBody s_any_token) (defScope s_any_token) .none kV33 dc33 pm33 an33 cd33 ct33), sl33⟩)
    (e33 : PySem.W.codeIn K cd33 "_any_token" = true)
    (k33 : PySem.W.keepIn K (.ref f_any_token) = true)
    (a34 : PySem.W.nsIn K mainGlobals "_word_token" = some (some (.ref f_word_token)))
    (l34 : K.lookup f_word_token = some ⟨oc34, od34, .func (PySem.W.fnOf "_word_token" "_word_token" (defArgs s_word_token) (defBody s_word_token) (defScope s_word_token) .none kV34 dc34 pm34 an34 cd34 ct34), sl34⟩)
    (e34 : PySem.W.codeIn K cd34 "_word_token" = true)
    (k34 : PySem.W.keepIn K (.ref f_word_token) = true)
    (a35 : PySem.W.nsIn K mainGlobals "words_piece" = some (some (.ref f_words_piece)))
    (l35 : K.lookup f_words_piece = some ⟨oc35, od35, .func (PySem.W.fnOf "words_piece" "words_piece" (defArgs s_words_piece) (defBody s_words_piece) (defScope s_words_piece) .none kV35 dc35 pm35 an35 cd35 ct35), sl35⟩)
    (e35 : PySem.W.codeIn K cd35 "words_piece" = true)
    (k35 : PySem.W.keepIn K (.ref f_words_piece) = true)
    (a36 : PySem.W.nsIn K mainGlobals "read_piece" = some (some (.ref f_read_piece)))
    (l36 : K.lookup f_read_piece = some ⟨oc36, od36, .func (PySem.W.fnOf "read_piece" "read_piece" (defArgs s_read_piece) (defBody s_read_piece) (defScope s_read_piece) .none kV36 dc36 pm36 an36 cd36 ct36), sl36⟩)
    (e36 : PySem.W.codeIn K cd36 "read_piece" = true)
    (k36 : PySem.W.keepIn K (.ref f_read_piece) = true)
    (a37 : PySem.W.nsIn K mainGlobals "is_name" = some (some (.ref f_is_name)))
    (l37 : K.lookup f_is_name = some ⟨oc37, od37, .func (PySem.W.fnOf "is_name" "is_name" (defArgs s_is_name) (defBody s_is_name) (defScope s_is_name) .none kV37 dc37 pm37 an37 cd37 ct37), sl37⟩)
    (e37 : PySem.W.codeIn K cd37 "is_name" = true)
    (k37 : PySem.W.keepIn K (.ref f_is_name) = true)
    (a38 : PySem.W.nsIn K mainGlobals "read_row" = some (some (.ref f_read_row)))
    (l38 : K.lookup f_read_row = some ⟨oc38, od38, .func (PySem.W.fnOf "read_row" "read_row" (defArgs s_read_row) (defBody s_read_row) (defScope s_read_row) .none kV38 dc38 pm38 an38 cd38 ct38), sl38⟩)
    (e38 : PySem.W.codeIn K cd38 "read_row" = true)
    (k38 : PySem.W.keepIn K (.ref f_read_row) = true)
    (a39 : PySem.W.nsIn K mainGlobals "_word" = some (some (.ref f_word)))
    (l39 : K.lookup f_word = some ⟨oc39, od39, .func (PySem.W.fnOf "_word" "_word" (defArgs s_word) (defBody s_word) (defScope s_word) .none kV39 dc39 pm39 an39 cd39 ct39), sl39⟩)
    (e39 : PySem.W.codeIn K cd39 "_word" = true)
    (k39 : PySem.W.keepIn K (.ref f_word) = true)
    (a40 : PySem.W.nsIn K mainGlobals "show_piece" = some (some (.ref f_show_piece)))
    (l40 : K.lookup f_show_piece = some ⟨oc40, od40, .func (PySem.W.fnOf "show_piece" "show_piece" (defArgs s_show_piece) (defBody s_show_piece) (defScope s_show_piece) .none kV40 dc40 pm40 an40 cd40 ct40), sl40⟩)
    (e40 : PySem.W.codeIn K cd40 "show_piece" = true)
    (k40 : PySem.W.keepIn K (.ref f_show_piece) = true)
    (a41 : PySem.W.nsIn K mainGlobals "show_row" = some (some (.ref f_show_row)))
    (l41 : K.lookup f_show_row = some ⟨oc41, od41, .func (PySem.W.fnOf "show_row" "show_row" (defArgs s_show_row) (defBody s_show_row) (defScope s_show_row) .none kV41 dc41 pm41 an41 cd41 ct41), sl41⟩)
    (e41 : PySem.W.codeIn K cd41 "show_row" = true)
    (k41 : PySem.W.keepIn K (.ref f_show_row) = true)
    (a42 : PySem.W.nsIn K mainGlobals "law" = some (some (.ref f_law)))
    (l42 : K.lookup f_law = some ⟨oc42, od42, .func (PySem.W.fnOf "law" "law" (defArgs s_law) (defBody s_law) (defScope s_law) .none kV42 dc42 pm42 an42 cd42 ct42), sl42⟩)
    (e42 : PySem.W.codeIn K cd42 "law" = true)
    (k42 : PySem.W.keepIn K (.ref f_law) = true)
    (rd_Piece : PySem.W.readsIn K c_Piece (.type "type") = true)
    (ga_Piece : PySem.W.specialIn K (.ref c_Piece) "__getattribute__" = some (some (.builtin "type.__getattribute__")))
    (cv_Piece_MOST : PySem.W.findCls K (.ref c_Piece) (.type "type") "MOST" = some (.val (.int 40 tc_Piece_MOST)))
    (ic_Piece : PySem.W.isClsIn K c_Piece = true)
    (it_Piece : PySem.W.typeIn K (.ref c_Piece) = some (.type "type"))
    (ca_Piece : PySem.W.findIn K (.ref c_Piece) "__class__" = some (some (.builtin "object.__class__")))
    (cg_Piece : PySem.W.specialIn K (.builtin "object.__class__") "__get__" = some (some (.builtin "getset_descriptor.__get__")))
    (ct_Piece : PySem.W.takesIn K (.builtin "object.__class__") = some true)
    (mro_Piece : PySem.W.mroIn K c_Piece (.type "object") = some true)
    (ne_Piece : PySem.W.findIn K (.ref c_Piece) "__ne__" = some (some (.builtin "object.__ne__")))
    (na_Piece_places : PySem.W.findIn K (.ref c_Piece) "_places" = some none)
    (na_Piece_signs : PySem.W.findIn K (.ref c_Piece) "_signs" = some none)
    (na_Piece_tokens : PySem.W.findIn K (.ref c_Piece) "_tokens" = some none)
    (z_abs : PySem.W.nsIn K mainGlobals "abs" = some none)
    (z_all : PySem.W.nsIn K mainGlobals "all" = some none)
    (z_bool : PySem.W.nsIn K mainGlobals "bool" = some none)
    (z_int : PySem.W.nsIn K mainGlobals "int" = some none)
    (z_isinstance : PySem.W.nsIn K mainGlobals "isinstance" = some none)
    (z_len : PySem.W.nsIn K mainGlobals "len" = some none)
    (z_list : PySem.W.nsIn K mainGlobals "list" = some none)
    (z_min : PySem.W.nsIn K mainGlobals "min" = some none)
    (z_range : PySem.W.nsIn K mainGlobals "range" = some none)
    (z_repr : PySem.W.nsIn K mainGlobals "repr" = some none)
    (z_str : PySem.W.nsIn K mainGlobals "str" = some none)
    (z_sum : PySem.W.nsIn K mainGlobals "sum" = some none)
    (z_tuple : PySem.W.nsIn K mainGlobals "tuple" = some none)
    (z_zip : PySem.W.nsIn K mainGlobals "zip" = some none)
    (q_MOST_DIGITS : PySem.W.nsIn K mainGlobals "MOST_DIGITS" = some (some (.int 3 t_MOST_DIGITS)))
    (q_MOST_DISTANCE : PySem.W.nsIn K mainGlobals "MOST_DISTANCE" = some (some (.int 12 t_MOST_DISTANCE)))
    (q_MOST_LETTERS : PySem.W.nsIn K mainGlobals "MOST_LETTERS" = some (some (.int 8 t_MOST_LETTERS)))
    (q_MOST_SIGNS : PySem.W.nsIn K mainGlobals "MOST_SIGNS" = some (some (.int 6 t_MOST_SIGNS)))
    (q_MOST_SIZE : PySem.W.nsIn K mainGlobals "MOST_SIZE" = some (some (.int 40 t_MOST_SIZE)))
    (q_NO_NAMES : PySem.W.nsIn K mainGlobals "NO_NAMES" = some (some (.str "-" t_NO_NAMES)))
    : ∃ fd : FuncData, (∀ (s : Shared) (v : Value), BindsTo s fd ⟨[v], []⟩ [("_law_script", v)]) ∧ ∀ base : Heap, K.In base → base.Ns mainGlobals mg → FnG l.prog w K mg base 10 fa fd ["_law_script"] (sp_law K) := by
  have e := hfa.symm.trans (PySem.W.mg_of X G a42)
  cases e
  have F0 := fun_mk (st := s_ascends) l0 e0 k0
  have B0 := F0.binds (ps := ["text"]) fun _ _ _ _ _ _ us hl => match us, hl with | [_], _ => rfl
  have F1 := fun_mk (st := s_is_text) l1 e1 k1
  have B1 := F1.binds (ps := ["signs", "thing"]) fun _ _ _ _ _ _ us hl => match us, hl with | [_, _], _ => rfl
  have F2 := fun_mk (st := s_is_choice) l2 e2 k2
  have B2 := F2.binds (ps := ["signs", "thing"]) fun _ _ _ _ _ _ us hl => match us, hl with | [_, _], _ => rfl
  have F3 := fun_mk (st := s_is_integer) l3 e3 k3
  have B3 := F3.binds (ps := ["thing"]) fun _ _ _ _ _ _ us hl => match us, hl with | [_], _ => rfl
  have F4 := fun_mk (st := s_is_within) l4 e4 k4
  have B4 := F4.binds (ps := ["thing", "least", "most"]) fun _ _ _ _ _ _ us hl => match us, hl with | [_, _, _], _ => rfl
  have F5 := fun_mk (st := s_is_distance) l5 e5 k5
  have B5 := F5.binds (ps := ["thing"]) fun _ _ _ _ _ _ us hl => match us, hl with | [_], _ => rfl
  have F6 := fun_mk (st := s_is_token) l6 e6 k6
  have B6 := F6.binds (ps := ["signs", "thing"]) fun _ _ _ _ _ _ us hl => match us, hl with | [_, _], _ => rfl
  have F7 := fun_mk (st := s_size) l7 e7 k7
  have B7 := F7.binds (ps := ["token"]) fun _ _ _ _ _ _ us hl => match us, hl with | [_], _ => rfl
  have F8 := fun_mk (st := s_are_tokens) l8 e8 k8
  have B8 := F8.binds (ps := ["signs", "thing"]) fun _ _ _ _ _ _ us hl => match us, hl with | [_, _], _ => rfl
  have F9 := fun_mk (st := s_places_of) l9 e9 k9
  have B9 := F9.binds (ps := ["tokens"]) fun _ _ _ _ _ _ us hl => match us, hl with | [_], _ => rfl
  have F10 := fun_mk (st := s_are_letters) l10 e10 k10
  have B10 := F10.binds (ps := ["text"]) fun _ _ _ _ _ _ us hl => match us, hl with | [_], _ => rfl
  have F11 := fun_mk (st := s_is_signs) l11 e11 k11
  have B11 := F11.binds (ps := ["thing"]) fun _ _ _ _ _ _ us hl => match us, hl with | [_], _ => rfl
  have F12 := fun_mk (st := s_Piece_init) l12 e12 k12
  have B12 := F12.binds (ps := ["self", "signs", "tokens"]) fun _ _ _ _ _ _ us hl => match us, hl with | [_, _, _], _ => rfl
  have F13 := fun_mk (st := s_Piece_eq) l13 e13 k13
  have B13 := F13.binds (ps := ["self", "other"]) fun _ _ _ _ _ _ us hl => match us, hl with | [_, _], _ => rfl
  have F14 := fun_mk (st := s_Piece_tokens) l14 e14 k14
  have B14 := F14.binds (ps := ["self"]) fun _ _ _ _ _ _ us hl => match us, hl with | [_], _ => rfl
  have F15 := fun_mk (st := s_law_alike) l15 e15 k15
  have B15 := F15.binds (ps := ["_law_found", "_law_due"]) fun _ _ _ _ _ _ us hl => match us, hl with | [_, _], _ => rfl
  have F16 := fun_mk (st := s_law_bag) l16 e16 k16
  have B16 := F16.binds (ps := ["_law_script"]) fun _ _ _ _ _ _ us hl => match us, hl with | [_], _ => rfl
  have F17 := fun_mk (st := s_law_take) l17 e17 k17
  have B17 := F17.binds (ps := ["_law_bag_here", "_law_many"]) fun _ _ _ _ _ _ us hl => match us, hl with | [_, _], _ => rfl
  have F18 := fun_mk (st := s_law_choice) l18 e18 k18
  have B18 := F18.binds (ps := ["_law_bag_here", "_law_signs_here"]) fun _ _ _ _ _ _ us hl => match us, hl with | [_, _], _ => rfl
  have F19 := fun_mk (st := s_law_word) l19 e19 k19
  have B19 := F19.binds (ps := ["_law_bag_here", "_law_signs_here", "_law_many"]) fun _ _ _ _ _ _ us hl => match us, hl with | [_, _, _], _ => rfl
  have F20 := fun_mk (st := s_law_free_token) l20 e20 k20
  have B20 := F20.binds (ps := ["_law_bag_here", "_law_signs_here", "_law_room"]) fun _ _ _ _ _ _ us hl => match us, hl with | [_, _, _], _ => rfl
  have F21 := fun_mk (st := s_law_size) l21 e21 k21
  have B21 := F21.binds (ps := ["_law_token"]) fun _ _ _ _ _ _ us hl => match us, hl with | [_], _ => rfl
  have F22 := fun_mk (st := s_law_wide) l22 e22 k22
  have B22 := F22.binds (ps := ["_law_tokens"]) fun _ _ _ _ _ _ us hl => match us, hl with | [_], _ => rfl
  have F23 := fun_mk (st := s_law_free_tokens) l23 e23 k23
  have B23 := F23.binds (ps := ["_law_bag_here", "_law_signs_here", "_law_most"]) fun _ _ _ _ _ _ us hl => match us, hl with | [_, _, _], _ => rfl
  have F24 := fun_mk (st := s_law_show_token) l24 e24 k24
  have B24 := F24.binds (ps := ["_law_token"]) fun _ _ _ _ _ _ us hl => match us, hl with | [_], _ => rfl
  have F25 := fun_mk (st := s_law_show) l25 e25 k25
  have B25 := F25.binds (ps := ["_law_tokens"]) fun _ _ _ _ _ _ us hl => match us, hl with | [_], _ => rfl
  have F26 := fun_mk (st := s_law_signs) l26 e26 k26
  have B26 := F26.binds (ps := ["_law_bag_here"]) fun _ _ _ _ _ _ us hl => match us, hl with | [_], _ => rfl
  have F27 := fun_mk (st := s_law_words) l27 e27 k27
  have B27 := F27.binds (ps := ["_law_bag_here", "_law_many"]) fun _ _ _ _ _ _ us hl => match us, hl with | [_, _], _ => rfl
  have F28 := fun_mk (st := s_NoText_init) l28 e28 k28
  have B28 := F28.binds (ps := ["self", "at"]) fun _ _ _ _ _ _ us hl => match us, hl with | [_, _], _ => rfl
  have F29 := fun_mk (st := s_check_one_line) l29 e29 k29
  have B29 := F29.binds (ps := ["text"]) fun _ _ _ _ _ _ us hl => match us, hl with | [_], _ => rfl
  have F30 := fun_mk (st := s_check_string) l30 e30 k30
  have B30 := F30.binds (ps := ["thing"]) fun _ _ _ _ _ _ us hl => match us, hl with | [_], _ => rfl
  have F31 := fun_mk (st := s_only_line) l31 e31 k31
  have B31 := F31.binds (ps := ["text"]) fun _ _ _ _ _ _ us hl => match us, hl with | [_], _ => rfl
  have F32 := fun_mk (st := s_word_number) l32 e32 k32
  have B32 := F32.binds (ps := ["word"]) fun _ _ _ _ _ _ us hl => match us, hl with | [_], _ => rfl
  have F33 := fun_mk (st := s_any_token) l33 e33 k33
  have B33 := F33.binds (ps := ["begin", "told"]) fun _ _ _ _ _ _ us hl => match us, hl with | [_, _], _ => rfl
  have F34 := fun_mk (st := s_word_token) l34 e34 k34
  have B34 := F34.binds (ps := ["signs", "word"]) fun _ _ _ _ _ _ us hl => match us, hl with | [_, _], _ => rfl
  have F35 := fun_mk (st := s_words_piece) l35 e35 k35
  have B35 := F35.binds (ps := ["signs", "words"]) fun _ _ _ _ _ _ us hl => match us, hl with | [_, _], _ => rfl
  have F36 := fun_mk (st := s_read_piece) l36 e36 k36
  have B36 := F36.binds (ps := ["signs", "text"]) fun _ _ _ _ _ _ us hl => match us, hl with | [_, _], _ => rfl
  have F37 := fun_mk (st := s_is_name) l37 e37 k37
  have B37 := F37.binds (ps := ["thing"]) fun _ _ _ _ _ _ us hl => match us, hl with | [_], _ => rfl
  have F38 := fun_mk (st := s_read_row) l38 e38 k38
  have B38 := F38.binds (ps := ["text"]) fun _ _ _ _ _ _ us hl => match us, hl with | [_], _ => rfl
  have F39 := fun_mk (st := s_word) l39 e39 k39
  have B39 := F39.binds (ps := ["token"]) fun _ _ _ _ _ _ us hl => match us, hl with | [_], _ => rfl
  have F40 := fun_mk (st := s_show_piece) l40 e40 k40
  have B40 := F40.binds (ps := ["piece"]) fun _ _ _ _ _ _ us hl => match us, hl with | [_], _ => rfl
  have F41 := fun_mk (st := s_show_row) l41 e41 k41
  have B41 := F41.binds (ps := ["names"]) fun _ _ _ _ _ _ us hl => match us, hl with | [_], _ => rfl
  have F42 := fun_mk (st := s_law) l42 e42 k42
  have B42 := F42.binds (ps := ["_law_script"]) fun _ _ _ _ _ _ us hl => match us, hl with | [_], _ => rfl
  have T : { T : Txt K mg // T.f_law = fa ∧ T.d_law = PySem.W.fnOf "law" "law" (defArgs s_law) (defBody s_law) (defScope s_law) .none kV42 dc42 pm42 an42 cd42 ct42 } := ⟨{ f_ascends := f_ascends, d_ascends := _, F_ascends := F0, b_ascends := B0, m_ascends := PySem.W.mg_of X G a0, f_is_text := f_is_text, d_is_text := _, F_is_text := F1, b_is_text := B1, m_is_text := PySem.W.mg_of X G a1, f_is_choice := f_is_choice, d_is_choice := _, F_is_choice := F2, b_is_choice := B2, m_is_choice := PySem.W.mg_of X G a2, f_is_integer := f_is_integer, d_is_integer := _, F_is_integer := F3, b_is_integer := B3, m_is_integer := PySem.W.mg_of X G a3, f_is_within := f_is_within, d_is_within := _, F_is_within := F4, b_is_within := B4, m_is_within := PySem.W.mg_of X G a4, f_is_distance := f_is_distance, d_is_distance := _, F_is_distance := F5, b_is_distance := B5, m_is_distance := PySem.W.mg_of X G a5, f_is_token := f_is_token, d_is_token := _, F_is_token := F6, b_is_token := B6, m_is_token := PySem.W.mg_of X G a6, f_size := f_size, d_size := _, F_size := F7, b_size := B7, m_size := PySem.W.mg_of X G a7, f_are_tokens := f_are_tokens, d_are_tokens := _, F_are_tokens := F8, b_are_tokens := B8, m_are_tokens := PySem.W.mg_of X G a8, f_places_of := f_places_of, d_places_of := _, F_places_of := F9, b_places_of := B9, m_places_of := PySem.W.mg_of X G a9, f_are_letters := f_are_letters, d_are_letters := _, F_are_letters := F10, b_are_letters := B10, m_are_letters := PySem.W.mg_of X G a10, f_is_signs := f_is_signs, d_is_signs := _, F_is_signs := F11, b_is_signs := B11, m_is_signs := PySem.W.mg_of X G a11, f_Piece_init := f_Piece_init, d_Piece_init := _, F_Piece_init := F12, b_Piece_init := B12, f_Piece_eq := f_Piece_eq, d_Piece_eq := _, F_Piece_eq := F13, b_Piece_eq := B13, f_Piece_tokens := f_Piece_tokens, d_Piece_tokens := _, F_Piece_tokens := F14, b_Piece_tokens := B14, f_law_alike := f_law_alike, d_law_alike := _, F_law_alike := F15, b_law_alike := B15, m_law_alike := PySem.W.mg_of X G a15, f_law_bag := f_law_bag, d_law_bag := _, F_law_bag := F16, b_law_bag := B16, m_law_bag := PySem.W.mg_of X G a16, f_law_take := f_law_take, d_law_take := _, F_law_take := F17, b_law_take := B17, m_law_take := PySem.W.mg_of X G a17, f_law_choice := f_law_choice, d_law_choice := _, F_law_choice := F18, b_law_choice := B18, m_law_choice := PySem.W.mg_of X G a18, f_law_word := f_law_word, d_law_word := _, F_law_word := F19, b_law_word := B19, m_law_word := PySem.W.mg_of X G a19, f_law_free_token := f_law_free_token, d_law_free_token := _, F_law_free_token := F20, b_law_free_token := B20, m_law_free_token := PySem.W.mg_of X G a20, f_law_size := f_law_size, d_law_size := _, F_law_size := F21, b_law_size := B21, m_law_size := PySem.W.mg_of X G a21, f_law_wide := f_law_wide, d_law_wide := _, F_law_wide := F22, b_law_wide := B22, m_law_wide := PySem.W.mg_of X G a22, f_law_free_tokens := f_law_free_tokens, d_law_free_tokens := _, F_law_free_tokens := F23, b_law_free_tokens := B23, m_law_free_tokens := PySem.W.mg_of X G a23, f_law_show_token := f_law_show_token, d_law_show_token := _, F_law_show_token := F24, b_law_show_token := B24, m_law_show_token := PySem.W.mg_of X G a24, f_law_show := f_law_show, d_law_show := _, F_law_show := F25, b_law_show := B25, m_law_show := PySem.W.mg_of X G a25, f_law_signs := f_law_signs, d_law_signs := _, F_law_signs := F26, b_law_signs := B26, m_law_signs := PySem.W.mg_of X G a26, f_law_words := f_law_words, d_law_words := _, F_law_words := F27, b_law_words := B27, m_law_words := PySem.W.mg_of X G a27, f_NoText_init := f_NoText_init, d_NoText_init := _, F_NoText_init := F28, b_NoText_init := B28, f_check_one_line := f_check_one_line, d_check_one_line := _, F_check_one_line := F29, b_check_one_line := B29, m_check_one_line := PySem.W.mg_of X G a29, f_check_string := f_check_string, d_check_string := _, F_check_string := F30, b_check_string := B30, m_check_string := PySem.W.mg_of X G a30, f_only_line := f_only_line, d_only_line := _, F_only_line := F31, b_only_line := B31, m_only_line := PySem.W.mg_of X G a31, f_word_number := f_word_number, d_word_number := _, F_word_number := F32, b_word_number := B32, m_word_number := PySem.W.mg_of X G a32, f_any_token := f_any_token, d_any_token := _, F_any_token := F33, b_any_token := B33, m_any_token := PySem.W.mg_of X G a33, f_word_token := f_word_token, d_word_token := _, F_word_token := F34, b_word_token := B34, m_word_token := PySem.W.mg_of X G a34, f_words_piece := f_words_piece, d_words_piece := _, F_words_piece := F35, b_words_piece := B35, m_words_piece := PySem.W.mg_of X G a35, f_read_piece := f_read_piece, d_read_piece := _, F_read_piece := F36, b_read_piece := B36, m_read_piece := PySem.W.mg_of X G a36, f_is_name := f_is_name, d_is_name := _, F_is_name := F37, b_is_name := B37, m_is_name := PySem.W.mg_of X G a37, f_read_row := f_read_row, d_read_row := _, F_read_row := F38, b_read_row := B38, m_read_row := PySem.W.mg_of X G a38, f_word := f_word, d_word := _, F_word := F39, b_word := B39, m_word := PySem.W.mg_of X G a39, f_show_piece := f_show_piece, d_show_piece := _, F_show_piece := F40, b_show_piece := B40, m_show_piece := PySem.W.mg_of X G a40, f_show_row := f_show_row, d_show_row := _, F_show_row := F41, b_show_row := B41, m_show_row := PySem.W.mg_of X G a41, f_law := fa, d_law := _, F_law := F42, b_law := B42, m_law := PySem.W.mg_of X G a42, c_NoText := c_NoText, m_NoText := PySem.W.mg_of X G aC_NoText, ox_NoText := ⟨⟨_, _, _, _, _, _, _, _, _, _, _, _, _, _, _, xL_NoText, rv_NoText⟩, xs_NoText, xb_NoText, xt_NoText, xk_NoText⟩, oi_NoText := oi_NoText, ot_NoText := ot_NoText, nf_NoText_at := nf_NoText_at, c_Piece := c_Piece, m_Piece := PySem.W.mg_of X G aC_Piece, cl_Piece := ⟨pg_Piece, hd_Piece, po_Piece, sa_Piece⟩, mk_Piece := ⟨mk_Piece, a12, i12, kc_Piece⟩, mt_Piece_eq := ⟨a13, i13, k13⟩, mt_Piece_tokens := ⟨a14, i14, k14⟩, cr_Piece := ⟨rd_Piece, ga_Piece⟩, u_Piece_MOST := .int 40 tc_Piece_MOST, cv_Piece_MOST := ⟨cv_Piece_MOST, ⟨_, rfl⟩⟩, ic_Piece := ic_Piece, it_Piece := it_Piece, ca_Piece := ca_Piece, cg_Piece := cg_Piece, ct_Piece := ct_Piece, mro_Piece := mro_Piece, ne_Piece := ne_Piece, na_Piece_places := na_Piece_places, na_Piece_signs := na_Piece_signs, na_Piece_tokens := na_Piece_tokens, n_abs := PySem.W.mg_none_of X G z_abs, n_all := PySem.W.mg_none_of X G z_all, n_bool := PySem.W.mg_none_of X G z_bool, n_int := PySem.W.mg_none_of X G z_int, n_isinstance := PySem.W.mg_none_of X G z_isinstance, n_len := PySem.W.mg_none_of X G z_len, n_list := PySem.W.mg_none_of X G z_list, n_min := PySem.W.mg_none_of X G z_min, n_range := PySem.W.mg_none_of X G z_range, n_repr := PySem.W.mg_none_of X G z_repr, n_str := PySem.W.mg_none_of X G z_str, n_sum := PySem.W.mg_none_of X G z_sum, n_tuple := PySem.W.mg_none_of X G z_tuple, n_zip := PySem.W.mg_none_of X G z_zip, t_MOST_DIGITS := t_MOST_DIGITS, m_MOST_DIGITS := PySem.W.mg_of X G q_MOST_DIGITS, t_MOST_DISTANCE := t_MOST_DISTANCE, m_MOST_DISTANCE := PySem.W.mg_of X G q_MOST_DISTANCE, t_MOST_LETTERS := t_MOST_LETTERS, m_MOST_LETTERS := PySem.W.mg_of X G q_MOST_LETTERS, t_MOST_SIGNS := t_MOST_SIGNS, m_MOST_SIGNS := PySem.W.mg_of X G q_MOST_SIGNS, t_MOST_SIZE := t_MOST_SIZE, m_MOST_SIZE := PySem.W.mg_of X G q_MOST_SIZE, t_NO_NAMES := t_NO_NAMES, m_NO_NAMES := PySem.W.mg_of X G q_NO_NAMES }, rfl, rfl⟩
  obtain ⟨T, h1, h2⟩ := T
  refine ⟨PySem.W.fnOf "law" "law" (defArgs s_law) (defBody s_law) (defScope s_law) .none kV42 dc42 pm42 an42 cd42 ct42, fun s v => .of_eq rfl, fun base _ _ => ?_⟩
  · have q := ok_law (P := l.prog) (w := w) (base := base) T
    rw [h1, h2] at q
    exact q
theorem walk {l : PySem.W.OpenLaw} {q : Program} {loose : List Str} {XP : (Str → Option Value) → Heap → Prop} {YP : World → Heap → Prop} {d : DefRec} {K : Params → PySem.W.Frag} (hn : l.most = some 63) (hdf : d.params.defaults = [])
    (hY : ∀ (w : World) (h : Heap), YP w h → (K w.params).In h)
    (F : ∀ (w : World) (mg : Str → Option Value) (fa : Addr) (h : Heap), (K w.params).In h → h.Ns mainGlobals mg → mg d.name = some (.ref fa) →
      ∃ fd : FuncData, (∀ (s : Shared) (u : Value), BindsTo s fd ⟨[u], []⟩ [("_law_script", u)]) ∧ ∀ base : Heap, (K w.params).In base → base.Ns mainGlobals mg → FnG l.prog w (K w.params) mg base 10 fa fd ["_law_script"] (sp_law (K w.params))) :
    PySem.W.WalkO q loose XP YP l.row.toRowW d [] (fun f vs => PySem.call f vs) :=
  walkG (n := 63) (k := 10) (x := "_law_script") (sp := sp_law) hn (by decide) hdf ⟨rfl, by decide, by decide⟩ hY F fun _ _ a ns hl _ hS => ⟨a, ns, rfl, hS, hl, fun _ => rfl⟩
end KW
open PySem PySem.W PyProof.Rows in
set_option maxRecDepth 100000 in
set_option maxHeartbeats 0 in
theorem PySem.Challenge.cw_windowcuts_k91_pieces_and_rows_shown_holds : PySem.Challenge.rw_windowcuts_k91_pieces_and_rows_shown.Holds := by
  w_on; o_law; k_head; (case hw => w_witness2)
  k_fill
  refine KW.walk (l := PySem.Challenge.rw_windowcuts_k91_pieces_and_rows_shown) rfl rfl (fun w h Y => PySem.W.kIn_of Y) ?F
  case F =>
    intro w mg fa h KX G hmg
    refine' KW.all_mk KX G hmg ?aC_Piece ?pg_Piece ?hd_Piece ?po_Piece ?sa_Piece ?kc_Piece ?aC_NoText ?xb_NoText ?xt_NoText ?xk_NoText ?xd_NoText ?xL_NoText ?rv_NoText ?xs_NoText ?oi_NoText ?ot_NoText ?nf_NoText_at ?a0 ?l0 ?e0 ?k0 ?a1 ?l1 ?e1 ?k1 ?a2 ?l2 ?e2 ?k2 ?a3 ?l3 ?e3 ?k3 ?a4 ?l4 ?e4 ?k4 ?a5 ?l5 ?e5 ?k5 ?a6 ?l6 ?e6 ?k6 ?a7 ?l7 ?e7 ?k7 ?a8 ?l8 ?e8 ?k8 ?a9 ?l9 ?e9 ?k9 ?a10 ?l10 ?e10 ?k10 ?a11 ?l11 ?e11 ?k11 ?a12 ?i12 ?l12 ?e12 ?k12 ?mk_Piece ?a13 ?i13 ?l13 ?e13 ?k13 ?a14 ?i14 ?l14 ?e14 ?k14 ?a15 ?l15 ?e15 ?k15 ?a16 ?l16 ?e16 ?k16 ?a17 ?l17 ?e17 ?k17 ?a18 ?l18 ?e18 ?k18 ?a19 ?l19 ?e19 ?k19 ?a20 ?l20 ?e20 ?k20 ?a21 ?l21 ?e21 ?k21 ?a22 ?l22 ?e22 ?k22 ?a23 ?l23 ?e23 ?k23 ?a24 ?l24 ?e24 ?k24 ?a25 ?l25 ?e25 ?k25 ?a26 ?l26 ?e26 ?k26 ?a27 ?l27 ?e27 ?k27 ?l28 ?e28 ?k28 ?a29 ?l29 ?e29 ?k29 ?a30 ?l30 ?e30 ?k30 ?a31 ?l31 ?e31 ?k31 ?a32 ?l32 ?e32 ?k32 ?a33 ?l33 ?e33 ?k33 ?a34 ?l34 ?e34 ?k34 ?a35 ?l35 ?e35 ?k35 ?a36 ?l36 ?e36 ?k36 ?a37 ?l37 ?e37 ?k37 ?a38 ?l38 ?e38 ?k38 ?a39 ?l39 ?e39 ?k39 ?a40 ?l40 ?e40 ?k40 ?a41 ?l41 ?e41 ?k41 ?a42 ?l42 ?e42 ?k42 ?rd_Piece ?ga_Piece ?cv_Piece_MOST ?ic_Piece ?it_Piece ?ca_Piece ?cg_Piece ?ct_Piece ?mro_Piece ?ne_Piece ?na_Piece_places ?na_Piece_signs ?na_Piece_tokens ?z_abs ?z_all ?z_bool ?z_int ?z_isinstance ?z_len ?z_list ?z_min ?z_range ?z_repr ?z_str ?z_sum ?z_tuple ?z_zip ?q_MOST_DIGITS ?q_MOST_DISTANCE ?q_MOST_LETTERS ?q_MOST_SIGNS ?q_MOST_SIZE ?q_NO_NAMES
    (case aC_Piece => k_is)
    (case pg_Piece => k_is)
    (case hd_Piece => k_is)
    (case po_Piece => k_is)
    (case sa_Piece => k_is)
    (case kc_Piece => k_is)
    (case aC_NoText => k_is)
    (case xb_NoText => k_is)
    (case xt_NoText => k_is)
    (case xk_NoText => k_is)
    (case xd_NoText => k_is)
    (case xL_NoText => k_is)
    (case rv_NoText => decide +kernel)
    (case xs_NoText => k_is)
    (case oi_NoText => k_is)
    (case ot_NoText => k_is)
    (case nf_NoText_at => k_is)
    (case a0 => k_is)
    (case l0 => k_is)
    (case e0 => k_is)
    (case k0 => k_is)
    (case a1 => k_is)
    (case l1 => k_is)
    (case e1 => k_is)
    (case k1 => k_is)
    (case a2 => k_is)
    (case l2 => k_is)
    (case e2 => k_is)
    (case k2 => k_is)
    (case a3 => k_is)
    (case l3 => k_is)
    (case e3 => k_is)
    (case k3 => k_is)
    (case a4 => k_is)
    (case l4 => k_is)
    (case e4 => k_is)
    (case k4 => k_is)
    (case a5 => k_is)
    (case l5 => k_is)
    (case e5 => k_is)
    (case k5 => k_is)
    (case a6 => k_is)
    (case l6 => k_is)
    (case e6 => k_is)
    (case k6 => k_is)
    (case a7 => k_is)
    (case l7 => k_is)
    (case e7 => k_is)
    (case k7 => k_is)
    (case a8 => k_is)
    (case l8 => k_is)
    (case e8 => k_is)
    (case k8 => k_is)
    (case a9 => k_is)
    (case l9 => k_is)
    (case e9 => k_is)
    (case k9 => k_is)
    (case a10 => k_is)
    (case l10 => k_is)
    (case e10 => k_is)
    (case k10 => k_is)
    (case a11 => k_is)
    (case l11 => k_is)
    (case e11 => k_is)
    (case k11 => k_is)
    (case a12 => k_is)
    (case i12 => k_is)
    (case l12 => k_is)
    (case e12 => k_is)
    (case k12 => k_is)
    (case mk_Piece => k_is)
    (case a13 => k_is)
    (case i13 => k_is)
    (case l13 => k_is)
    (case e13 => k_is)
    (case k13 => k_is)
    (case a14 => k_is)
    (case i14 => k_is)
    (case l14 => k_is)
    (case e14 => k_is)
    (case k14 => k_is)
    (case a15 => k_is)
    (case l15 => k_is)
    (case e15 => k_is)
    (case k15 => k_is)
    (case a16 => k_is)
    (case l16 => k_is)
    (case e16 => k_is)
    (case k16 => k_is)
    (case a17 => k_is)
    (case l17 => k_is)
    (case e17 => k_is)
    (case k17 => k_is)
    (case a18 => k_is)
    (case l18 => k_is)
    (case e18 => k_is)
    (case k18 => k_is)
    (case a19 => k_is)
    (case l19 => k_is)
    (case e19 => k_is)
    (case k19 => k_is)
    (case a20 => k_is)
    (case l20 => k_is)
    (case e20 => k_is)
    (case k20 => k_is)
    (case a21 => k_is)
    (case l21 => k_is)
    (case e21 => k_is)
    (case k21 => k_is)
    (case a22 => k_is)
    (case l22 => k_is)
    (case e22 => k_is)
    (case k22 => k_is)
    (case a23 => k_is)
    (case l23 => k_is)
    (case e23 => k_is)
    (case k23 => k_is)
    (case a24 => k_is)
    (case l24 => k_is)
    (case e24 => k_is)
    (case k24 => k_is)
    (case a25 => k_is)
    (case l25 => k_is)
    (case e25 => k_is)
    (case k25 => k_is)
    (case a26 => k_is)
    (case l26 => k_is)
    (case e26 => k_is)
    (case k26 => k_is)
    (case a27 => k_is)
    (case l27 => k_is)
    (case e27 => k_is)
    (case k27 => k_is)
    (case l28 => k_is)
    (case e28 => k_is)
    (case k28 => k_is)
    (case a29 => k_is)
    (case l29 => k_is)
    (case e29 => k_is)
    (case k29 => k_is)
    (case a30 => k_is)
    (case l30 => k_is)
    (case e30 => k_is)
    (case k30 => k_is)
    (case a31 => k_is)
    (case l31 => k_is)
    (case e31 => k_is)
    (case k31 => k_is)
    (case a32 => k_is)
    (case l32 => k_is)
    (case e32 => k_is)
    (case k32 => k_is)
    (case a33 => k_is)
    (case l33 => k_is)
    (case e33 => k_is)
    (case k33 => k_is)
    (case a34 => k_is)
    (case l34 => k_is)
    (case e34 => k_is)
    (case k34 => k_is)
    (case a35 => k_is)
    (case l35 => k_is)
    (case e35 => k_is)
    (case k35 => k_is)
    (case a36 => k_is)
    (case l36 => k_is)
    (case e36 => k_is)
    (case k36 => k_is)
    (case a37 => k_is)
    (case l37 => k_is)
    (case e37 => k_is)
    (case k37 => k_is)
    (case a38 => k_is)
    (case l38 => k_is)
    (case e38 => k_is)
    (case k38 => k_is)
    (case a39 => k_is)
    (case l39 => k_is)
    (case e39 => k_is)
    (case k39 => k_is)
    (case a40 => k_is)
    (case l40 => k_is)
    (case e40 => k_is)
    (case k40 => k_is)
    (case a41 => k_is)
    (case l41 => k_is)
    (case e41 => k_is)
    (case k41 => k_is)
    (case a42 => k_is)
    (case l42 => k_is)
    (case e42 => k_is)
    (case k42 => k_is)
    (case rd_Piece => k_is)
    (case ga_Piece => k_is)
    (case cv_Piece_MOST => k_is)
    (case ic_Piece => k_is)
    (case it_Piece => k_is)
    (case ca_Piece => k_is)
    (case cg_Piece => k_is)
    (case ct_Piece => k_is)
    (case mro_Piece => k_is)
    (case ne_Piece => k_is)
    (case na_Piece_places => k_is)
    (case na_Piece_signs => k_is)
    (case na_Piece_tokens => k_is)
    (case z_abs => k_is)
    (case z_all => k_is)
    (case z_bool => k_is)
    (case z_int => k_is)
    (case z_isinstance => k_is)
    (case z_len => k_is)
    (case z_list => k_is)
    (case z_min => k_is)
    (case z_range => k_is)
    (case z_repr => k_is)
    (case z_str => k_is)
    (case z_sum => k_is)
    (case z_tuple => k_is)
    (case z_zip => k_is)
    (case q_MOST_DIGITS => k_is)
    (case q_MOST_DISTANCE => k_is)
    (case q_MOST_LETTERS => k_is)
    (case q_MOST_SIGNS => k_is)
    (case q_MOST_SIZE => k_is)
    (case q_NO_NAMES => k_is)
