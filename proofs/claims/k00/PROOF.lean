import PyProof.Rows.All
import Wide.All
import OpenK.AllK
import Wide.FinOn
import HandS.ForMost
import HandS.IsInst
import HandS.Flow
import HandS.Style
import HandS.ClsMeth
import HandS.CallRecv
import HandS.More
import HandS.Walk
import HandS.RaiseMore
import KE.GoesEnum
import KE.GoesMore
import KE.GoesZip
import HandS.Codes
import HandS.Words
import HandS.Ends
import PyProof.Rows.RegFStrParts
import PyProof.ReprRoads
import PyProof.P3Eq
import HandS.OwnEq
import HandS.FStr
import HandS.Property
import PyProof.StrLawsRepr
import PyProof.InstNe
import HandS.DictComp
import KE.KOpsOwn
import HandS.Strs
import HandS.Conv
import HandS.Steps
import PyProof.ListStr
import PyProof.Rows.SetFrom
import HandS.WordsExc
import HandS.ExcOwn
import HandS.ExcInit
import HandS.ExcField
import HandS.ExcIs
import HandS.TryOnly
import HandS.RevRange
import HandS.NoneIn
import HandS.Set
import HandS.TupAny
import PySem.Challenge.RW_windowcuts_k00_whole_pieces_need_what_re
set_option Elab.async false
set_option maxRecDepth 100000
set_option maxHeartbeats 4000000
set_option linter.all false
/-! My own words over the hand layer: one step of a reading, items of lists, bags of drawn numbers. -/
namespace KW
open PySem L2

local macro_rules | `(tactic| walk_at "r1") => `(tactic| first
  | refine ⟨_, rfl, ?_⟩
  | refine ⟨_, _, rfl, rfl, ?_⟩
  | refine ⟨rfl, ?_⟩
  | refine ⟨_, _, _, _, rfl, rfl, SqL.of (by assumption), rfl, ?_⟩
  | refine ⟨_, _, _, _, rfl, rfl, SqT.of (by assumption), rfl, ?_⟩)
local macro_rules | `(tactic| walk_at "rd") => `(tactic| repeat (walk_at "r1"))

theorem pget_list {X : Cx} : PGet X (rIxL X.K) := by
  intro pins s σ H x y v u Q I rx ry h
  obtain ⟨p, xs, i, z, rfl, rfl, hq, he, q⟩ := h
  cases rx
  obtain ⟨t, rfl⟩ := ry
  obtain ⟨its, r, pl, hz⟩ := I.list hq
  obtain ⟨j, h1, h2, h3, h4, h5⟩ := atI_get he
  obtain ⟨w, ew, rw'⟩ := r.get h2
  have hl := r.length
  have hn := line63
  have fin : EP X pins σ Q w s := ⟨z, H, I, rw', q⟩
  by_cases h0 : 0 ≤ i
  · have hj : i.toNat = j := by
      rw [seqIndex_of h0 h5] at h1
      exact Option.some.inj h1
    exact wpAny_mono (wpAny_getItem_list (Q := fun r s' => r = w ∧ EP X pins σ Q r s') pl.isList h0 (by omega) (by rw [hj]; simpa using ew) ⟨rfl, fin⟩) (fun _ _ h => h.2) fun _ _ h => h
  · have hj : (i + (its.toArray.size : Int)).toNat = j := by
      rw [seqIndex_neg (by omega) h4] at h1
      rw [List.size_toArray, ← hl]
      exact Option.some.inj h1
    exact wpAny_mono (wpAny_getItem_list_neg (Q := fun r s' => r = w ∧ EP X pins σ Q r s') pl.isList (by omega) (by rw [List.size_toArray] <;> omega) (by omega) (by rw [hj]; simpa using ew) ⟨rfl, fin⟩) (fun _ _ h => h.2) fun _ _ h => h

/-! ### what a def leaves: all but one list as it was -/
def KeepB (b : Addr) (H H' : Hp) : Prop := ∀ a o, a ≠ b → H a = some o → H' a = some o
theorem KeepB.refl (b : Addr) (H : Hp) : KeepB b H H := fun _ _ _ h => h
theorem KeepB.trans {b : Addr} {H H1 H2 : Hp} (x : KeepB b H H1) (y : KeepB b H1 H2) : KeepB b H H2 := fun a o n h => y a o n (x a o n h)
theorem KeepB.of_same {b : Addr} {H H' : Hp} (x : Same H H') : KeepB b H H' := fun a o _ h => x a o h
theorem KeepB.put {b : Addr} {H : Hp} {o : HO} : KeepB b H (upd H b o) := fun a o n h => by rw [upd_ne n]; exact h
theorem KeepB.new {b p : Addr} {H : Hp} {o : HO} (hp : H p = none) : KeepB b H (upd H p o) := fun a u _ h => by rw [upd_ne (ne_of_none h hp)]; exact h
theorem same_new {p : Addr} {H : Hp} {o : HO} (hp : H p = none) : Same H (upd H p o) := fun a u h => by rw [upd_ne (ne_of_none h hp)]; exact h

/-! ### the bag of drawn numbers -/
def BagAt (H : Hp) (b c : Addr) : Prop := ∃ (p q n : Int) (cs : List Int), H b = some (.lst [.int p, .int q, .int n, .ref c]) ∧ H c = some (.lst (cs.map V.int)) ∧
  0 ≤ p ∧ 0 ≤ q ∧ q < 2147483647 ∧ 0 ≤ n ∧ (∀ x ∈ cs, (0 : Int) ≤ x) ∧ cs.length ≤ 63
end KW
namespace KW
open PySem L2
theorem iteD {c A B : Prop} [Decidable c] (h1 : c → A) (h2 : ¬ c → B) : if decide c = true then A else B := by
  by_cases h : c
  · rw [if_pos (decide_eq_true h)]; exact h1 h
  · rw [if_neg (by rw [decide_eq_false h]; exact Bool.false_ne_true)]; exact h2 h
theorem iteI {i j : Int} {A B : Prop} (h1 : i = j → A) (h2 : ¬ i = j → B) : if decide (V.int i = V.int j) = true then A else B :=
  iteD (fun h => h1 (V.int.inj h)) fun h => h2 fun e => h (by rw [e])
theorem iteSt {i j : Str} {A B : Prop} (h1 : i = j → A) (h2 : ¬ i = j → B) : if decide (V.str i = V.str j) = true then A else B :=
  iteD (fun h => h1 (V.str.inj h)) fun h => h2 fun e => h (by rw [e])
theorem BagAt.mk' {H : Hp} {b c : Addr} {p q n : Int} {cs : List Int} (hb : H b = some (.lst [.int p, .int q, .int n, .ref c])) (hc : H c = some (.lst (cs.map V.int)))
    (p0 : 0 ≤ p) (q0 : 0 ≤ q) (q1 : q < 2147483647) (n0 : 0 ≤ n) (cs0 : ∀ x ∈ cs, (0 : Int) ≤ x) (cl : cs.length ≤ 63) : BagAt H b c := ⟨p, q, n, cs, hb, hc, p0, q0, q1, n0, cs0, cl⟩
theorem bag_ne {H : Hp} {b c : Addr} {p q n : Int} {d : Addr} {cs : List Int} (hb : H b = some (.lst [.int p, .int q, .int n, .ref d])) (hc : H c = some (.lst (cs.map V.int))) : c ≠ b := by
  intro e
  subst e
  rw [hb] at hc
  have h := HO.lst.inj (Option.some.inj hc)
  have h3 : (cs.map V.int)[3]? = some (V.ref d) := by rw [← h]; rfl
  rw [List.getElem?_map] at h3
  cases e : cs[3]? with
  | none => rw [e] at h3; cases h3
  | some z => rw [e] at h3; cases h3
end KW
namespace KW
open PySem L2
theorem at_ints {cs : List Int} {n : Int} (h0 : 0 ≤ n) (h1 : n < (cs.length : Int)) : ∃ z, z ∈ cs ∧ atI (cs.map V.int) n = some (V.int z) := by
  have hl : n.toNat < cs.length := by omega
  refine ⟨cs[n.toNat], List.getElem_mem hl, ?_⟩
  refine at_of (j := n.toNat) (by omega) ?_
  rw [List.getElem?_map, List.getElem?_eq_getElem hl]
  rfl
end KW
namespace KW
open PySem L2
section
variable {X : Cx}
/-! the rules that name the module's part, with that part named apart (within a comprehension) -/
theorem call_lenK {K : PySem.W.Frag} (h : X.K = K) : CallR X (.builtin "len") (fun xs H Q => ∃ x n, xs = [x] ∧ LenV K x H n ∧ Q (.int n) H) := by
  subst h; exact call_len
theorem ix_listK {K : PySem.W.Frag} (h : X.K = K) : IxR X (rIxL K) := by subst h; exact ix_list
theorem ix_tupK {K : PySem.W.Frag} (h : X.K = K) : IxR X (rIxT K) := by subst h; exact ix_tup
theorem call_isiK' {K : PySem.W.Frag} (h : X.K = K) : CallR X (.builtin "isinstance") (rIsi K) := by subst h; exact call_isi
theorem op_in_seqK {K : PySem.W.Frag} (h : X.K = K) : OpR X (compareOp .In) (rIn K false) := by subst h; exact op_in_seq
theorem op_notIn_seqK {K : PySem.W.Frag} (h : X.K = K) : OpR X (compareOp .NotIn) (rIn K true) := by subst h; exact op_notIn_seq
end
end KW

/-! zip of two texts; repr of None, an int, a bool, a text. -/
namespace KW
open PySem L2 PySem.Spec PyProof.Rows
/-- the signs of two texts, in new pairs -/
def ItzS (x y : Str) : It :=
  ⟨fun i _ => i < x.cps.size ∧ i < y.cps.size,
    fun i H v H' => ∃ (T : Addr) (c d : Nat), v = .ref T ∧ H T = none ∧ H' = upd H T (.tup [.str ⟨#[c]⟩, .str ⟨#[d]⟩]) ∧ x.cps[i]? = some c ∧ y.cps[i]? = some d,
    fun i _ => i ≤ x.cps.size ∧ i ≤ y.cps.size ∧ (i = x.cps.size ∨ i = y.cps.size)⟩
theorem turn_zipS {P : Program} {w : World} {K : PySem.W.Frag} {elts : List Expr} {kk : Nat} {tpos : Pos} {z TI TO i1 i2 : Addr} {x y : Str} {t u : Tok} (D : ZipSep2 z TI TO i1 i2 [i1] [i2]) :
    Turn P w K (.Tuple elts kk tpos) (ItzS x y) [z, TI, TO, i1, i2] z (fun i h => IsZip h z TI TO .none ∧ IsTupOf2 h TI (.ref i1) (.ref i2) ∧ (∃ a1 a2, IsTupOf2 h TO a1 a2) ∧ h.IsStrIter i1 (strIterType x) x t i ∧ h.IsStrIter i2 (strIterType y) y u i) where
  mem := by simp
  obj := fun i h st c hc => by
    obtain ⟨hz, hTI, ⟨a1, a2, hTO⟩, h1, h2⟩ := st
    have e' : c = z ∨ c = TI ∨ c = TO ∨ c = i1 ∨ c = i2 := by simpa using hc
    rcases e' with q | q | q | q | q
    · rw [q]; exact ⟨_, hz, fun v q => nomatch q⟩
    · rw [q]; exact ⟨_, hTI, fun v q => nomatch q⟩
    · rw [q]; exact ⟨_, hTO, fun v q => nomatch q⟩
    · obtain ⟨o1, e1, _, d1⟩ := h1
      rw [q]; exact ⟨o1, e1, fun v q => by rw [d1] at q; cases q⟩
    · obtain ⟨o1, e1, _, d1⟩ := h2
      rw [q]; exact ⟨o1, e1, fun v q => by rw [d1] at q; cases q⟩
  keep := fun i h h' st k => by
    obtain ⟨hz, hTI, ⟨a1, a2, hTO⟩, h1, h2⟩ := st
    exact ⟨k z (by simp) _ hz, k TI (by simp) _ hTI, ⟨a1, a2, k TO (by simp) _ hTO⟩, let ⟨o, ho, r⟩ := h1; ⟨o, k i1 (by simp) _ ho, r⟩, let ⟨o, ho, r⟩ := h2; ⟨o, k i2 (by simp) _ ho, r⟩⟩
  item := by
    intro X hP hw hK hc i pins s σ H E I hf st hg
    subst hP hw hK
    obtain ⟨hz, hTI, ⟨a1, a2, hTO⟩, h1, h2⟩ := st
    have hzl : z < s.heap.objs.size := Heap.lt_size hz
    refine wpAny_pyNext_zipD2_item D (Draws.text (by exact I.ok.hd hc) i1 x t) (Draws.text (by exact I.ok.hd hc) i2 y u) hz hTI hTO h1 h2 hg.1 hg.2 fun v1 v2 h' tk p1 p2 z' TO' h1' h2' hT hsz hk => ?_
    obtain ⟨c, t1, ec, rfl⟩ := p1
    obtain ⟨d, t2, ed, rfl⟩ := p2
    refine ⟨_, rfl, wpAny_letOwnedTupleGo_zip (s := { s with heap := h', toks := tk }) z' fun h'' z'' sb => ?_⟩
    have hT2 : h''.get? s.heap.objs.size = some { cls := .type "tuple", data := .seq #[.str ⟨#[c]⟩ t1, .str ⟨#[d]⟩ t2] } := (sb.2 _ (Nat.ne_of_gt hzl)).trans hT
    have new : ObjOk X.prog X.w (upd H s.heap.objs.size (.tup [.str ⟨#[c]⟩, .str ⟨#[d]⟩])) h'' s.heap.objs.size (.tup [.str ⟨#[c]⟩, .str ⟨#[d]⟩]) :=
      ⟨by show 2 ≤ sizeLine; decide, [.str ⟨#[c]⟩ t1, .str ⟨#[d]⟩ t2], .cons ⟨_, rfl⟩ (.cons ⟨_, rfl⟩ .nil), ⟨_, hT2, rfl, _, rfl⟩⟩
    have I1 : Inv X pins σ (upd H s.heap.objs.size (.tup [.str ⟨#[c]⟩, .str ⟨#[d]⟩])) { s with heap := h'', toks := tk } :=
      I.turnedNew (t' := tk) (ch := [z, TI, TO, i1, i2]) (fun c o hb q => (sb.2 c (fun q' => hb (by simp [q']))).trans (hk c o (fun q' => hb (by simp [q'])) (fun q' => hb (by simp [q'])) (fun q' => hb (by simp [q'])) (fun q' => hb (by simp [q'])) q)) hf (Nat.le_refl _) new
    refine ⟨.ref s.heap.objs.size, _, I1, rfl, ⟨_, c, d, rfl, I.hok.fresh (Nat.le_refl _), rfl, ec, ed⟩, ⟨z'', ?_, ⟨.str ⟨#[c]⟩ t1, .str ⟨#[d]⟩ t2, ?_⟩, ?_, ?_⟩, fun c hcm => ?_⟩
    · exact (sb.2 _ D.TIz).trans (hk _ _ D.TIz D.TITO D.TIi1 D.TIi2 hTI)
    · exact (sb.2 _ D.TOz).trans TO'
    · obtain ⟨o, ho, r⟩ := h1'
      exact ⟨o, (sb.2 _ D.zi1.symm).trans ho, r⟩
    · obtain ⟨o, ho, r⟩ := h2'
      exact ⟨o, (sb.2 _ D.zi2.symm).trans ho, r⟩
    · have hlt : c < s.heap.objs.size := by
        have e' : c = z ∨ c = TI ∨ c = TO ∨ c = i1 ∨ c = i2 := by simpa using hcm
        rcases e' with q | q | q | q | q
        · rw [q]; exact hzl
        · rw [q]; exact Heap.lt_size hTI
        · rw [q]; exact Heap.lt_size hTO
        · obtain ⟨_, ho, _⟩ := h1; rw [q]; exact Heap.lt_size ho
        · obtain ⟨_, ho, _⟩ := h2; rw [q]; exact Heap.lt_size ho
      rw [upd_ne (Nat.ne_of_lt hlt)]
      exact (hf c hcm).1
  done := by
    intro X hP hw hK hc i pins s σ H E I hf st hg
    subst hP hw hK
    obtain ⟨hz, hTI, ⟨a1, a2, hTO⟩, h1, h2⟩ := st
    exact wpAny_pyNext_zipD2_end D (Draws.text (by exact I.ok.hd hc) i1 x t) (Draws.text (by exact I.ok.hd hc) i2 y u) hz hTI hTO h1 h2 hg.1 hg.2.1 hg.2.2 fun h' tk hk => ⟨rfl, I.turnedL (t' := tk) (ch := [z, TI, TO, i1, i2]) (fun c o hb q =>
      hk c o (fun q' => hb (by simp [q'])) (fun q' => hb (by simp [q'])) (fun q' => hb (by simp [q'])) (fun q' => hb (by simp [q'])) q) hf⟩
  self := fun A i s Q E st h => wpAny_pyIter_zip st.1 h
def iZipS (ta : TA) : TI := fun σ H R => ta σ H fun vs H1 => ∃ x y : Str, vs = [.str x, .str y] ∧ R (ItzS x y) H1
theorem pi_zipS {X : Cx} {e e2 : Expr} {ta : TA} {p pos tpos : Pos} {elts : List Expr} {kk : Nat} (hg : Gl X "zip") (hm : X.mg "zip" = none) (ha : PA X [e, e2] ta)
    (hs : starEach [e, e2] X.env = (false, eval e X.env) :: starEach [e2] X.env := by rfl) (hpl : (backTo pos (starEach [e2] X.env)).any (·.1) = false := by rfl) :
    PI X (.Tuple elts kk tpos) (.Call (.Name "zip" p) [e, e2] [] pos) (iZipS ta) := by
  refine ⟨fun pins s σ H R I h => ?_⟩
  refine Call_ (ld_blt I hg hm PyProof.Rows.boot_zip (PyProof.Rows.callWith_type1 (thn (ha.run pos pins s σ H _ I h) fun us s1 ⟨vs, H1, I1, r1, q1⟩ => ?_) hs hpl))
  obtain ⟨x, y, ex, q⟩ := q1
  subst ex
  obtain ⟨u1, u2, rfl, ⟨t, rfl⟩, ⟨u, rfl⟩⟩ := vals2 r1
  refine zip_begins2 (begins_text x t) (begins_text y u) True.intro True.intro fun h' hz hTI hTO h1 h2 hsz hk => wpAny_pyIter_zip hz ?_
  have I2 : Inv X pins σ H1 { s1 with heap := h' } := I1.kept (t' := s1.toks) hk
  refine ⟨s1.heap.objs.size + 4, [s1.heap.objs.size + 4, s1.heap.objs.size + 2, s1.heap.objs.size + 3, s1.heap.objs.size, s1.heap.objs.size + 1], _, _, H1, rfl, I2, turn_zipS (zip_sep2 (N := s1.heap.objs.size) (fp1 := []) (fp2 := []) (fun _ h => nomatch h) (fun _ h => nomatch h)), ⟨hz, hTI, ⟨_, _, hTO⟩, ⟨_, h1, rfl, rfl⟩, ⟨_, h2, rfl, rfl⟩⟩, fun c hcm => ?_, q⟩
  have e' : c = s1.heap.objs.size + 4 ∨ c = s1.heap.objs.size + 2 ∨ c = s1.heap.objs.size + 3 ∨ c = s1.heap.objs.size ∨ c = s1.heap.objs.size + 1 := by simpa using hcm
  have hle : s1.heap.objs.size ≤ c := by
    rcases e' with z | z | z | z | z
    · rw [z]; exact Nat.le_add_right _ _
    · rw [z]; exact Nat.le_add_right _ _
    · rw [z]; exact Nat.le_add_right _ _
    · rw [z]; exact Nat.le_refl _
    · rw [z]; exact Nat.le_add_right _ _
  exact I1.fpOk hle (I1.hok.fresh hle)
theorem walk_zipS {x y : Str} : Walk (ItzS x y) (min x.cps.size y.cps.size) (fun _ => True) (YPair (fun i => (x.cps[i]?).map fun c => .str ⟨#[c]⟩) (fun i => (y.cps[i]?).map fun c => .str ⟨#[c]⟩)) := by
  refine ⟨fun i _ hi _ => ⟨by omega, by omega⟩, fun _ _ => ⟨by omega, by omega, by omega⟩, fun i H v H' _ _ yv => ?_⟩
  obtain ⟨T, c, d, h1, h2, h3, h4, h5⟩ := yv
  exact ⟨T, .str ⟨#[c]⟩, .str ⟨#[d]⟩, h1, h2, h3, by simp only [h4, Option.map_some], by simp only [h5, Option.map_some]⟩

/-! ### repr of flat values -/
def reprV : V → Str
  | .non => "None"
  | .int i => Str.ofString (toString i)
  | .bl b => if b then "True" else "False"
  | .str x => reprText x
  | _ => Str.empty
def ReprOk : V → Prop
  | .non => True
  | .int i => i.natAbs.log2 < 1920
  | .bl _ => True
  | .str x => (reprText x).length ≤ sizeLine
  | _ => False
theorem call_reprV {X : Cx} : CallR X (.builtin "repr") (fun xs H Q => ∃ x, xs = [x] ∧ ReprOk x ∧ Q (.str (reprV x)) H) := by
  intro pins s σ H xs us Q I r h
  obtain ⟨x, rfl, hz, q⟩ := h
  obtain ⟨u, rfl, ru⟩ := vals1 r
  cases x with
  | non => cases ru; exact PySem.P.repr_of_none ⟨.str _, H, I.tok _, ⟨_, rfl⟩, q⟩
  | int i => obtain ⟨t, rfl⟩ := ru; exact PySem.P.repr_of_int hz ⟨.str _, H, I.tok _, ⟨_, rfl⟩, q⟩
  | bl b => cases ru; exact PySem.P.repr_of_bool ⟨.str _, H, I.tok _, ⟨_, rfl⟩, by cases b <;> exact q⟩
  | str z => obtain ⟨t, rfl⟩ := ru; exact PySem.P.repr_of_str ⟨.str _, H, I.tok _, ⟨_, rfl⟩, q⟩ hz
  | _ => exact hz.elim
end KW

/-! isinstance of the seven kinds; comprehensions that gather f of each item; letters in order. -/
namespace KW
open PySem L2

/-! ### isinstance -/
def kinds7 : List String := ["NoneType", "bool", "int", "str", "list", "tuple", "dict"]
def Ty7 (K : PySem.W.Frag) (H : Hp) (x : V) (n : String) : Prop := TyX K H x (.type n) ∧ n ∈ kinds7
section
variable {K : PySem.W.Frag} {H : Hp}
theorem Ty7.non : Ty7 K H .non "NoneType" := ⟨.base .non, by decide⟩
theorem Ty7.bl {b : Bool} : Ty7 K H (.bl b) "bool" := ⟨.base (.bl b), by decide⟩
theorem Ty7.int {i : Int} : Ty7 K H (.int i) "int" := ⟨.base (.int i), by decide⟩
theorem Ty7.str {x : Str} : Ty7 K H (.str x) "str" := ⟨.base (.str x), by decide⟩
theorem Ty7.lst {a : Addr} {xs : List V} (e : H a = some (.lst xs)) : Ty7 K H (.ref a) "list" := ⟨.base (.lst e), by decide⟩
theorem Ty7.tup {a : Addr} {xs : List V} (e : H a = some (.tup xs)) : Ty7 K H (.ref a) "tuple" := ⟨.base (.tup e), by decide⟩
theorem Ty7.dK {a : Addr} {kvs : List (Key × V)} (e : H a = some (.dK kvs)) : Ty7 K H (.ref a) "dict" := ⟨.base (.dK e), by decide⟩
theorem kit7 {n c : String} (hn : n ∈ kinds7) (hc : c = "str" ∨ c = "tuple" ∨ c = "list" ∨ c = "dict" ∨ c = "bool") : PySem.W.kitOne K (.type n) (.type c) = some (n == c) := by
  simp only [kinds7, List.mem_cons, List.not_mem_nil, or_false] at hn
  rcases hc with rfl | rfl | rfl | rfl | rfl <;> rcases hn with rfl | rfl | rfl | rfl | rfl | rfl | rfl <;> exact kit_ty (by decide +kernel)
theorem kit7i {n : String} (hn : n ∈ kinds7) : PySem.W.kitOne K (.type n) (.type "int") = some (n == "int" || n == "bool") := by
  simp only [kinds7, List.mem_cons, List.not_mem_nil, or_false] at hn
  rcases hn with rfl | rfl | rfl | rfl | rfl | rfl | rfl <;> exact kit_ty (by decide +kernel)
theorem isi7 {x : V} {n c : String} {Q : VK} (h : Ty7 K H x n) (hc : c = "str" ∨ c = "tuple" ∨ c = "list" ∨ c = "dict" ∨ c = "bool") (q : Q (.bl (n == c)) H) : rIsi K [x, .ty c] H Q :=
  ⟨x, .ty c, _, _, _, rfl, .ty c, h.1, kit7 h.2 hc, q⟩
theorem isi7i {x : V} {n : String} {Q : VK} (h : Ty7 K H x n) (q : Q (.bl (n == "int" || n == "bool")) H) : rIsi K [x, .ty "int"] H Q :=
  ⟨x, .ty "int", _, _, _, rfl, .ty "int", h.1, kit7i h.2, q⟩
end

/-! ### a list gathered turn by turn -/
section
variable {α : Type} {l : List α} {f : α → V} {H1 H : Hp} {D : Addr}
/-- the first i items' values stand at D, all else as ahead -/
def Acc (l : List α) (f : α → V) (H1 : Hp) (D : Addr) (i : Nat) (H : Hp) : Prop := KeepB D H1 H ∧ H D = some (.lst ((l.take i).map f))
theorem Acc.start (l : List α) (f : α → V) (H1 : Hp) (D : Addr) : Acc l f H1 D 0 (upd H1 D (.lst [])) := ⟨KeepB.put, by rw [List.take_zero]; exact upd_same⟩
theorem take_succ_map {i : Nat} {a : α} (h : l[i]? = some a) : (l.take (i + 1)).map f = (l.take i).map f ++ [f a] := by
  rw [List.take_add_one, h, List.map_append]
  rfl
theorem Acc.step {i : Nat} {a : α} {y : V} {H' : Hp} (k : Acc l f H1 D i H) (s : KeepB D H H') (hD : H' D = H D) (h : l[i]? = some a) (hl : l.length ≤ 1000000) (hy : y = f a) :
    ∃ acc, H' D = some (.lst acc) ∧ acc.length < sizeLine ∧ Acc l f H1 D (i + 1) (upd H' D (.lst (acc ++ [y]))) := by
  refine ⟨_, hD.trans k.2, ?_, (k.1.trans s).trans KeepB.put, ?_⟩
  · rw [List.length_map, List.length_take]
    have : sizeLine = 16777216 := sizeLine_eq
    omega
  · rw [upd_same, take_succ_map h, hy]
theorem Acc.step0 {i : Nat} {a : α} {y : V} (k : Acc l f H1 D i H) (h : l[i]? = some a) (hl : l.length ≤ 1000000) (hy : y = f a) :
    ∃ acc, H D = some (.lst acc) ∧ acc.length < sizeLine ∧ Acc l f H1 D (i + 1) (upd H D (.lst (acc ++ [y]))) := k.step (KeepB.refl _ _) rfl h hl hy
theorem Acc.all (k : Acc l f H1 D l.length H) : H D = some (.lst (l.map f)) := by
  have := k.2
  rwa [List.take_length] at this
theorem same_keepB (h : H1 D = none) (k : KeepB D H1 H) : Same H1 H := fun a o e => k a o (ne_of_none e h) e
theorem Acc.same {n : Nat} (k : Acc l f H1 D n H) (h : H1 D = none) : Same H1 H := same_keepB h k.1
end

/-! ### texts as lists of codes -/
abbrev cl (z : Str) : List Nat := z.cps.toList
theorem cl_get {z : Str} {i c : Nat} (h : z.cps[i]? = some c) : (cl z)[i]? = some c := by rw [Array.getElem?_toList]; exact h
theorem cl_len (z : Str) : (cl z).length = z.length := Array.length_toList
def letB (c : Nat) : Bool := decide (97 ≤ c) && decide (c ≤ 122)
def lettersB (z : Str) : Bool := (cl z).all letB
def ascB : List Nat → Bool
  | a :: b :: r => decide (a < b) && ascB (b :: r)
  | _ => true
theorem one_lt (c d : Nat) : decide (([c] : List Nat) < [d]) = decide (c < d) := by
  by_cases h : c < d
  · rw [decide_eq_true h, decide_eq_true]
    exact List.Lex.rel h
  · rw [decide_eq_false h, decide_eq_false]
    intro q
    cases q with
    | rel q => exact h q
    | cons q => cases q
theorem asc_zip : ∀ l : List Nat, ((l.zip l.tail).map fun p => decide (p.1 < p.2)).all id = ascB l
  | [] => rfl
  | [_] => rfl
  | a :: b :: r => by
    have ih := asc_zip (b :: r)
    show (decide (a < b) && (((b :: r).zip (b :: r).tail).map fun p => decide (p.1 < p.2)).all id) = (decide (a < b) && ascB (b :: r))
    rw [ih]
end KW
namespace KW
open PySem L2
theorem iteK {k : Bool} {A B : Prop} (h1 : k = true → A) (h2 : k = false → B) : if k = true then A else B := by
  cases k
  · rw [if_neg Bool.false_ne_true]; exact h2 rfl
  · rw [if_pos rfl]; exact h1 rfl
theorem cl_a : (Str.ofString "a").cps.toList = [97] := by decide +kernel
theorem cl_z : (Str.ofString "z").cps.toList = [122] := by decide +kernel
theorem le_a (c : Nat) : (!decide ((⟨#[c]⟩ : Str).cps.toList < (Str.ofString "a").cps.toList)) = decide (97 ≤ c) := by
  rw [cl_a, show (⟨#[c]⟩ : Str).cps.toList = [c] from rfl, one_lt]
  by_cases h : c < 97
  · rw [decide_eq_true h, decide_eq_false (by omega)]; rfl
  · rw [decide_eq_false h, decide_eq_true (by omega)]; rfl
theorem le_z (c : Nat) : (!decide ((Str.ofString "z").cps.toList < (⟨#[c]⟩ : Str).cps.toList)) = decide (c ≤ 122) := by
  rw [cl_z, show (⟨#[c]⟩ : Str).cps.toList = [c] from rfl, one_lt]
  by_cases h : 122 < c
  · rw [decide_eq_true h, decide_eq_false (by omega)]; rfl
  · rw [decide_eq_false h, decide_eq_true (by omega)]; rfl
theorem cut1 (z : Str) : cl (cutS z (some 1) none) = (cl z).tail := by
  show ((z.cps.toList.drop (HT.sIx z.length 0 (some 1))).take (HT.sIx z.length z.length none - HT.sIx z.length 0 (some 1))).toArray.toList = _
  have h1 : HT.sIx z.length z.length none = z.length := rfl
  have hl : z.cps.toList.length = z.length := Array.length_toList
  by_cases h : 1 ≤ z.length
  · have h0 : HT.sIx z.length 0 (some 1) = 1 := by
      unfold HT.sIx
      simp
      omega
    rw [h0, h1]
    show ((z.cps.toList.drop 1).take (z.length - 1)) = _
    rw [List.take_of_length_le (by rw [List.length_drop]; omega), List.drop_one]
  · have h2 : z.length = 0 := by omega
    have : z.cps.toList = [] := List.eq_nil_of_length_eq_zero (by omega)
    rw [show cl z = z.cps.toList from rfl, this]
    simp
end KW
namespace KW
open PySem L2
theorem szl {n : Nat} (h : n ≤ 1000000) : n ≤ sizeLine := by
  have : sizeLine = 16777216 := sizeLine_eq
  omega
theorem szt {n : Nat} (h : n ≤ 1000000) : n < sizeLine := by
  have : sizeLine = 16777216 := sizeLine_eq
  omega
end KW
namespace KW
open PySem L2
theorem Ty7.str_inv {K : PySem.W.Frag} {H : Hp} {x : V} (h : Ty7 K H x "str") : ∃ y, x = .str y := by
  obtain ⟨h, _⟩ := h
  generalize e : Value.type "str" = t at h
  cases h with
  | base b =>
    cases b <;> first | exact ⟨_, rfl⟩ | (exact absurd e (by simp)) | (simp at e)
  | _ => simp at e
theorem Ty7.int_inv {K : PySem.W.Frag} {H : Hp} {x : V} (h : Ty7 K H x "int") : ∃ y, x = .int y := by
  obtain ⟨h, _⟩ := h
  generalize e : Value.type "int" = t at h
  cases h with
  | base b =>
    cases b <;> first | exact ⟨_, rfl⟩ | (exact absurd e (by simp)) | (simp at e)
  | _ => simp at e
end KW

/-! values by kind; tokens as lists of values. -/
namespace KW
open PySem L2
def intV : V → Bool
  | .int _ => true
  | _ => false
def strV : V → Bool
  | .str _ => true
  | _ => false
def withinV (a b : Int) : V → Bool
  | .int i => decide (a ≤ i) && decide (i ≤ b)
  | _ => false
section
variable {K : PySem.W.Frag} {H : Hp}
theorem Ty7.int_iff {x : V} {n : String} (h : Ty7 K H x n) : (n == "int") = intV x := by
  obtain ⟨h, _⟩ := h
  generalize e : Value.type n = t at h
  cases h with
  | base b => cases b <;> first | (cases e; rfl) | (simp at e)
  | _ => cases e; rfl
theorem Ty7.str_iff {x : V} {n : String} (h : Ty7 K H x n) : (n == "str") = strV x := by
  obtain ⟨h, _⟩ := h
  generalize e : Value.type n = t at h
  cases h with
  | base b => cases b <;> first | (cases e; rfl) | (simp at e)
  | _ => cases e; rfl
theorem Ty7.of_tup {a : Addr} {xs : List V} (h : SqT K H a xs) : Ty7 K H (.ref a) "tuple" := by
  rcases h with (h | ⟨o, h⟩) | ⟨o, its, n, h, hc, _⟩
  · exact .tup h
  · exact ⟨.fTuple h, by decide⟩
  · exact ⟨.kTuple h hc, by decide⟩
theorem Ty7.of_lst {a : Addr} {xs : List V} (h : SqL K H a xs) : Ty7 K H (.ref a) "list" := by
  rcases h with (h | ⟨o, h⟩) | ⟨o, its, n, h, hc, _⟩
  · exact .lst h
  · exact ⟨.base (.frz h), by decide⟩
  · exact ⟨.kList h hc, by decide⟩
end
/-- a text over signs; a choice -/
def overB (z y : Str) : Bool := (cl y).all fun c => decide (c ∈ cl z)
def choiceB (z y : Str) : Bool := decide (1 ≤ y.length) && decide (y.length ≤ z.length) && overB z y && ascB (cl y)
def signsB (z : Str) : Bool := decide (2 ≤ z.length) && decide (z.length ≤ 6) && lettersB z && ascB (cl z)
/-- a tuple's items are a token over z -/
def tokV (z : Str) : List V → Bool
  | [.str k] => decide (k = "flush")
  | [.str k, .str y] => (decide (k = "text") && overB z y && decide (1 ≤ y.length) && decide (y.length ≤ 40)) || (decide (k = "any") && choiceB z y)
  | [.str k, x, y] => (decide (k = "copy") || decide (k = "say")) && withinV 1 12 x && withinV 1 40 y
  | _ => false
def sizeV : List V → Int
  | [.str k] => 0
  | [.str k, .str y] => if k = "any" then 1 else (y.length : Int)
  | [_, _, .int n] => n
  | _ => 0
end KW
namespace KW
open PySem L2
/-- how a token's items look -/
theorem tok_inv {z : Str} {xs : List V} (h : tokV z xs = true) : ∃ (kd : Str) (rest : List V), xs = .str kd :: rest ∧
    ((kd = "flush" ∧ rest = []) ∨ (∃ y : Str, kd = "text" ∧ rest = [.str y] ∧ overB z y = true ∧ 1 ≤ y.length ∧ y.length ≤ 40) ∨ (∃ y : Str, kd = "any" ∧ rest = [.str y] ∧ choiceB z y = true) ∨
      ∃ d n : Int, (kd = "copy" ∨ kd = "say") ∧ rest = [.int d, .int n] ∧ 1 ≤ d ∧ d ≤ 12 ∧ 1 ≤ n ∧ n ≤ 40) := by
  unfold tokV at h
  split at h
  · exact ⟨_, _, rfl, .inl ⟨of_decide_eq_true h, rfl⟩⟩
  · rename_i k y
    refine ⟨_, _, rfl, ?_⟩
    rw [Bool.or_eq_true] at h
    rcases h with h | h
    · simp only [Bool.and_eq_true, decide_eq_true_eq] at h
      exact .inr (.inl ⟨y, h.1.1.1, rfl, h.1.1.2, h.1.2, h.2⟩)
    · simp only [Bool.and_eq_true, decide_eq_true_eq] at h
      exact .inr (.inr (.inl ⟨y, h.1, rfl, h.2⟩))
  · rename_i k x y
    refine ⟨_, _, rfl, ?_⟩
    simp only [Bool.and_eq_true, Bool.or_eq_true, decide_eq_true_eq] at h
    obtain ⟨⟨h1, h2⟩, h3⟩ := h
    cases x with
    | int d =>
      cases y with
      | int n =>
        simp only [withinV, Bool.and_eq_true, decide_eq_true_eq] at h2 h3
        exact .inr (.inr (.inr ⟨d, n, h1, rfl, h2.1, h2.2, h3.1, h3.2⟩))
      | _ => simp [withinV] at h3
    | _ => simp [withinV] at h2
  · simp at h
end KW
namespace KW
open PySem L2
theorem iteStY {a : Str} {A B : Prop} (h : A) : if decide (V.str a = V.str a) = true then A else B := iteD (fun _ => h) fun e => absurd rfl e
theorem iteStN {a b : Str} {A B : Prop} (n : a ≠ b) (h : B) : if decide (V.str a = V.str b) = true then A else B := iteD (fun e => absurd (V.str.inj e) n) fun _ => h
theorem iteStNS {a b : Str} {A B : Prop} (n : a ≠ b) (h : A) : if (!decide (V.str a = V.str b)) = true then A else B := iteK (fun _ => h) fun e => by
  rw [decide_eq_false (fun q => n (V.str.inj q))] at e
  cases e
end KW
namespace KW
open PySem L2
theorem sizeV_text (y : Str) : sizeV [.str "text", .str y] = (y.length : Int) := by
  show (if ("text" : Str) = "any" then (1 : Int) else (y.length : Int)) = _
  exact if_neg (by decide +kernel)
theorem sizeV_any (y : Str) : sizeV [.str "any", .str y] = 1 := by
  show (if ("any" : Str) = "any" then (1 : Int) else (y.length : Int)) = _
  exact if_pos rfl
theorem iteDY {c A B : Prop} [Decidable c] (n : c) (h : A) : if decide c = true then A else B := iteD (fun _ => h) fun e => absurd n e
theorem iteDN {c A B : Prop} [Decidable c] (n : ¬ c) (h : B) : if decide c = true then A else B := iteD (fun e => absurd e n) fun _ => h
theorem iteKY {k : Bool} {A B : Prop} (n : k = true) (h : A) : if k = true then A else B := iteK (fun _ => h) fun e => by rw [n] at e; cases e
theorem iteKN {k : Bool} {A B : Prop} (n : k = false) (h : B) : if k = true then A else B := iteK (fun e => by rw [n] at e; cases e) fun _ => h
end KW
namespace KW
open PySem L2
theorem sqT_same {K : PySem.W.Frag} {H H' : Hp} {a : Addr} {xs : List V} (e : Same H H') (h : SqT K H a xs) : SqT K H' a xs := by
  rcases h with (h | ⟨o, h⟩) | h
  · exact .inl (.inl (e _ _ h))
  · exact .inl (.inr ⟨o, e _ _ h⟩)
  · exact .inr h
end KW

/-! Lists of tokens, their sizes, places, needs. -/
namespace KW
open PySem L2

/-! ### pairs of lists -/
theorem paired_get {α β : Type} {F : α → β → Prop} : ∀ {l : List α} {m : List β} {i : Nat} {x : α}, Paired F l m → l[i]? = some x → ∃ y, m[i]? = some y ∧ F x y
  | _, _, i, _, .nil, e => by simp at e
  | _, _, 0, _, .cons r _, e => by simp at e; subst e; exact ⟨_, rfl, r⟩
  | _, _, i + 1, x, .cons _ t, e => by
    obtain ⟨u, h1, h2⟩ := paired_get (i := i) (x := x) t (by simpa using e)
    exact ⟨u, by simpa using h1, h2⟩
theorem paired_app {α β : Type} {F : α → β → Prop} : ∀ {l l' : List α} {m m' : List β}, Paired F l m → Paired F l' m' → Paired F (l ++ l') (m ++ m')
  | _, _, _, _, .nil, s => s
  | _, _, _, _, .cons r t, s => .cons r (paired_app t s)
theorem paired_one {α β : Type} {F : α → β → Prop} {x : α} {y : β} (h : F x y) : Paired F [x] [y] := .cons h .nil
theorem paired_take {α β : Type} {F : α → β → Prop} : ∀ {l : List α} {m : List β} (n : Nat), Paired F l m → Paired F (l.take n) (m.take n)
  | _, _, 0, _ => .nil
  | _, _, _ + 1, .nil => .nil
  | _, _, n + 1, .cons r t => .cons r (paired_take n t)
theorem paired_drop {α β : Type} {F : α → β → Prop} : ∀ {l : List α} {m : List β} (n : Nat), Paired F l m → Paired F (l.drop n) (m.drop n)
  | _, _, 0, r => r
  | _, _, _ + 1, .nil => .nil
  | _, _, n + 1, .cons _ t => paired_drop n t
theorem paired_len {α β : Type} {F : α → β → Prop} {l : List α} {m : List β} (h : Paired F l m) : l.length = m.length := Paired.length h
theorem paired_mono {α β : Type} {F G : α → β → Prop} : ∀ {l : List α} {m : List β}, Paired F l m → (∀ a b, F a b → G a b) → Paired G l m
  | _, _, .nil, _ => .nil
  | _, _, .cons r t, f => .cons (f _ _ r) (paired_mono t f)
theorem paired_rep {α β : Type} {F : α → β → Prop} {x : α} {y : β} (h : F x y) : ∀ n : Nat, Paired F (List.replicate n x) (List.replicate n y)
  | 0 => .nil
  | n + 1 => .cons h (paired_rep h n)
theorem paired_all {α β : Type} {F : α → β → Prop} {l : List α} {m : List β} (h : Paired F l m) : ∀ y ∈ m, ∃ x ∈ l, F x y := by
  induction h with
  | nil => intro y hy; cases hy
  | cons r t ih =>
    intro y hy
    rcases List.mem_cons.mp hy with rfl | hy
    · exact ⟨_, List.mem_cons_self, r⟩
    · obtain ⟨x, hx, hr⟩ := ih y hy
      exact ⟨x, List.mem_cons_of_mem _ hx, hr⟩

/-! ### tokens and places in the heap -/
def TupAt (K : PySem.W.Frag) (H : Hp) (v : V) (xs : List V) : Prop := ∃ a, v = .ref a ∧ SqT K H a xs
def TokAt (K : PySem.W.Frag) (H : Hp) (z : Str) (v : V) (xs : List V) : Prop := TupAt K H v xs ∧ tokV z xs = true
theorem TupAt.keep {K : PySem.W.Frag} {H H' : Hp} {b : Addr} {v : V} {xs : List V} (k : KeepB b H H') (hb : ∀ ys o, H b ≠ some (.tup ys) ∧ H b ≠ some (.frz o (.tup ys))) (h : TupAt K H v xs) : TupAt K H' v xs := by
  obtain ⟨a, rfl, h⟩ := h
  refine ⟨a, rfl, ?_⟩
  rcases h with (h | ⟨o, h⟩) | h
  · exact .inl (.inl (k _ _ (fun e => (hb xs (default : Obj)).1 (e ▸ h)) h))
  · exact .inl (.inr ⟨o, k _ _ (fun e => (hb xs o).2 (e ▸ h)) h⟩)
  · exact .inr h
theorem TupAt.same {K : PySem.W.Frag} {H H' : Hp} {v : V} {xs : List V} (k : Same H H') (h : TupAt K H v xs) : TupAt K H' v xs := by
  obtain ⟨a, rfl, h⟩ := h
  exact ⟨a, rfl, sqT_same k h⟩
/-- what stands at b is a list (or nothing) -/
def LstOrNo (H : Hp) (b : Addr) : Prop := H b = none ∨ (∃ xs, H b = some (.lst xs)) ∨ ∃ C dx fs, H b = some (.ins C dx fs)
theorem LstOrNo.no {H : Hp} {b : Addr} (h : LstOrNo H b) : ∀ ys o, H b ≠ some (.tup ys) ∧ H b ≠ some (.frz o (.tup ys)) := fun ys o => by
  rcases h with h | ⟨xs, h⟩ | ⟨C, dx, fs, h⟩ <;> (rw [h]; exact ⟨fun e => (by cases e), fun e => (by cases e)⟩)
theorem BagAt.lst {H : Hp} {b c : Addr} (h : BagAt H b c) : LstOrNo H b := by
  obtain ⟨p, q, n, cs, hb, _⟩ := h
  exact .inr (.inl ⟨_, hb⟩)
abbrev Toks (K : PySem.W.Frag) (H : Hp) (z : Str) : List V → List (List V) → Prop := Paired (TokAt K H z)
theorem Toks.keep {K : PySem.W.Frag} {H H' : Hp} {b : Addr} {z : Str} {vs : List V} {ts : List (List V)} (k : KeepB b H H') (hb : LstOrNo H b) (h : Toks K H z vs ts) : Toks K H' z vs ts :=
  paired_mono h fun _ _ t => ⟨t.1.keep k hb.no, t.2⟩
theorem Toks.same {K : PySem.W.Frag} {H H' : Hp} {z : Str} {vs : List V} {ts : List (List V)} (k : Same H H') (h : Toks K H z vs ts) : Toks K H' z vs ts :=
  paired_mono h fun _ _ t => ⟨t.1.same k, t.2⟩
def tsize (ts : List (List V)) : Int := (ts.map sizeV).sum
theorem tsize_nil : tsize [] = 0 := rfl
theorem tsize_cons (t : List V) (ts : List (List V)) : tsize (t :: ts) = sizeV t + tsize ts := by unfold tsize; rw [List.map_cons, List.sum_cons]
theorem tsize_app (ts us : List (List V)) : tsize (ts ++ us) = tsize ts + tsize us := by
  induction ts with
  | nil => rw [List.nil_append, tsize_nil]; omega
  | cons t ts ih => rw [List.cons_append, tsize_cons, tsize_cons, ih]; omega
theorem size_nn {z : Str} {t : List V} (h : tokV z t = true) : 0 ≤ sizeV t ∧ sizeV t ≤ 40 := by
  obtain ⟨kd, rest, rfl, hk⟩ := tok_inv h
  rcases hk with ⟨rfl, rfl⟩ | ⟨y, rfl, rfl, h1, h2, h3⟩ | ⟨y, rfl, rfl, h1⟩ | ⟨d, n, hkd, rfl, h1, h2, h3, h4⟩
  · exact ⟨Int.le_refl _, by decide⟩
  · rw [sizeV_text]; omega
  · rw [sizeV_any]; decide
  · show 0 ≤ n ∧ n ≤ 40; omega
theorem tsize_nn {z : Str} {ts : List (List V)} (h : ∀ t ∈ ts, tokV z t = true) : 0 ≤ tsize ts := by
  induction ts with
  | nil => exact Int.le_refl _
  | cons t ts ih =>
    rw [tsize_cons]
    have := (size_nn (h t List.mem_cons_self)).1
    have := ih fun u hu => h u (List.mem_cons_of_mem _ hu)
    omega
theorem Toks.ok {K : PySem.W.Frag} {H : Hp} {z : Str} {vs : List V} {ts : List (List V)} (h : Toks K H z vs ts) : ∀ t ∈ ts, tokV z t = true := fun t ht =>
  let ⟨_, _, r⟩ := paired_all h t ht
  r.2
def placeT : List V → List (List V)
  | [.str k, .str y] => if k = "any" then [[.str "hole", .str y]] else (cl y).map fun c => [.str "sign", .str ⟨#[c]⟩]
  | [k, .int d, .int n] => List.replicate n.toNat [k, .int d]
  | _ => []
def placesL (ts : List (List V)) : List (List V) := ts.flatMap placeT
theorem places_app (ts us : List (List V)) : placesL (ts ++ us) = placesL ts ++ placesL us := List.flatMap_append
theorem places_one (t : List V) : placesL [t] = placeT t := by
  unfold placesL
  simp
/-! ### what a piece needs -/
def stepN (t : List V) (fl : Option Int) (m w : Int) : Option (Option Int × Int × Int) :=
  match t with
  | [.str _] => some (some w, m, w)
  | [.str k, .str y] => some (fl, m, w + sizeV [.str k, .str y])
  | [.str k, .int d, .int n] =>
    if k = "copy" then
      match fl with
      | none => some (none, if d - w > m then d - w else m, w + n)
      | some f => if w - f < d then none else some (some f, m, w + n)
    else some (fl, m, w + n)
  | _ => some (fl, m, w)
def needsL : List (List V) → Option Int → Int → Int → V
  | [], _, m, _ => .int m
  | t :: r, fl, m, w => match stepN t fl m w with
    | none => .non
    | some (fl', m', w') => needsL r fl' m' w'
def optV : Option Int → V
  | none => .non
  | some f => .int f
def shiftV (k : Int) : V → V
  | .int n => .int (if n - k > 0 then n - k else 0)
  | v => v
theorem needs_shift {z : Str} {k : Int} : ∀ (ts : List (List V)), (∀ t ∈ ts, tokV z t = true) → ∀ (fl : Option Int) (m w : Int), needsL ts (fl.map (· + k)) (if m - k > 0 then m - k else 0) (w + k) = shiftV k (needsL ts fl m w) := by
  intro ts
  induction ts with
  | nil => intro _ fl m w; rfl
  | cons t r ih =>
    intro h fl m w
    have hr : ∀ t ∈ r, tokV z t = true := fun u hu => h u (List.mem_cons_of_mem _ hu)
    obtain ⟨kd, rest, rfl, hk⟩ := tok_inv (h t List.mem_cons_self)
    rcases hk with ⟨rfl, rfl⟩ | ⟨y, rfl, rfl, h1, h2, h3⟩ | ⟨y, rfl, rfl, h1⟩ | ⟨d, n, hkd, rfl, h1, h2, h3, h4⟩
    · exact ih hr (some w) m w
    · have e := ih hr fl m (w + sizeV [.str "text", .str y])
      rw [show w + sizeV [.str "text", .str y] + k = w + k + sizeV [.str "text", .str y] by omega] at e
      exact e
    · have e := ih hr fl m (w + sizeV [.str "any", .str y])
      rw [show w + sizeV [.str "any", .str y] + k = w + k + sizeV [.str "any", .str y] by omega] at e
      exact e
    · by_cases hc : kd = "copy"
      · cases fl with
        | none =>
          have e := ih hr none (if d - w > m then d - w else m) (w + n)
          show needsL _ _ _ _ = _
          unfold needsL stepN
          simp only [if_pos hc, Option.map_none]
          rw [show w + k + n = w + n + k by omega]
          rw [← show _ = shiftV k (needsL r none (if d - w > m then d - w else m) (w + n)) from e]
          congr 1
          repeat' split
          all_goals omega
        | some f =>
          unfold needsL stepN
          simp only [if_pos hc, Option.map_some]
          by_cases hd : w - f < d
          · rw [if_pos (by omega), if_pos hd]
            rfl
          · rw [if_neg (by omega), if_neg hd]
            have e := ih hr (some f) m (w + n)
            rw [show w + k + n = w + n + k by omega]
            exact e
      · unfold needsL stepN
        simp only [if_neg hc]
        have e := ih hr fl m (w + n)
        rw [show w + k + n = w + n + k by omega]
        exact e
theorem needs_le {z : Str} : ∀ (ts : List (List V)), (∀ t ∈ ts, tokV z t = true) → ∀ (fl : Option Int) (m w : Int), 0 ≤ m → m ≤ 12 → 0 ≤ w → needsL ts fl m w = .non ∨ ∃ n, needsL ts fl m w = .int n ∧ 0 ≤ n ∧ n ≤ 12 := by
  intro ts
  induction ts with
  | nil => intro _ fl m w h0 h1 _; exact .inr ⟨m, rfl, h0, h1⟩
  | cons t r ih =>
    intro h fl m w m0 m1 w0
    have hr : ∀ t ∈ r, tokV z t = true := fun u hu => h u (List.mem_cons_of_mem _ hu)
    have hz := size_nn (h t List.mem_cons_self)
    obtain ⟨kd, rest, rfl, hk⟩ := tok_inv (h t List.mem_cons_self)
    rcases hk with ⟨rfl, rfl⟩ | ⟨y, rfl, rfl, h1, h2, h3⟩ | ⟨y, rfl, rfl, h1⟩ | ⟨d, n, hkd, rfl, h1, h2, h3, h4⟩
    · exact ih hr (some w) m w m0 m1 w0
    · exact ih hr fl m (w + sizeV [.str "text", .str y]) m0 m1 (by omega)
    · exact ih hr fl m (w + sizeV [.str "any", .str y]) m0 m1 (by omega)
    · by_cases hc : kd = "copy"
      · cases fl with
        | none =>
          unfold needsL stepN
          simp only [if_pos hc]
          exact ih hr none _ (w + n) (by split <;> omega) (by split <;> omega) (by omega)
        | some f =>
          unfold needsL stepN
          simp only [if_pos hc]
          by_cases hd : w - f < d
          · rw [if_pos hd]; exact .inl rfl
          · rw [if_neg hd]; exact ih hr (some f) m (w + n) m0 m1 (by omega)
      · unfold needsL stepN
        simp only [if_neg hc]
        exact ih hr fl m (w + n) m0 m1 (by omega)
theorem reprOk_small {n : Int} (h0 : 0 ≤ n) (h1 : n ≤ 1000) : ReprOk (.int n) := by
  show n.natAbs.log2 < 1920
  have := Nat.log2_le_self n.natAbs
  omega
theorem needs_repr {z : Str} {ts : List (List V)} (h : ∀ t ∈ ts, tokV z t = true) : ReprOk (needsL ts none 0 0) ∧ scal (needsL ts none 0 0) (needsL ts none 0 0) = true := by
  rcases needs_le ts h none 0 0 (by omega) (by omega) (by omega) with e | ⟨n, e, h0, h1⟩
  · rw [e]; exact ⟨trivial, rfl⟩
  · rw [e]; exact ⟨reprOk_small h0 (by omega), rfl⟩
/-! ### a piece in the heap -/
def pf (z : Str) (l p : Addr) : List (Str × V) := putF "_places" (.ref p) (putF "_tokens" (.ref l) (putF "_signs" (.str z) []))
theorem nst : ¬ (("_signs" : Str) = "_tokens") := by decide +kernel
theorem nsp : ¬ (("_signs" : Str) = "_places") := by decide +kernel
theorem ntp : ¬ (("_tokens" : Str) = "_places") := by decide +kernel
theorem pf_signs (z : Str) (l p : Addr) : (pf z l p).lookup ("_signs" : Str) = some (.str z) := by
  unfold pf
  rw [lookup_putF, if_neg nsp, lookup_putF, if_neg nst, lookup_putF, if_pos rfl]
theorem pf_tokens (z : Str) (l p : Addr) : (pf z l p).lookup ("_tokens" : Str) = some (.ref l) := by
  unfold pf
  rw [lookup_putF, if_neg ntp, lookup_putF, if_pos rfl]
theorem pf_places (z : Str) (l p : Addr) : (pf z l p).lookup ("_places" : Str) = some (.ref p) := by
  unfold pf
  rw [lookup_putF, if_pos rfl]
theorem pf_no (z : Str) (l p : Addr) {m : Str} (h1 : ¬ m = "_signs") (h2 : ¬ m = "_tokens") (h3 : ¬ m = "_places") : (pf z l p).lookup m = none := by
  unfold pf
  rw [lookup_putF, if_neg h3, lookup_putF, if_neg h2, lookup_putF, if_neg h1]
  rfl
abbrev Plcs (K : PySem.W.Frag) (H : Hp) : List V → List (List V) → Prop := Paired (TupAt K H)
theorem Plcs.keep {K : PySem.W.Frag} {H H' : Hp} {b : Addr} {vs : List V} {ps : List (List V)} (k : KeepB b H H') (hb : LstOrNo H b) (h : Plcs K H vs ps) : Plcs K H' vs ps :=
  paired_mono h fun _ _ t => t.keep k hb.no
theorem Plcs.same {K : PySem.W.Frag} {H H' : Hp} {vs : List V} {ps : List (List V)} (k : Same H H') (h : Plcs K H vs ps) : Plcs K H' vs ps :=
  paired_mono h fun _ _ t => t.same k
def PieceAt (K : PySem.W.Frag) (C : Addr) (H : Hp) (a : Addr) (z : Str) (ts : List (List V)) : Prop :=
  ∃ (dx l p : Addr) (tvs pvs : List V), H a = some (.ins C dx (pf z l p)) ∧ H l = some (.lst tvs) ∧ Toks K H z tvs ts ∧ H p = some (.lst pvs) ∧ Plcs K H pvs (placesL ts)
end KW

/-! Drawn texts: signs, words, choices. -/
namespace KW
open PySem L2
theorem at_mem {α : Type} {xs : List α} {r : Int} (h0 : 0 ≤ r) (h1 : r < (xs.length : Int)) : ∃ v, v ∈ xs ∧ atI xs r = some v := by
  have hl : r.toNat < xs.length := by omega
  refine ⟨xs[r.toNat], List.getElem_mem hl, ?_⟩
  have e : ixN xs.length r = some r.toNat := by
    unfold ixN
    rw [if_pos h0, if_pos h1]
  unfold atI
  rw [e]
  exact List.getElem?_eq_getElem hl
/-- one sign as a text -/
abbrev sg (c : Nat) : Str := ⟨#[c]⟩
theorem join_signs (cs : List Nat) : Txt.join (Str.ofString "") (cs.map sg) = (⟨cs.toArray⟩ : Str) := by
  have e : (Str.ofString "") = SX.S [] := by decide +kernel
  have e2 : cs.map sg = (cs.map fun c => [c]).map SX.S := by
    rw [List.map_map]; rfl
  rw [e, e2, SX.join_S]
  refine congrArg SX.S ?_
  clear e e2
  induction cs with
  | nil => rfl
  | cons c cs ih =>
    cases cs with
    | nil => rfl
    | cons d ds =>
      show [c] ++ ([] ++ TL.joinL [] ((d :: ds).map fun c => [c])) = c :: d :: ds
      rw [ih]
      rfl
theorem len_of (cs : List Nat) : (⟨cs.toArray⟩ : Str).length = cs.length := by simp [Str.length]
theorem cl_of (cs : List Nat) : cl (⟨cs.toArray⟩ : Str) = cs := by simp [cl]
theorem sum_ones (cs : List Nat) : ((cs.map sg).map (·.length)).sum + (cs.map sg).length * (Str.ofString "").length = cs.length := by
  have e : (Str.ofString "").length = 0 := by decide +kernel
  rw [e, Nat.mul_zero, Nat.add_zero, List.map_map]
  induction cs with
  | nil => rfl
  | cons c cs ih =>
    rw [List.map_cons, List.sum_cons, ih]
    show 1 + cs.length = cs.length + 1
    omega
/-- ascending lists -/
theorem asc_pw : ∀ {l : List Nat}, ascB l = true → l.Pairwise (· < ·)
  | [], _ => .nil
  | [a], _ => by simp
  | a :: b :: r, h => by
    have h' : (decide (a < b) && ascB (b :: r)) = true := h
    rw [Bool.and_eq_true, decide_eq_true_eq] at h'
    have ih := asc_pw h'.2
    refine List.pairwise_cons.mpr ⟨fun x hx => ?_, ih⟩
    rcases List.mem_cons.mp hx with rfl | hx
    · exact h'.1
    · exact Nat.lt_trans h'.1 ((List.pairwise_cons.mp ih).1 x hx)
theorem pw_asc : ∀ {l : List Nat}, l.Pairwise (· < ·) → ascB l = true
  | [], _ => rfl
  | [a], _ => rfl
  | a :: b :: r, h => by
    obtain ⟨h1, h2⟩ := List.pairwise_cons.mp h
    show (decide (a < b) && ascB (b :: r)) = true
    rw [Bool.and_eq_true, decide_eq_true_eq]
    exact ⟨h1 b List.mem_cons_self, pw_asc h2⟩
/-- the signs that a law draws -/
def SignsOk (z : Str) : Prop := signsB z = true
theorem SignsOk.len {z : Str} (h : SignsOk z) : 2 ≤ z.length ∧ z.length ≤ 6 := by
  unfold SignsOk signsB at h
  simp only [Bool.and_eq_true, decide_eq_true_eq] at h
  exact ⟨h.1.1.1, h.1.1.2⟩
theorem SignsOk.asc {z : Str} (h : SignsOk z) : ascB (cl z) = true := by
  unfold SignsOk signsB at h
  simp only [Bool.and_eq_true, decide_eq_true_eq] at h
  exact h.2
theorem choice_sub {z : Str} {cs : List Nat} (h : SignsOk z) (hs : cs.Sublist (cl z)) (hn : cs ≠ []) : choiceB z (⟨cs.toArray⟩ : Str) = true := by
  unfold choiceB
  simp only [Bool.and_eq_true, decide_eq_true_eq]
  rw [len_of]
  refine ⟨⟨⟨List.length_pos_iff.mpr hn, ?_⟩, ?_⟩, ?_⟩
  · have := hs.length_le
    rwa [cl_len] at this
  · unfold overB
    rw [cl_of, List.all_eq_true]
    intro c hc
    exact decide_eq_true (hs.subset hc)
  · rw [cl_of]
    exact pw_asc ((asc_pw h.asc).sublist hs)
theorem choice_all {z : Str} (h : SignsOk z) : choiceB z z = true := by
  have e := choice_sub (cs := cl z) h (List.Sublist.refl _) (by
    intro e
    have := cl_len z
    rw [e] at this
    have := h.len
    simp at *
    omega)
  have e2 : (⟨(cl z).toArray⟩ : Str) = z := by simp [cl]
  rwa [e2] at e
theorem over_of {z : Str} {cs : List Nat} (h : ∀ c ∈ cs, c ∈ cl z) : overB z (⟨cs.toArray⟩ : Str) = true := by
  unfold overB
  rw [cl_of, List.all_eq_true]
  intro c hc
  exact decide_eq_true (h c hc)
theorem tok_text {z y : Str} (h1 : overB z y = true) (h2 : 1 ≤ y.length) (h3 : y.length ≤ 40) : tokV z [.str "text", .str y] = true := by
  show ((decide (("text" : Str) = "text") && overB z y && decide (1 ≤ y.length) && decide (y.length ≤ 40)) || _) = true
  rw [h1, decide_eq_true h2, decide_eq_true h3, decide_eq_true (rfl : ("text" : Str) = "text")]
  rfl
theorem tok_any {z y : Str} (h : choiceB z y = true) : tokV z [.str "any", .str y] = true := by
  show ((decide (("any" : Str) = "text") && overB z y && decide (1 ≤ y.length) && decide (y.length ≤ 40)) || (decide (("any" : Str) = "any") && choiceB z y)) = true
  rw [h, decide_eq_true (rfl : ("any" : Str) = "any")]
  exact Bool.or_true _
theorem tok_copy {z : Str} {d n : Int} (h1 : 1 ≤ d) (h2 : d ≤ 12) (h3 : 1 ≤ n) (h4 : n ≤ 40) : tokV z [.str "copy", .int d, .int n] = true := by
  show ((decide (("copy" : Str) = "copy") || decide (("copy" : Str) = "say")) && (decide (1 ≤ d) && decide (d ≤ 12)) && (decide (1 ≤ n) && decide (n ≤ 40))) = true
  rw [decide_eq_true h1, decide_eq_true h2, decide_eq_true h3, decide_eq_true h4, decide_eq_true (rfl : ("copy" : Str) = "copy")]
  rfl
theorem tok_say {z : Str} {d n : Int} (h1 : 1 ≤ d) (h2 : d ≤ 12) (h3 : 1 ≤ n) (h4 : n ≤ 40) : tokV z [.str "say", .int d, .int n] = true := by
  show ((decide (("say" : Str) = "copy") || decide (("say" : Str) = "say")) && (decide (1 ≤ d) && decide (d ≤ 12)) && (decide (1 ≤ n) && decide (n ≤ 40))) = true
  rw [decide_eq_true h1, decide_eq_true h2, decide_eq_true h3, decide_eq_true h4, decide_eq_true (rfl : ("say" : Str) = "say"), Bool.or_true]
  rfl
theorem tok_flush {z : Str} : tokV z [.str "flush"] = true := by
  show decide (("flush" : Str) = "flush") = true
  exact decide_eq_true rfl
/-- all kept but two -/
def Keep2 (b D : Addr) (H H' : Hp) : Prop := ∀ a o, a ≠ b → a ≠ D → H a = some o → H' a = some o
theorem Keep2.trans {b D : Addr} {H H1 H2 : Hp} (x : Keep2 b D H H1) (y : Keep2 b D H1 H2) : Keep2 b D H H2 := fun a o n m h => y a o n m (x a o n m h)
theorem Keep2.of {b D : Addr} {H H1 : Hp} (x : KeepB b H H1) : Keep2 b D H H1 := fun a o n _ h => x a o n h
theorem Keep2.of2 {b D : Addr} {H H1 : Hp} (x : KeepB D H H1) : Keep2 b D H H1 := fun a o _ n h => x a o n h
theorem Keep2.free {b D : Addr} {H H1 : Hp} (x : Keep2 b D H H1) (h : H D = none) : KeepB b H H1 := fun a o n e => x a o n (ne_of_none e h) e
theorem BagAt.isB {H : Hp} {b c : Addr} (h : BagAt H b c) : ∃ o, H b = some o := let ⟨_, _, _, _, hb, _⟩ := h; ⟨_, hb⟩
theorem BagAt.isC {H : Hp} {b c : Addr} (h : BagAt H b c) : ∃ o, H c = some o := let ⟨_, _, _, _, _, hc, _⟩ := h; ⟨_, hc⟩
theorem BagAt.neb {H : Hp} {b c D : Addr} (h : BagAt H b c) (hD : H D = none) : D ≠ b := by
  obtain ⟨o, e⟩ := h.isB
  exact (ne_of_none e hD).symm
theorem BagAt.nec {H : Hp} {b c D : Addr} (h : BagAt H b c) (hD : H D = none) : D ≠ c := by
  obtain ⟨o, e⟩ := h.isC
  exact (ne_of_none e hD).symm
theorem bag_keep {H H' : Hp} {b c D : Addr} (h : BagAt H b c) (k : KeepB D H H') (h1 : D ≠ b) (h2 : D ≠ c) : BagAt H' b c := by
  obtain ⟨p, q, n, cs, hb, hc, r⟩ := h
  exact ⟨p, q, n, cs, k _ _ (Ne.symm h1) hb, k _ _ (Ne.symm h2) hc, r⟩
theorem bag_upd {H : Hp} {b c D : Addr} {o : HO} (h : BagAt H b c) (hD : H D = none) : BagAt (upd H D o) b c := bag_keep h KeepB.put (h.neb hD) (h.nec hD)
theorem bag_same {H H' : Hp} {b c : Addr} (h : BagAt H b c) (k : Same H H') : BagAt H' b c := by
  obtain ⟨p, q, n, cs, hb, hc, r⟩ := h
  exact ⟨p, q, n, cs, k _ _ hb, k _ _ hc, r⟩
end KW

/-! A text times an int; takes of lists; new instances. -/
namespace KW
open PySem L2
section
variable {X : Cx}
theorem op_mul_str : OpR X (binaryOp .Mult) (fun x y H Q => ∃ a n, x = .str a ∧ y = .int n ∧ MulOk a n ∧ Q (.str (Txt.mul a n)) H) := by
  intro pins s σ H x y v u Q I rx ry h
  obtain ⟨a, n, rfl, rfl, hm, q⟩ := h
  obtain ⟨t, rfl⟩ := rx
  obtain ⟨t', rfl⟩ := ry
  exact SB.mul hm fun t' k => ⟨.str (Txt.mul a n), H, I.tok _, ⟨_, rfl⟩, q⟩
end
theorem mulOk_sg {c : Nat} {n : Int} (h0 : 1 ≤ n) (h1 : n ≤ 1000) : MulOk (sg c) n := by
  have hl : (sg c).length = 1 := rfl
  refine ⟨?_, ?_, ?_⟩
  · rw [decide_eq_false (by omega), decide_eq_false (by omega)]; rfl
  · intro _ _
    rw [hl]
    have : (1 : Int) ≤ (2 ^ 63 - 1) / n := by
      rw [Int.le_ediv_iff_mul_le (by omega)]
      omega
    omega
  · intro _ _
    rw [hl]
    unfold Builtin.Str.tooLong
    simp only [decide_eq_false_iff_not]
    have := sizeLine_eq
    omega
end KW
namespace KW
open PySem L2
theorem foldl_one (c : Nat) : ∀ (n : Nat) (l : List Nat), (List.replicate n (#[c] : Array Nat)).foldl (· ++ ·) l.toArray = (l ++ List.replicate n c).toArray
  | 0, l => by simp
  | n + 1, l => by
    rw [List.replicate_succ, List.foldl_cons]
    have e : l.toArray ++ #[c] = (l ++ [c]).toArray := by simp
    rw [e, foldl_one c n (l ++ [c]), List.replicate_succ, List.append_assoc]
    rfl
theorem mul_sg {c : Nat} {n : Int} (h0 : 1 ≤ n) : Txt.mul (sg c) n = ⟨(List.replicate n.toNat c).toArray⟩ := by
  unfold Txt.mul
  rw [if_neg (by omega)]
  by_cases h : n = 1
  · subst h; rfl
  · have hl : (sg c).length = 1 := rfl
    rw [if_neg (by rw [hl]; simp [h])]
    have e := foldl_one c n.toNat []
    rw [List.nil_append] at e
    exact congrArg Str.mk e
/-- the keeping of a list of tokens through a list that stands apart -/
theorem Toks.keepN {K : PySem.W.Frag} {H H' : Hp} {b : Addr} {z : Str} {vs : List V} {ts : List (List V)} (k : KeepB b H H') (hb : H b = none) (h : Toks K H z vs ts) : Toks K H' z vs ts := h.keep k (.inl hb)
theorem tsize_take {z : Str} {ts : List (List V)} {i j : Nat} (h : ∀ t ∈ ts, tokV z t = true) (hij : i ≤ j) : tsize (ts.take i) ≤ tsize (ts.take j) := by
  have e : ts.take j = ts.take i ++ (ts.take j).drop i := by
    have := List.take_append_drop i (ts.take j)
    rw [List.take_take, Nat.min_eq_left hij] at this
    exact this.symm
  rw [e, tsize_app]
  have := tsize_nn (ts := (ts.take j).drop i) (z := z) fun t ht => h t (List.mem_of_mem_take (List.mem_of_mem_drop ht))
  omega
theorem tsize_take_le {z : Str} {ts : List (List V)} {i : Nat} (h : ∀ t ∈ ts, tokV z t = true) : tsize (ts.take i) ≤ tsize ts := by
  have e : ts = ts.take i ++ ts.drop i := (List.take_append_drop i ts).symm
  have := tsize_nn (ts := ts.drop i) (z := z) fun t ht => h t (List.mem_of_mem_drop ht)
  have e2 := congrArg tsize e
  rw [tsize_app] at e2
  omega
theorem take_succ' {α : Type} {l : List α} {i : Nat} {a : α} (h : l[i]? = some a) : l.take (i + 1) = l.take i ++ [a] := by
  rw [List.take_add_one, h]; rfl
theorem tsize_step {ts : List (List V)} {i : Nat} {t : List V} (h : ts[i]? = some t) : tsize (ts.take (i + 1)) = tsize (ts.take i) + sizeV t := by
  rw [take_succ' h, tsize_app, tsize_cons, tsize_nil, Int.add_zero]
end KW
namespace KW
open PySem L2
theorem iteNeF {A B : Prop} {x : V} (h : B) : if (!decide (x = x)) = true then A else B := by
  rw [decide_eq_true rfl]
  exact h
theorem iteNeT {A B : Prop} {x y : Str} (e : ¬ x = y) (h : A) : if (!decide (V.str x = V.str y)) = true then A else B := by
  rw [decide_eq_false fun q => e (V.str.inj q)]
  exact h
end KW
namespace KW
open PySem L2
theorem ins_lst {H : Hp} {b : Addr} {C dx : Addr} {fs : List (Str × V)} (h : H b = some (.ins C dx fs)) : LstOrNo H b := .inr (.inr ⟨C, dx, fs, h⟩)
theorem sqL_keep {K : PySem.W.Frag} {H H' : Hp} {b a C dx : Addr} {fs : List (Str × V)} {xs : List V} (k : KeepB b H H') (hb : H b = some (.ins C dx fs)) (h : SqL K H a xs) : SqL K H' a xs := by
  rcases h with (h | ⟨o, h⟩) | h
  · exact .inl (.inl (k _ _ (fun e => by rw [e, hb] at h; cases h) h))
  · exact .inl (.inr ⟨o, k _ _ (fun e => by rw [e, hb] at h; cases h) h⟩)
  · exact .inr h
end KW
namespace KW
open PySem L2
theorem KeepB.back {b p : Addr} {H H' : Hp} (k : KeepB b H H') (h : H' p = none) (n : p ≠ b) : H p = none := by
  cases e : H p with
  | none => rfl
  | some o => rw [k p o n e] at h; cases h
theorem Keep2.back {b D p : Addr} {H H' : Hp} (k : Keep2 b D H H') (h : H' p = none) (n : p ≠ b) (m : p ≠ D) : H p = none := by
  cases e : H p with
  | none => rfl
  | some o => rw [k p o n m e] at h; cases h
theorem lst_lst {H : Hp} {b : Addr} {xs : List V} (h : H b = some (.lst xs)) : LstOrNo H b := .inr (.inl ⟨xs, h⟩)
theorem at3 {x y z : V} {r : Int} (h0 : 0 ≤ r) (h1 : r < 3) : ∃ v, atI [x, y, z] r = some v ∧ (v = x ∨ v = y ∨ v = z) := by
  have h : r = 0 ∨ r = 1 ∨ r = 2 := by omega
  rcases h with rfl | rfl | rfl
  · exact ⟨x, rfl, .inl rfl⟩
  · exact ⟨y, rfl, .inr (.inl rfl)⟩
  · exact ⟨z, rfl, .inr (.inr rfl)⟩
theorem at4 {x y z w : V} {r : Int} (h0 : 0 ≤ r) (h1 : r < 4) : ∃ v, atI [x, y, z, w] r = some v ∧ (v = x ∨ v = y ∨ v = z ∨ v = w) := by
  have h : r = 0 ∨ r = 1 ∨ r = 2 ∨ r = 3 := by omega
  rcases h with rfl | rfl | rfl | rfl
  · exact ⟨x, rfl, .inl rfl⟩
  · exact ⟨y, rfl, .inr (.inl rfl)⟩
  · exact ⟨z, rfl, .inr (.inr (.inl rfl))⟩
  · exact ⟨w, rfl, .inr (.inr (.inr rfl))⟩
/-- a sign of z as a word -/
theorem tok_sign {z : Str} {c : Nat} (h : c ∈ cl z) : tokV z [.str "text", .str (sg c)] = true :=
  tok_text (over_of (z := z) (cs := [c]) fun x hx => by rw [List.mem_singleton.mp hx]; exact h) (Nat.le_refl 1) (show 1 ≤ 40 by decide)
theorem size_sign {c : Nat} : sizeV [.str "text", .str (sg c)] = 1 := by rw [sizeV_text]; rfl
theorem tsize_one (t : List V) : tsize [t] = sizeV t := by rw [tsize_cons, tsize_nil, Int.add_zero]
theorem cut60 (xs : List V) : cutV xs none (some 60) = xs.take 60 := by
  unfold cutV
  have e0 : HT.sIx xs.length 0 none = 0 := rfl
  rw [e0, List.drop_zero]
  by_cases h : 60 ≤ xs.length
  · have e1 : HT.sIx xs.length xs.length (some 60) = 60 := by
      unfold HT.sIx
      simp
      omega
    rw [e1]
  · have e1 : HT.sIx xs.length xs.length (some 60) = xs.length := by
      unfold HT.sIx
      simp
      omega
    rw [e1, Nat.sub_zero, List.take_length, List.take_of_length_le (by omega)]
theorem TupAt.new {K : PySem.W.Frag} {H : Hp} {p : Addr} {xs : List V} : TupAt K (upd H p (.tup xs)) (.ref p) xs := ⟨p, rfl, SqT.of upd_same⟩
theorem TokAt.keep {K : PySem.W.Frag} {H H' : Hp} {b : Addr} {z : Str} {v : V} {xs : List V} (k : KeepB b H H') (hb : LstOrNo H b) (h : TokAt K H z v xs) : TokAt K H' z v xs := ⟨h.1.keep k hb.no, h.2⟩
theorem TokAt.same {K : PySem.W.Frag} {H H' : Hp} {z : Str} {v : V} {xs : List V} (k : Same H H') (h : TokAt K H z v xs) : TokAt K H' z v xs := ⟨h.1.same k, h.2⟩
end KW
namespace KW
open PySem L2
/-- a chunk: a list of one or two tokens of size 1 together -/
def Ch (K : PySem.W.Frag) (H : Hp) (z : Str) (b : Addr) (v : V) : Prop := ∃ (a : Addr) (cvs : List V) (cts : List (List V)), v = .ref a ∧ a ≠ b ∧ H a = some (.lst cvs) ∧ Toks K H z cvs cts ∧ 1 ≤ cts.length ∧ cts.length ≤ 2 ∧ tsize cts = 1
theorem Ch.keep {K : PySem.W.Frag} {H H' : Hp} {z : Str} {b : Addr} {v : V} (k : KeepB b H H') (hb : LstOrNo H b) (h : Ch K H z b v) : Ch K H' z b v := by
  obtain ⟨a, cvs, cts, rfl, n, ha, ht, r⟩ := h
  exact ⟨a, cvs, cts, rfl, n, k _ _ n ha, ht.keep k hb, r⟩
theorem Ch.same {K : PySem.W.Frag} {H H' : Hp} {z : Str} {b : Addr} {v : V} (k : Same H H') (h : Ch K H z b v) : Ch K H' z b v := by
  obtain ⟨a, cvs, cts, rfl, n, ha, ht, r⟩ := h
  exact ⟨a, cvs, cts, rfl, n, k _ _ ha, ht.same k, r⟩
theorem take60_pos {z : Str} {ts cts : List (List V)} (h : ∀ t ∈ ts ++ cts, tokV z t = true) (c1 : tsize cts = 1) (cl : cts.length ≤ 2) (hi : ts = [] ∨ 1 ≤ tsize (ts.take 60)) : 1 ≤ tsize ((ts ++ cts).take 60) := by
  rcases hi with rfl | hi
  · rw [List.nil_append, List.take_of_length_le (by omega), c1]
    decide
  · rw [List.take_append, tsize_app]
    have := tsize_nn (ts := cts.take (60 - ts.length)) (z := z) fun t ht => h t (List.mem_append_right _ (List.mem_of_mem_take ht))
    omega
end KW
namespace KW
open PySem L2
theorem new_at {H : Hp} {p : Addr} {o : HO} (_ : H p = none) : (upd H p o) p = some o := upd_same
end KW
namespace KW
open PySem L2
theorem same_make {H : Hp} {a dx C : Addr} (ha : H a = none) (hd : H dx = none) (hne : dx ≠ a) : Same H (upd (upd H dx (.own a)) a (.ins C dx [])) :=
  (same_new hd).trans (same_new (by rw [upd_ne hne.symm]; exact ha))
end KW
namespace KW
open PySem L2
theorem PieceAt.same {K : PySem.W.Frag} {C : Addr} {H H' : Hp} {a : Addr} {z : Str} {ts : List (List V)} (s : Same H H') (h : PieceAt K C H a z ts) : PieceAt K C H' a z ts := by
  obtain ⟨dx, l, p, tvs, pvs, h1, h2, h3, h4, h5⟩ := h
  exact ⟨dx, l, p, tvs, pvs, s _ _ h1, s _ _ h2, h3.same s, s _ _ h4, h5.same s⟩
theorem PieceAt.ins {K : PySem.W.Frag} {C : Addr} {H : Hp} {a : Addr} {z : Str} {ts : List (List V)} (h : PieceAt K C H a z ts) : ∃ dx l p, H a = some (.ins C dx (pf z l p)) :=
  let ⟨dx, l, p, _, _, h1, _⟩ := h
  ⟨dx, l, p, h1⟩
end KW
namespace KW
open PySem L2
theorem flat_rep (x : V) : ∀ n : Nat, (List.replicate n [x]).flatten = List.replicate n x
  | 0 => rfl
  | n + 1 => by
    rw [List.replicate_succ, List.flatten_cons, flat_rep x n]
    rfl
theorem places_step {ts : List (List V)} {i : Nat} {t : List V} (h : ts[i]? = some t) : placesL (ts.take (i + 1)) = placesL (ts.take i) ++ placeT t := by
  rw [take_succ' h, places_app, places_one]
theorem place_text {y : Str} : placeT [.str "text", .str y] = (cl y).map fun c => [.str "sign", .str (sg c)] := by
  have h : ¬ (("text" : Str) = "any") := by decide +kernel
  simp only [placeT, if_neg h]
theorem place_any {y : Str} : placeT [.str "any", .str y] = [[.str "hole", .str y]] := by
  simp only [placeT, if_true]
theorem place_len {z : Str} {t : List V} (h : tokV z t = true) : ((placeT t).length : Int) = sizeV t := by
  obtain ⟨kd, rest, rfl, hk⟩ := tok_inv h
  rcases hk with ⟨rfl, rfl⟩ | ⟨y, rfl, rfl, h1, h2, h3⟩ | ⟨y, rfl, rfl, h1⟩ | ⟨d, n, hkd, rfl, h1, h2, h3, h4⟩
  · rfl
  · rw [place_text, List.length_map, cl_len, sizeV_text]
  · rw [place_any, sizeV_any]; rfl
  · show ((List.replicate n.toNat [V.str kd, V.int d]).length : Int) = n
    rw [List.length_replicate]; omega
theorem places_len {z : Str} : ∀ {ts : List (List V)}, (∀ t ∈ ts, tokV z t = true) → ((placesL ts).length : Int) = tsize ts
  | [], _ => rfl
  | t :: ts, h => by
    have ih := places_len (ts := ts) fun u hu => h u (List.mem_cons_of_mem _ hu)
    have h1 := place_len (h t List.mem_cons_self)
    have e : placesL (t :: ts) = placeT t ++ placesL ts := rfl
    rw [e, List.length_append, tsize_cons]
    omega
end KW

/-! Promises of defs at arounds in which no repr is under way: what such a def may use besides is known of the guards. -/
namespace KW
open PySem PySem.Spec PyProof.Rows L2
/-- room, and no guard stands -/
structure RoomG (k : Nat) (A : Around) : Prop where
  room : Room k A
  free : A.guards = some []
theorem RoomG.mono {j k : Nat} {A : Around} (r : RoomG k A) (h : j ≤ k) : RoomG j A := ⟨r.room.mono h, r.free⟩
theorem RoomG.deeper {k : Nat} {A : Around} (r : RoomG (k + 1) A) (env : Env) : RoomG k (A.deeper env) := ⟨r.room.deeper env, r.free⟩
/-- the promise of a def, kept wherever no guard stands -/
structure FnG (P : Program) (w : World) (K : PySem.W.Frag) (mg : Str → Option Value) (base : Heap) (k : Nat) (f : Addr) (fd : FuncData) (ps : List Str) (sp : Sp) : Prop where
  many : ∀ vs H Q E, sp vs H Q E → vs.length = ps.length
  keeps : ∀ (A : Around) (outer : List Env) (s : Shared) (H : Hp) (args : Args) (us : List Value) (vs : List V) (Q : VK) (E : XK), RoomG k A → Env0 P w K mg base A outer s H →
    BindsTo s fd args (ps.zip us) → Vals vs us → sp vs H Q E → codeAny (model P w) A (.call (.ref f) args) (CR CX0 outer P w H s Q E) s
section
variable {P : Program} {w : World} {K : PySem.W.Frag} {mg : Str → Option Value} {base : Heap} {k : Nat} {f : Addr} {fd : FuncData} {ps : List Str} {sp : Sp}
theorem FnG.of (F : FnOk P w K mg base CX0 k f fd ps sp) : FnG P w K mg base k f fd ps sp :=
  ⟨F.len, fun A outer s H args us vs Q E hr => F.run A outer s H args us vs Q E hr.room⟩
/-- by the def's body -/
theorem FnG.by_body {x qual : Str} {st : Stmt} {N : List Str} (F : Fun K x qual st f fd) (S : FnScope N ps (defScope st)) (many : ∀ vs H Q E, sp vs H Q E → vs.length = ps.length)
    (body : ∀ (cdv : Value) (A : Around) (outer : List Env) (s : Shared) (H : Hp) (vs : List V) (Q : VK) (E : XK), RoomG k (A.deeper (envOfC qual (defScope st) s.heap.objs.size f cdv)) → sp vs H Q E →
      ∃ t, PSs (cxOf CX0 P w K mg base N qual (defScope st) f cdv A outer s H E).nox (defBody st) t ∧ t { nx := fun _ H' => Q .non H', rt := Q } (start N vs) H) :
    FnG P w K mg base (k + 1) f fd ps sp := by
  obtain ⟨oc, od, kV, doc, pm, an, cdv, ct, osl, rfl, at_f, code⟩ := F.ex
  constructor
  · exact many
  intro A outer s H args us vs Q E hr e0 hb hv h
  have now : ∀ b o, base.get? b = some o → s.heap.get? b = some o := fun b o e => (e0.bs b o e).1
  have inK := e0.mod.kin.keeps now
  have cells : ∀ y ∈ ps.zip us, (defScope st).names.lookup y.1 = some .local ∨
      ((defScope st).names.lookup y.1 = some .cell ∧ ((cellsFrom (s.heap.objs.size + 1) (defScope st).names []).lookup y.1).isSome = true) := by
    intro y hy
    have hm : y.1 ∈ ps := (List.of_mem_zip (show (y.1, y.2) ∈ ps.zip us from hy)).1
    exact (S.par y.1 hm).imp id fun q => ⟨q, PySem.W.cellsFrom_some _ _ _ (.inl q)⟩
  refine codeAny_call_function hr.room.depth (inK _ _ at_f) rfl S.co S.gen rfl (PySem.W.codeRec_of inK code) (hb _ _ _ _ (wpAny_newFunctionEnv_cells S.kind cells ?_))
  rintro env rfl s1 made
  refine ⟨(e0.mod.nolimit.keeps now).keeps made.toInCall.keep, codeAny_func ?_⟩
  obtain ⟨t, walked, wished⟩ := body cdv A outer s H vs Q E (hr.deeper _) h
  have I0 : Inv (cxOf CX0 P w K mg base N qual (defScope st) f cdv A outer s H E) [] (start N vs) H s1 :=
    inv_start S hr.room.hd e0 (many _ _ _ _ h) hv made
  have ran := walked.nox.run [] s1 (start N vs) H _ I0 wished
  have shut : ∀ {σ' H' v u s'}, Inv (cxOf CX0 P w K mg base N qual (defScope st) f cdv A outer s H E) [] σ' H' s' → RelV v u → Q v H' → CR CX0 outer P w H s Q E (.ok (.ret u)) s' :=
    fun J rv q => ⟨_, _, J.os, J.bare, J.base, J.hok, rv, q⟩
  refine wpAny_mono ran (fun fl s' z => ?_) fun e s' z => z
  match fl, z with
  | .ret u, ⟨v, σ', H', J, rv, q⟩ => exact shut J rv q
  | .next, ⟨σ', H', J, q⟩ => exact shut (v := V.non) J rfl q
  | .brk, ⟨_, _, _, q⟩ => exact q.elim
  | .cont, ⟨_, _, _, q⟩ => exact q.elim
end
section
variable {X : Cx} {k : Nat} {f : Addr} {fd : FuncData} {ps : List Str} {sp : Sp} {E : XK} {x : Str} {e : Expr} {es : List Expr} {t : TA} {p pos : Pos}
/-- such a def, called -/
theorem cr_fnG (F : FnG X.prog X.w X.K X.mg X.base k f fd ps sp) (hr : RoomG k X.A) (hb : Binds X.K fd ps []) (hx : Passes CX0 X E) : CallR X (.ref f) (fun vs H Q => sp vs H Q E) := by
  intro pins s σ H xs us Q I r h
  have eq0 : us ++ [] = us := List.append_nil us
  have bound := hb s us I.kIn (by rw [eq0, ← r.length]; exact F.many _ _ _ _ h)
  rw [eq0] at bound
  refine wpAny_call (codeAny_mono (F.keeps X.A X.stack s H ⟨us, []⟩ us xs Q E hr I.env0 bound r h) fun z s' q => ?_)
  match z, q with
  | .error e, q => exact hx pins σ H s e s' I q
  | .ok (.ret u), q => exact I.after q
theorem pe_callG (hc : CallR X (.ref f) (fun vs H Q => sp vs H Q E)) (hg : Gl X x) (hm : X.mg x = some (.ref f)) (kp : PySem.W.keepIn X.K (.ref f) = true) (ha : PA X (e :: es) t) (hdb : (x == ("__debug__" : Str)) = false := by decide)
    (h1 : starEach (e :: es) X.env = (false, eval e X.env) :: starEach es X.env := by rfl) (h2 : (backTo pos (starEach es X.env)).any (·.1) = false := by rfl) :
    PE X (.Call (.Name x p) (e :: es) [] pos) (tCB (fun vs H Q => sp vs H Q E) t) := by
  constructor
  intro pins s σ H Q I h
  have args := thn (ha.run pos pins s σ H _ I h) (fun us s1 ⟨vs, H1, I1, r, q⟩ => (⟨I1.kIn, hc pins s1 σ H1 vs us Q I1 r q⟩ : X.K.In s1.heap ∧ _))
  exact wpAny_Call_Name_kw (ld_glob I hg hm (PySem.W.callWith_K (h₀ := X.base) I.ok.mod.kin kp args h1 h2) hdb)
end
end KW

/-! The head of a law whose def is promised where no guard stands. -/
namespace KW
open PySem PySem.Spec PyProof.Rows L2
/-- what a script is to the walk: a frozen list, or one of the module's own -/
theorem script_seen {P : Program} {w : World} {K : PySem.W.Frag} {h : Heap} {a : Addr} {vs : List Value} {ns : List Int} (inK : K.In h)
    (ha : h.get? a = some { cls := .type "list", data := .seq vs.toArray }) (are : IntsAre vs ns) (few : ns.length ≤ sizeLine) :
    ∃ H : Hp, Only H ∧ SqL K H a (ns.map V.int) ∧ HOk P w H h ∧ (∀ b, H b ≠ none → b = a) ∧ (H a ≠ none → K.lookup a = none) := by
  have rel := vals_ints are
  cases own : K.lookup a with
  | some o =>
    have same := (inK a o own).symm.trans ha
    cases same
    have size : vs.toArray.size ≤ sizeLine := by rw [List.size_toArray, are.length]; exact few
    refine ⟨fun _ => none, fun _ => .inl rfl, .inr ⟨_, vs.toArray, _, own, rfl, rfl, rfl, size, by simpa using rel⟩, ?_, ?_, ?_⟩
    · intro b u z
      exact nomatch (show (none : Option HO) = some u from z)
    · intro b z
      exact (z rfl).elim
    · intro z
      exact (z rfl).elim
  | none =>
    let ice : HO := .frz { cls := .type "list", data := .seq vs.toArray } (.lst (ns.map V.int))
    have hit : ∀ b, (if b = a then some ice else none) ≠ none → b = a := fun b z => Classical.byContradiction fun n => z (if_neg n)
    refine ⟨fun b => if b = a then some ice else none, fun b => ?_, .inl (.inr ⟨_, if_pos rfl⟩), fun b u z => ?_, hit, fun _ => rfl⟩
    · by_cases n : b = a
      · exact .inr ⟨_, _, if_pos n⟩
      · exact .inl (if_neg n)
    · have e : b = a := hit b (by rw [show (if b = a then some ice else none) = some u from z]; exact Option.some_ne_none u)
      subst e
      obtain rfl : ice = u := Option.some.inj ((if_pos rfl).symm.trans z)
      exact ⟨ha, by rw [List.length_map]; exact few, vs, _, rel, ha⟩
theorem lawG {P : Program} {w : World} {K : PySem.W.Frag} {mg mb : Str → Option Value} {k : Nat} {fa a : Addr} {fd : FuncData} {x : Str} {sp : Sp} {s₁ : Shared} {vs : List Value} {ns : List Int}
    (inK : K.In s₁.heap) (glob : s₁.heap.Ns mainGlobals mg) (blt : s₁.heap.Ns builtinsNs mb) (boot : ∀ x : Str, x ≠ "__name__" → mb x = bootBuiltins x) (lim : s₁.heap.NoLimit) (gens : s₁.gens = #[])
    (ha : s₁.heap.get? a = some { cls := .type "list", data := .seq vs.toArray }) (are : IntsAre vs ns) (few : ns.length ≤ sizeLine) (room : Room k callerA)
    (F : ∀ base : Heap, K.In base → base.Ns mainGlobals mg → FnG P w K mg base k fa fd [x] sp) (binds : ∀ (s : Shared) (u : Value), BindsTo s fd ⟨[u], []⟩ [(x, u)])
    (wish : ∀ H : Hp, Only H → SqL K H a (ns.map V.int) → sp [.ref a] H (fun v _ => v = .bl true) fun _ _ _ => False) :
    codeAny (model P w) callerA (.call (.ref fa) ⟨[.ref a], []⟩) (fun r s' => r = .ok (.ret (.bool true)) ∧ OldK s₁.heap s'.heap ∧ s'.os = s₁.os ∧ AllBare s'.gens) s₁ := by
  obtain ⟨H, only, seq, ok, tracked, apart⟩ := script_seen (P := P) (w := w) inK ha are few
  let base := hidT s₁.heap H
  have kept : ∀ {b : Addr} {o : Obj}, s₁.heap.get? b = some o → H b = none → base.get? b = some o := fun e n => hidT_get e n
  have free : ∀ b : Addr, (b = a → False) → H b = none := fun b n => Classical.byContradiction fun z => n (tracked b z)
  have dictAt : ∀ {b : Addr} {m : Str → Option Value}, s₁.heap.Ns b m → base.Ns b m := by
    rintro b m ⟨o, es, ep, e, d, r⟩
    refine ⟨o, es, ep, kept e (free b fun eq => ?_), d, r⟩
    rw [eq, ha] at e
    cases Option.some.inj e
    cases (show Data.seq vs.toArray _ = Data.dict es ep from d)
  have inBase : K.In base := fun b o e => kept (inK b o e) (Classical.byContradiction fun z => by
    obtain rfl := tracked b z
    rw [apart z] at e
    cases e)
  obtain ⟨mc, l1, l2⟩ := lim
  have there : Mod K mg base := { kin := inBase, glob := dictAt glob, blt := ⟨mb, dictAt blt, boot⟩, nolimit := ⟨mc, dictAt l1, l2⟩ }
  have none' : ∀ b : Addr, b ∈ frs ([] : List Env) → False := fun b z => by
    have z' : b ∈ ([] : List Addr) := z
    cases z'
  have env : Env0 P w K mg base callerA [] s₁ H :=
    { frames := rfl, mod := there, bs := fun b o e => of_hidT e, bsz := Nat.le_of_eq (hidT_size _ _), funs := trivial, frf := fun b z => (none' b z).elim, hok := ok, bare := .of_eq gens }
  have run := (F base inBase (dictAt glob)).keeps callerA [] s₁ H ⟨[.ref a], []⟩ [.ref a] [.ref a] _ _ ⟨room, rfl⟩ env (binds s₁ _) (.cons rfl .nil) (wish H only seq)
  refine codeAny_mono run fun r s' z => ?_
  match r, z with
  | .ok (.ret u), ⟨v, H', os, bare, un, ok', rv, q⟩ =>
    obtain rfl : v = .bl true := q
    obtain rfl : u = Value.bool true := rv
    refine ⟨rfl, OldK.of_keep fun b o e => ?_, os, bare⟩
    rcases only b with n | ⟨ob, xs, z⟩
    · exact un.keep b o e n (fun m => (none' b m).elim) (fun m => nomatch m)
    · have e1 := (ok b _ z).1
      have e2 := (ok' b _ (un.frzs b ob _ z)).1
      exact Option.some.inj (e1.symm.trans e) ▸ e2
  | .error e, z => exact z.elim
theorem walkG {l : PySem.W.OpenLaw} {n k : Nat} {q : Program} {loose : List Str} {XP : (Str → Option Value) → Heap → Prop} {YP : World → Heap → Prop} {d : DefRec} {K : Params → PySem.W.Frag} {sp : PySem.W.Frag → Sp} {x : Str}
    (most : l.most = some n) (few : n ≤ sizeLine) (nodef : d.params.defaults = []) (room : Room k callerA) (inK : ∀ (w : World) (h : Heap), YP w h → (K w.params).In h)
    (F : ∀ (w : World) (mg : Str → Option Value) (fa : Addr) (h : Heap), (K w.params).In h → h.Ns mainGlobals mg → mg d.name = some (.ref fa) →
      ∃ fd : FuncData, (∀ (s : Shared) (u : Value), BindsTo s fd ⟨[u], []⟩ [(x, u)]) ∧ ∀ base : Heap, (K w.params).In base → base.Ns mainGlobals mg → FnG l.prog w (K w.params) mg base k fa fd [x] (sp (K w.params)))
    (wish : ∀ (K : PySem.W.Frag) (H : Hp) (a : Addr) (ns : List Int), ns.length ≤ n → Only H → SqL K H a (ns.map V.int) → sp K [.ref a] H (fun v _ => v = .bl true) fun _ _ _ => False) :
    PySem.W.WalkO q loose XP YP l.row.toRowW d [] (fun f vs => PySem.call f vs) := by
  refine Att.attach_call most nodef fun w s₀ s₁ mg mb fa o pm cd doc a vs ns G Y _ _ _ named script are len gens => ?_
  obtain ⟨fd, binds, promise⟩ := F w mg fa _ (inK w _ Y) G.T.g named
  exact lawG (inK w _ Y) G.T.g G.T.b G.T.builtins G.T.nolimit gens script are (Nat.le_trans len few) room promise binds fun H o s => wish _ H a ns len o s
end KW

/-! Data that is plain, small and flat enough: its repr, its ==. -/
namespace KW
open PySem PySem.Spec PyProof.Rows L2
structure Pl (n w : Nat) (d : PyData) : Prop where
  lay : d.canLay0 = true
  deep : d.depth ≤ n
  wt : d.weight ≤ w
  told : d.showable = true
  small : d.intsShort 13 = true
structure PlAll (n w : Nat) (ds : List PyData) : Prop where
  lay : PyData.canLayAll0 ds = true
  deep : PyData.depthAll ds ≤ n
  wt : PyData.weightAll ds ≤ ds.length * (w + 1)
  told : PyData.showableAll ds = true
  small : PyData.intsShortAll 13 ds = true
theorem PlAll.nil {n w : Nat} : PlAll n w [] := ⟨by simp [PyData.canLayAll0], by simp [PyData.depthAll], by simp [PyData.weightAll], by simp [PyData.showableAll], by simp [PyData.intsShortAll]⟩
theorem PlAll.cons {n w : Nat} {d : PyData} {ds : List PyData} (h : Pl n w d) (t : PlAll n w ds) : PlAll n w (d :: ds) := by
  constructor
  · simp [PyData.canLayAll0, h.lay, t.lay]
  · simp only [PyData.depthAll]; exact Nat.max_le.mpr ⟨h.deep, t.deep⟩
  · simp only [PyData.weightAll, List.length_cons]
    have h1 := h.wt
    have h2 := t.wt
    have e : (ds.length + 1) * (w + 1) = ds.length * (w + 1) + (w + 1) := by rw [Nat.add_mul, Nat.one_mul]
    omega
  · simp [PyData.showableAll, h.told, t.told]
  · simp [PyData.intsShortAll, h.small, t.small]
theorem PlAll.of {n w : Nat} : ∀ {ds : List PyData}, (∀ d ∈ ds, Pl n w d) → PlAll n w ds
  | [], _ => .nil
  | d :: ds, h => .cons (h d List.mem_cons_self) (.of fun e he => h e (List.mem_cons_of_mem _ he))
theorem PlAll.tuple {n w : Nat} {ds : List PyData} (h : PlAll n w ds) : Pl (n + 1) (ds.length * (w + 1)) (.tuple ds) :=
  ⟨by simpa [PyData.canLay0] using h.lay, by simp only [PyData.depth]; exact Nat.succ_le_succ h.deep, by simp only [PyData.weight]; exact h.wt, by simpa [PyData.showable] using h.told, by simpa [PyData.intsShort] using h.small⟩
theorem PlAll.list {n w : Nat} {ds : List PyData} (h : PlAll n w ds) : Pl (n + 1) (ds.length * (w + 1)) (.list ds) :=
  ⟨by simpa [PyData.canLay0] using h.lay, by simp only [PyData.depth]; exact Nat.succ_le_succ h.deep, by simp only [PyData.weight]; exact h.wt, by simpa [PyData.showable] using h.told, by simpa [PyData.intsShort] using h.small⟩
theorem Pl.mono {n m w v : Nat} {d : PyData} (h : Pl n w d) (h1 : n ≤ m) (h2 : w ≤ v) : Pl m v d := ⟨h.lay, Nat.le_trans h.deep h1, Nat.le_trans h.wt h2, h.told, h.small⟩
theorem Pl.non : Pl 0 0 .none := ⟨rfl, Nat.le_refl _, Nat.le_refl _, rfl, rfl⟩
theorem Pl.bl (b : Bool) : Pl 0 0 (.bool b) := ⟨rfl, Nat.le_refl _, Nat.le_refl _, rfl, rfl⟩
theorem Pl.str {y : Str} {w : Nat} (h : PyData.strOk y = true) (hw : y.length ≤ w) : Pl 0 w (.str y) :=
  ⟨by simpa [PyData.canLay0] using h, by simp [PyData.depth], by simp only [PyData.weight]; exact hw, by simp [PyData.showable], by simp [PyData.intsShort]⟩
theorem short_ints : ∀ n : Fin 1001, (decide ((PyData.shown (.int n.val)).length ≤ 13) && decide (PyData.weight (.int n.val) ≤ 16)) = true := by decide +kernel
theorem Pl.int {i : Int} (h0 : 0 ≤ i) (h1 : i ≤ 1000) : Pl 0 16 (.int i) := by
  obtain ⟨n, rfl⟩ := Int.eq_ofNat_of_zero_le h0
  have h := short_ints ⟨n, by omega⟩
  rw [Bool.and_eq_true, decide_eq_true_eq, decide_eq_true_eq] at h
  refine ⟨by simp [PyData.canLay0], by simp [PyData.depth], h.2, ?_, ?_⟩
  · simp only [PyData.showable, decide_eq_true_eq]
    exact reprOk_small h0 h1
  · simp only [PyData.intsShort, decide_eq_true_eq]
    exact h.1
theorem Pl.fit {d : PyData} (h : Pl 64 1000000 d) : d.shown.length ≤ sizeLine := by
  have l0 : d.layable0 = true := by
    unfold PyData.layable0
    rw [h.lay, decide_eq_true h.deep, decide_eq_true (Nat.le_trans h.wt (by decide))]
    rfl
  exact Nat.le_trans (shown_le13 l0 h.small) (by decide)
theorem Pl.shaped {d : PyData} {w : Nat} (h : Pl 64 w d) : SeqAt.shaped d = true := by
  unfold SeqAt.shaped
  rw [h.lay, decide_eq_true h.deep]
  rfl
theorem Pl.noDict {n w : Nat} {d : PyData} (h : Pl n w d) : d.hasDict = false := PyData.hasDict_of_canLay d h.lay
section
variable {X : Cx}
theorem call_reprD (free : X.A.guards = some []) (room : X.A.units + 100 < cLine) : CallR X (.builtin "repr") (fun xs H Q => ∃ x d, xs = [x] ∧ Dp X.K H x d ∧ Pl 64 1000000 d ∧ Q (.str d.shown) H) := by
  intro pins s σ H xs us Q I r h
  obtain ⟨x, d, rfl, dp, pl, q⟩ := h
  obtain ⟨u, rfl, ru⟩ := vals1 r
  obtain ⟨as, rd⟩ := Dp.reads I d x u dp ru
  have fin : ∀ h' t tk, (∀ b o, s.heap.get? b = some o → h'.get? b = some o) → EP X pins σ Q (.str d.shown t) { s with heap := h', toks := tk } := fun h' t tk k => ⟨.str d.shown, H, I.kept k, ⟨_, rfl⟩, q⟩
  have fit := pl.fit
  cases rd with
  | none => exact PySem.P.repr_of_none (fin _ _ _ fun _ _ e => e)
  | bool b => exact PySem.P.repr_of_bool (fin _ _ _ fun _ _ e => e)
  | int i t => exact PySem.P.repr_of_int (by simpa [PyData.showable] using pl.told) (fin _ _ _ fun _ _ e => e)
  | str y t => exact PySem.P.repr_of_str (fin _ _ _ fun _ _ e => e) fit
  | list h1 h2 h3 h4 => exact repr_of_reads' (.list h1 h2 h3 h4) pl.told (fun e => by rw [pl.noDict] at e; cases e) free (by have := pl.deep; omega) (fun _ _ e => e) (fun h' u tk k => fin h' u tk k) fit
  | tuple h1 h2 h3 h4 => exact repr_of_reads' (.tuple h1 h2 h3 h4) pl.told (fun e => by rw [pl.noDict] at e; cases e) free (by have := pl.deep; omega) (fun _ _ e => e) (fun h' u tk k => fin h' u tk k) fit
  | dict h1 h2 h3 h4 h5 => have := pl.noDict; cases this
end
theorem uD {A : Around} {k : Nat} (hr : RoomG k A) : A.units + 64 < cLine := by have := hr.room.un; omega
theorem uR {A : Around} {k : Nat} (hr : RoomG k A) : A.units + 100 < cLine := by have := hr.room.un; omega
/-! ### tokens as data -/
def datV : V → PyData
  | .bl b => .bool b
  | .int i => .int i
  | .str y => .str y
  | _ => .none
def flatV : V → Bool
  | .non => true
  | .bl _ => true
  | .int _ => true
  | .str _ => true
  | _ => false
theorem dp_flat {K : PySem.W.Frag} {H : Hp} : ∀ {v : V}, flatV v = true → Dp K H v (datV v)
  | .non, _ => .non
  | .bl b, _ => .bl b
  | .int i, _ => .int i
  | .str y, _ => .str y
theorem dp_flats {K : PySem.W.Frag} {H : Hp} : ∀ {vs : List V}, vs.all flatV = true → DpAll K H vs (vs.map datV)
  | [], _ => .nil
  | v :: vs, h => by
    rw [List.all_cons, Bool.and_eq_true] at h
    exact .cons (dp_flat h.1) (dp_flats h.2)
abbrev tokD (t : List V) : PyData := .tuple (t.map datV)
theorem tok_flat {z : Str} {t : List V} (h : tokV z t = true) : t.all flatV = true := by
  obtain ⟨kd, rest, rfl, hk⟩ := tok_inv h
  rcases hk with ⟨rfl, rfl⟩ | ⟨y, rfl, rfl, h1, h2, h3⟩ | ⟨y, rfl, rfl, h1⟩ | ⟨d, n, hkd, rfl, h1, h2, h3, h4⟩ <;> rfl
theorem TokAt.dp {K : PySem.W.Frag} {H : Hp} {z : Str} {v : V} {t : List V} (h : TokAt K H z v t) : Dp K H v (tokD t) := by
  obtain ⟨⟨a, rfl, ha⟩, ok⟩ := h
  exact .tup ha (dp_flats (tok_flat ok))
theorem Toks.dps {K : PySem.W.Frag} {H : Hp} {z : Str} : ∀ {vs : List V} {ts : List (List V)}, Toks K H z vs ts → DpAll K H vs (ts.map tokD)
  | _, _, .nil => .nil
  | _, _, .cons r t => .cons r.dp (Toks.dps t)
theorem clean_over {z y : Str} (hz : PyData.strOk z = true) (h : overB z y = true) : PyData.strOk y = true := by
  unfold PyData.strOk at *
  unfold overB at h
  rw [← Array.all_toList, List.all_eq_true] at *
  intro c hc
  have := h c hc
  exact hz c (of_decide_eq_true this)
theorem clean_signs {z : Str} (h : SignsOk z) : PyData.strOk z = true := by
  unfold SignsOk signsB lettersB at h
  simp only [Bool.and_eq_true] at h
  unfold PyData.strOk
  rw [← Array.all_toList, List.all_eq_true]
  intro c hc
  have := (List.all_eq_true.mp h.1.2) c hc
  unfold letB at this
  rw [Bool.and_eq_true, decide_eq_true_eq, decide_eq_true_eq] at this
  exact decide_eq_true (by omega)
theorem tok_pl {z : Str} {t : List V} (hz : SignsOk z) (h : tokV z t = true) : Pl 1 (3 * 41) (tokD t) := by
  have cz := clean_signs hz
  have lz := hz.len
  obtain ⟨kd, rest, rfl, hk⟩ := tok_inv h
  have ks : ∀ k : Str, k.length ≤ 40 → PyData.strOk k = true → Pl 0 40 (.str k) := fun k h1 h2 => .str h2 h1
  rcases hk with ⟨rfl, rfl⟩ | ⟨y, rfl, rfl, h1, h2, h3⟩ | ⟨y, rfl, rfl, h1⟩ | ⟨d, n, hkd, rfl, h1, h2, h3, h4⟩
  · exact ((PlAll.cons (ks _ (by decide +kernel) (by decide +kernel)) .nil).tuple).mono (Nat.le_refl _) (by decide)
  · exact ((PlAll.cons (ks _ (by decide +kernel) (by decide +kernel)) (.cons (ks y h3 (clean_over cz h1)) .nil)).tuple).mono (Nat.le_refl _) (Nat.le_of_ble_eq_true rfl)
  · have hy : y.length ≤ 40 ∧ overB z y = true := by
      unfold choiceB at h1
      simp only [Bool.and_eq_true, decide_eq_true_eq] at h1
      exact ⟨by omega, h1.1.2⟩
    exact ((PlAll.cons (ks _ (by decide +kernel) (by decide +kernel)) (.cons (ks y hy.1 (clean_over cz hy.2)) .nil)).tuple).mono (Nat.le_refl _) (Nat.le_of_ble_eq_true rfl)
  · have hi : ∀ i : Int, 0 ≤ i → i ≤ 1000 → Pl 0 40 (.int i) := fun i a b => (Pl.int a b).mono (Nat.le_refl _) (by decide)
    rcases hkd with rfl | rfl
    · exact ((PlAll.cons (ks _ (by decide +kernel) (by decide +kernel)) (.cons (hi d (by omega) (by omega)) (.cons (hi n (by omega) (by omega)) .nil))).tuple).mono (Nat.le_refl _) (Nat.le_of_ble_eq_true rfl)
    · exact ((PlAll.cons (ks _ (by decide +kernel) (by decide +kernel)) (.cons (hi d (by omega) (by omega)) (.cons (hi n (by omega) (by omega)) .nil))).tuple).mono (Nat.le_refl _) (Nat.le_of_ble_eq_true rfl)
theorem toks_pl {z : Str} {ts : List (List V)} (hz : SignsOk z) (h : ∀ t ∈ ts, tokV z t = true) (hn : ts.length ≤ 1000) : Pl 2 124000 (.list (ts.map tokD)) := by
  have a : PlAll 1 (3 * 41) (ts.map tokD) := .of fun d hd => by
    obtain ⟨t, ht, rfl⟩ := List.mem_map.mp hd
    exact tok_pl hz (h t ht)
  refine a.list.mono (Nat.le_refl _) ?_
  rw [List.length_map]
  omega
end KW

/-! len, repr and == of instances by the class' own defs; {x!r} of plain data. -/
namespace KW
open PySem PySem.Spec PyProof.Rows L2
section
variable {X : Cx} {k : Nat} {f C : Addr} {fd : FuncData} {ps : List Str} {sp : Sp} {E : XK}
/-- a def that runs below the walked body, at an around of its own -/
theorem run_below (F : FnG X.prog X.w X.K X.mg X.base k f fd ps sp) {A' : Around} (same : A'.frames = X.A.frames) (hr : RoomG k A') (hb : Binds X.K fd ps []) (hx : Passes CX0 X E)
    {pins : List (Addr × Obj)} {s : Shared} {σ : L2.St} {H : Hp} {xs : List V} {us : List Value} {Q : VK} (I : Inv X pins σ H s) (r : Vals xs us) (h : sp xs H Q E) :
    wpAny (model X.prog X.w) A' (call (.ref f) us) (EP X pins σ Q) X.xe s := by
  have eq0 : us ++ [] = us := List.append_nil us
  have bound := hb s us I.kIn (by rw [eq0, ← r.length]; exact F.many _ _ _ _ h)
  rw [eq0] at bound
  have e := I.env0
  have env : Env0 X.prog X.w X.K X.mg X.base A' X.stack s H :=
    { frames := same.trans e.frames, mod := e.mod, bs := e.bs, bsz := e.bsz, funs := e.funs, frf := e.frf, hok := e.hok, bare := e.bare }
  refine wpAny_call (codeAny_mono (F.keeps A' X.stack s H ⟨us, []⟩ us xs Q E hr env bound r h) fun z s' q => ?_)
  match z, q with
  | .error e, q => exact hx pins σ H s e s' I q
  | .ok (.ret u), q => exact I.after q
theorem RoomG.in1 {A : Around} (r : RoomG (k + 1) A) : RoomG k A.in1 := ⟨r.room.in1, r.free⟩
theorem call_lenOwn (F : FnG X.prog X.w X.K X.mg X.base k f fd ps sp) (hr : RoomG (k + 1) X.A) (at_ : PySem.W.findIn X.K (.ref C) "__len__" = some (some (.ref f))) (fn : PySem.W.isFn X.K (.ref f) = true) (hb : Binds X.K fd ps []) (hx : Passes CX0 X E) :
    CallR X (.builtin "len") (fun xs H Q => ∃ a dx fs, xs = [.ref a] ∧ H a = some (.ins C dx fs) ∧ sp [.ref a] H (fun v H' => ∃ n : Nat, v = .int n ∧ n < 2 ^ 62 ∧ Q (.int n) H') E) := by
  intro pins s σ H xs us Q I r h
  obtain ⟨a, dx, fs, rfl, ha, h⟩ := h
  obtain ⟨u, rfl, ru⟩ := vals1 r
  obtain rfl : u = Value.ref a := ru
  obtain ⟨mA, J, _⟩ := ins_get I.hok ha
  obtain ⟨od, J, _⟩ := J.look
  obtain ⟨m, hF⟩ := I.fr
  refine PySem.W.len_K hF I.ok.mod.kin J at_ fn (wpAny_mono (run_below F (A' := X.A.in1) rfl hr.in1 hb hx I (xs := [.ref a]) (.cons rfl .nil) h) (fun v s' q => ?_) fun _ _ z => z)
  obtain ⟨y, H', I', ry, n, rfl, hn, q⟩ := q
  obtain ⟨t, rfl⟩ := ry
  exact ⟨⟨by omega, by omega⟩, .int n, H', I'.tok _, ⟨_, rfl⟩, q⟩
theorem call_reprOwn (F : FnG X.prog X.w X.K X.mg X.base k f fd ps sp) (hr : RoomG (k + 1) X.A) (at_ : PySem.W.findIn X.K (.ref C) "__repr__" = some (some (.ref f))) (fn : PySem.W.isFn X.K (.ref f) = true) (hb : Binds X.K fd ps []) (hx : Passes CX0 X E) :
    CallR X (.builtin "repr") (fun xs H Q => ∃ a dx fs, xs = [.ref a] ∧ H a = some (.ins C dx fs) ∧ sp [.ref a] H (fun v H' => ∃ y : Str, v = .str y ∧ Q (.str y) H') E) := by
  intro pins s σ H xs us Q I r h
  obtain ⟨a, dx, fs, rfl, ha, h⟩ := h
  obtain ⟨u, rfl, ru⟩ := vals1 r
  obtain rfl : u = Value.ref a := ru
  obtain ⟨mA, J, _⟩ := ins_get I.hok ha
  obtain ⟨od, J, _⟩ := J.look
  obtain ⟨m, hF⟩ := I.fr
  have small : X.A.in1.units < cLine := by have := hr.room.un; show X.A.units + 1 < _; omega
  refine PySem.W.repr_K small hF I.ok.mod.kin J at_ fn (wpAny_mono (run_below F (A' := X.A.in1) rfl hr.in1 hb hx I (xs := [.ref a]) (.cons rfl .nil) h) (fun v s' q => ?_) fun _ _ z => z)
  obtain ⟨y, H', I', ry, n, rfl, q⟩ := q
  obtain ⟨t, rfl⟩ := ry
  exact ⟨.str n, H', I', ⟨_, rfl⟩, q⟩
/-- x == y by x's own def, y of the same class -/
theorem op_eqOwn (F : FnG X.prog X.w X.K X.mg X.base k f fd ps sp) (hr : RoomG (k + 1) X.A) (at_ : PySem.W.findIn X.K (.ref C) "__eq__" = some (some (.ref f))) (fn : PySem.W.isFn X.K (.ref f) = true) (hb : Binds X.K fd ps []) (hx : Passes CX0 X E) :
    OpR X (compareOp .Eq) (fun x y H Q => ∃ a b dx dy fs gs, x = .ref a ∧ y = .ref b ∧ H a = some (.ins C dx fs) ∧ H b = some (.ins C dy gs) ∧ sp [.ref a, .ref b] H (fun v H' => ∃ r : Bool, v = .bl r ∧ Q (.bl r) H') E) := by
  intro pins s σ H x y v u Q I rx ry h
  obtain ⟨a, b, dx, dy, fs, gs, rfl, rfl, ha, hb', h⟩ := h
  obtain rfl : v = Value.ref a := rx
  obtain rfl : u = Value.ref b := ry
  obtain ⟨mA, J, _⟩ := ins_get I.hok ha
  obtain ⟨od, J, _⟩ := J.look
  obtain ⟨mB, J', _⟩ := ins_get I.hok hb'
  obtain ⟨od', J', _⟩ := J'.look
  obtain ⟨m, hF⟩ := I.fr
  have small : X.A.units < cLine := by have := hr.room.un; omega
  show wpAny (model X.prog X.w) X.A (richCompare .Eq (.ref a) (.ref b)) (EP X pins σ Q) X.xe s
  refine PySem.W.cmp_K (op := .Eq) (tb := .ref C) small hF I.ok.mod.kin J J'.type (by simp [PySem.W.notFirst]) at_ fn ?_
  refine wpAny_mono (run_below F (A' := X.A) rfl (hr.mono (Nat.le_succ _)) hb hx I (xs := [.ref a, .ref b]) (.cons rfl (.cons rfl .nil)) h) (fun v s' q => ?_) fun _ _ z => z
  obtain ⟨y, H', I', ry, r, rfl, q⟩ := q
  obtain rfl := ry
  exact ⟨.bl r, H', I', rfl, q⟩
/-- {x!r} of plain data -/
def tFmtD (K : PySem.W.Frag) (te : TE) : TE := fun σ H Q => te σ H fun x H1 => ∃ d, Dp K H1 x d ∧ Pl 64 1000000 d ∧ Q (.str d.shown) H1
theorem pe_fmtD {e : Expr} {te : TE} {pos : Pos} (free : X.A.guards = some []) (room : X.A.units + 100 < cLine) (he : PE X e te) : PE X (.FormattedValue e 114 none pos) (tFmtD X.K te) := by
  constructor
  intro pins s σ H Q I h
  refine wpAny_FormattedValue_repr (thn (he.run pins s σ H _ I h) fun v s1 hv => ?_)
  obtain ⟨x, H1, I1, r1, d, dp, pl, q⟩ := hv
  obtain ⟨as, rd⟩ := Dp.reads I1 d x v dp r1
  have fit := pl.fit
  have fin : ∀ h' t tk, (∀ b o, s1.heap.get? b = some o → h'.get? b = some o) → wpAny (model X.prog X.w) X.A (formatField (.str d.shown t) Str.empty) (EP X pins σ Q) X.xe { s1 with heap := h', toks := tk } := fun h' t tk k =>
    wpAny_formatField_str ⟨.str d.shown, H1, I1.kept k, ⟨_, rfl⟩, q⟩ ⟨.str d.shown, H1, (I1.kept k).tok _, ⟨_, rfl⟩, q⟩ fit
  have keep : ∀ b o, s1.heap.get? b = some o → s1.heap.get? b = some o := fun _ _ e => e
  have noD : d.hasDict = true → sysModules ∉ as := fun e => by rw [pl.noDict] at e; cases e
  have du : X.A.units + d.depth < cLine := by have := pl.deep; omega
  cases x with
  | ref a =>
    obtain rfl : v = Value.ref a := r1
    exact pyReprObj_of_reads rd pl.told noD free du keep (fun h' u tk k => fin h' u tk k) fit
  | non => cases r1; cases dp; exact pyReprObj_none (fin _ _ _ keep)
  | bl b => cases r1; cases dp; exact pyReprObj_bool (fin _ _ _ keep)
  | int i => obtain ⟨t, rfl⟩ := r1; cases dp; exact pyReprObj_int (by simpa [PyData.showable] using pl.told) (fin _ _ _ keep)
  | str y => obtain ⟨t, rfl⟩ := r1; cases dp; exact pyReprObj_str (fin _ _ _ keep) fit
  | _ => cases dp
end
end KW
namespace KW
open PySem PySem.Spec PyProof.Rows L2
theorem Pl.fit15 {d : PyData} (h : Pl 64 1000000 d) : d.shown.length ≤ 15728653 := by
  have l0 : d.layable0 = true := by
    unfold PyData.layable0
    rw [h.lay, decide_eq_true h.deep, decide_eq_true (Nat.le_trans h.wt (by decide))]
    rfl
  exact shown_le13 l0 h.small
theorem app_len (x y : Str) : (x ++ y).length = x.length + y.length := Array.size_append
theorem repr_len {z : Str} (h : SignsOk z) : (reprText z).length ≤ 62 := by
  have hz := h.len
  have h1 := PySem.StrLaws.reprText_len z fun c hc => by
    have := (List.all_eq_true.mp (by have := clean_signs h; unfold PyData.strOk at this; rwa [← Array.all_toList] at this)) c hc
    have := of_decide_eq_true this
    omega
  omega
end KW
namespace KW
open PySem PySem.Spec PyProof.Rows L2
/-- what the holes of places are told -/
def holesL (ps : List (List V)) : List V := ps.filterMap fun p => match p with
  | [.str k, v] => if k = "hole" then some v else none
  | _ => none
theorem place_two {z : Str} {ts : List (List V)} (h : ∀ t ∈ ts, tokV z t = true) {p : List V} (hp : p ∈ placesL ts) : ∃ (k : Str) (v : V), p = [.str k, v] := by
  unfold placesL at hp
  obtain ⟨t, ht, hp⟩ := List.mem_flatMap.mp hp
  obtain ⟨kd, rest, rfl, hk⟩ := tok_inv (h t ht)
  rcases hk with ⟨rfl, rfl⟩ | ⟨y, rfl, rfl, h1, h2, h3⟩ | ⟨y, rfl, rfl, h1⟩ | ⟨d, n, hkd, rfl, h1, h2, h3, h4⟩
  · exact nomatch (show p ∈ ([] : List (List V)) from hp)
  · rw [place_text] at hp
    obtain ⟨c, _, rfl⟩ := List.mem_map.mp hp
    exact ⟨_, _, rfl⟩
  · rw [place_any] at hp
    rw [List.mem_singleton.mp hp]
    exact ⟨_, _, rfl⟩
  · have hp : p ∈ List.replicate n.toNat [V.str kd, V.int d] := hp
    rw [List.eq_of_mem_replicate hp]
    exact ⟨_, _, rfl⟩
theorem holes_step {ps : List (List V)} {i : Nat} {k : Str} {v : V} (h : ps[i]? = some [.str k, v]) : holesL (ps.take (i + 1)) = holesL (ps.take i) ++ (if k = "hole" then [v] else []) := by
  rw [take_succ' h]
  unfold holesL
  rw [List.filterMap_append]
  congr 1
  by_cases e : k = "hole"
  · simp [e]
  · simp [e]
theorem holes_le (ps : List (List V)) : (holesL ps).length ≤ ps.length := List.length_filterMap_le _ _
end KW
namespace KW
open PySem PySem.Spec PyProof.Rows L2
/-- the numbers of signs ahead of each flush, each once, ascending (n written ahead) -/
def flushL : List (List V) → Int → List Int
  | [], _ => []
  | t :: ts, n => match t with
    | [.str _] => n :: (flushL ts n).filter (fun m => decide (m ≠ n))
    | _ => flushL ts (n + sizeV t)
end KW

/-! Numbers of flushes. -/
namespace KW
open PySem L2
def flushA : List (List V) → Int → List Int → List Int
  | [], _, acc => acc
  | t :: ts, n, acc => match t with
    | [.str _] => flushA ts n (if n ∈ acc then acc else acc ++ [n])
    | _ => flushA ts (n + sizeV t) acc
theorem flushA_flush {k : Str} {ts : List (List V)} {n : Int} {acc : List Int} : flushA ([.str k] :: ts) n acc = flushA ts n (if n ∈ acc then acc else acc ++ [n]) := rfl
theorem flushA_two {k : V} {v : V} {ts : List (List V)} {n : Int} {acc : List Int} : flushA ([k, v] :: ts) n acc = flushA ts (n + sizeV [k, v]) acc := by cases k <;> rfl
theorem flushA_three {k : V} {v u : V} {ts : List (List V)} {n : Int} {acc : List Int} : flushA ([k, v, u] :: ts) n acc = flushA ts (n + sizeV [k, v, u]) acc := by cases k <;> rfl
/-- ascending, all at most n -/
def Asc (acc : List Int) (n : Int) : Prop := acc.Pairwise (· < ·) ∧ ∀ m ∈ acc, m ≤ n
theorem Asc.nil {n : Int} : Asc [] n := ⟨.nil, fun _ h => nomatch h⟩
theorem Asc.mono {acc : List Int} {n m : Int} (h : Asc acc n) (l : n ≤ m) : Asc acc m := ⟨h.1, fun x hx => Int.le_trans (h.2 x hx) l⟩
theorem Asc.put {acc : List Int} {n : Int} (h : Asc acc n) : Asc (if n ∈ acc then acc else acc ++ [n]) n := by
  by_cases e : n ∈ acc
  · rw [if_pos e]; exact h
  · rw [if_neg e]
    refine ⟨List.pairwise_append.mpr ⟨h.1, by simp, fun a ha b hb => ?_⟩, fun m hm => ?_⟩
    · rw [List.mem_singleton.mp hb]
      have := h.2 a ha
      have : a ≠ n := fun q => e (q ▸ ha)
      omega
    · rcases List.mem_append.mp hm with hm | hm
      · exact h.2 m hm
      · rw [List.mem_singleton.mp hm]; exact Int.le_refl _
theorem put_len {acc : List Int} {n : Int} : (if n ∈ acc then acc else acc ++ [n]).length ≤ acc.length + 1 := by
  by_cases e : n ∈ acc
  · rw [if_pos e]; omega
  · rw [if_neg e, List.length_append]; exact Nat.le_refl _
theorem sorted_same {ys acc : List Int} (hp : ys.Perm acc) (hs : ys.Pairwise (· ≤ ·)) (ha : acc.Pairwise (· < ·)) : ys = acc :=
  List.Perm.eq_of_pairwise (le := (· ≤ ·)) (fun a b _ _ h1 h2 => Int.le_antisymm h1 h2) hs (ha.imp fun h => Int.le_of_lt h) hp
theorem inV_ints (n : Int) (acc : List Int) : inV (.int n) (acc.map V.int) = decide (n ∈ acc) := by
  unfold inV
  rw [List.any_map]
  induction acc with
  | nil => rfl
  | cons a acc ih =>
    rw [List.any_cons, ih]
    show ((a == n) || decide (n ∈ acc)) = decide (n ∈ a :: acc)
    by_cases e : a = n
    · subst e; simp
    · have e' : ¬ n = a := fun q => e q.symm
      simp [e, e']
theorem flat_ints (acc : List Int) : (acc.map V.int).all L2.flatV = true := by
  rw [List.all_map, List.all_eq_true]
  intro x _
  rfl
abbrev keysV (acc : List Int) : List (Key × V) := acc.map fun m => (Sum.inl m, V.bl true)
theorem put_keys (acc : List Int) (n : Int) : putK (keysV acc) (Sum.inl n) (.bl true) = keysV (if n ∈ acc then acc else acc ++ [n]) := by
  unfold putK
  have h : ((keysV acc).any fun kv => decide (kv.1 = (Sum.inl n : Key))) = decide (n ∈ acc) := by
    unfold keysV
    rw [List.any_map]
    induction acc with
    | nil => rfl
    | cons a acc ih =>
      rw [List.any_cons, ih]
      show (decide ((Sum.inl a : Key) = Sum.inl n) || decide (n ∈ acc)) = decide (n ∈ a :: acc)
      by_cases e : a = n
      · subst e; simp
      · have e' : ¬ n = a := fun q => e q.symm
        simp [e, e']
  rw [h]
  by_cases e : n ∈ acc
  · rw [if_pos (decide_eq_true e), if_pos e]
    unfold keysV
    rw [List.map_map]
    refine List.map_congr_left fun m _ => ?_
    show (if (Sum.inl m : Key) = Sum.inl n then ((Sum.inl m : Key), V.bl true) else ((Sum.inl m : Key), V.bl true)) = _
    split <;> rfl
  · rw [if_neg (by rw [decide_eq_false e]; exact Bool.false_ne_true), if_neg e]
    unfold keysV
    rw [List.map_append]
    rfl
theorem keys_fst (acc : List Int) : (keysV acc).map (·.1) = acc.map Sum.inl := by
  unfold keysV
  rw [List.map_map]
  rfl
end KW

/-! What is shown of plain data is a clean text. -/
namespace KW
open PySem PySem.Builtin.Str L2
def Cln (y : Str) : Prop := ∀ c ∈ cl y, c < 0x110000
theorem cln_iff {y : Str} : PyData.strOk y = true ↔ Cln y := by
  unfold PyData.strOk Cln
  rw [← Array.all_toList, List.all_eq_true]
  exact ⟨fun h c hc => of_decide_eq_true (h c hc), fun h c hc => decide_eq_true (h c hc)⟩
theorem Cln.app {x y : Str} (hx : Cln x) (hy : Cln y) : Cln (x ++ y) := by
  intro c hc
  have e : cl (x ++ y) = cl x ++ cl y := by
    show (x.cps ++ y.cps).toList = _
    rw [Array.toList_append]
  rw [e] at hc
  rcases List.mem_append.mp hc with h | h
  · exact hx c h
  · exact hy c h
theorem char_lt (c : Char) : c.toNat < 0x110000 := by
  rcases c.valid with h | h
  · have : c.val.toNat < 55296 := h
    show c.val.toNat < _
    omega
  · exact h.2
theorem Cln.of (s : String) : Cln (Str.ofString s) := by
  intro c hc
  rw [Str.ofString_eq_toList] at hc
  obtain ⟨d, _, rfl⟩ := List.mem_map.mp (show c ∈ (s.toList.map Char.toNat).toArray.toList from hc)
  exact char_lt d
theorem repr_char {q c : Nat} (hc : c < 0x110000) : ∀ d ∈ reprChar q c, d < 0x110000 := by
  intro d hd
  have hx : ∀ n, d ∈ (List.replicate n 48 ++ (Nat.toDigits 16 c).map Char.toNat) → d < 0x110000 := fun n h => by
    rcases List.mem_append.mp h with h | h
    · rw [List.eq_of_mem_replicate h]; decide
    · obtain ⟨e, _, rfl⟩ := List.mem_map.mp h
      exact char_lt e
  have two : ∀ a b : Nat, a < 0x110000 → b < 0x110000 → d ∈ [a, b] → d < 0x110000 := fun a b ha hb h => by
    rcases List.mem_cons.mp h with rfl | h
    · exact ha
    · rw [List.mem_singleton.mp h]; exact hb
  have more : ∀ (a b n : Nat), a < 0x110000 → b < 0x110000 → d ∈ [a, b] ++ (List.replicate n 48 ++ (Nat.toDigits 16 c).map Char.toNat) → d < 0x110000 := fun a b n ha hb h => by
    rcases List.mem_append.mp h with h | h
    · exact two a b ha hb h
    · exact hx n h
  unfold reprChar at hd
  dsimp only at hd
  split at hd
  · exact two _ _ (by decide) hc hd
  split at hd
  · exact two _ _ (by decide) (by decide) hd
  split at hd
  · exact two _ _ (by decide) (by decide) hd
  split at hd
  · exact two _ _ (by decide) (by decide) hd
  split at hd
  · rw [List.mem_singleton.mp hd]; exact hc
  split at hd
  · exact more _ _ _ (by decide) (by decide) hd
  split at hd
  · exact more _ _ _ (by decide) (by decide) hd
  · exact more _ _ _ (by decide) (by decide) hd
theorem repr_fold {q : Nat} : ∀ (l : List Nat) (acc : Array Nat), (∀ c ∈ l, c < 0x110000) → (∀ c ∈ acc.toList, c < 0x110000) → ∀ c ∈ (l.foldl (fun out c => out ++ (reprChar q c).toArray) acc).toList, c < 0x110000
  | [], acc, _, ha => ha
  | x :: l, acc, hl, ha => by
    rw [List.foldl_cons]
    refine repr_fold l _ (fun c hc => hl c (List.mem_cons_of_mem _ hc)) fun c hc => ?_
    rw [Array.toList_append] at hc
    rcases List.mem_append.mp hc with h | h
    · exact ha c h
    · exact repr_char (hl x List.mem_cons_self) c (by simpa using h)
theorem Cln.repr {x : Str} (h : Cln x) : Cln (reprText x) := by
  have hq : reprQuote x < 0x110000 := by unfold reprQuote; split <;> decide
  intro c hc
  unfold reprText at hc
  have hc : c ∈ ((x.cps.foldl (fun out c => out ++ (reprChar (reprQuote x) c).toArray) #[reprQuote x]).push (reprQuote x)).toList := hc
  rw [Array.toList_push] at hc
  rcases List.mem_append.mp hc with h2 | h2
  · rw [← Array.foldl_toList] at h2
    exact repr_fold (cl x) _ h (fun d hd => by rw [List.mem_singleton.mp (show d ∈ [reprQuote x] from hd)]; exact hq) c h2
  · rw [List.mem_singleton.mp h2]; exact hq
theorem Cln.join {sep : Str} (hs : Cln sep) : ∀ {ts : List Str}, (∀ t ∈ ts, Cln t) → Cln (Str.join sep ts)
  | [], _ => fun c hc => nomatch (show c ∈ ([] : List Nat) from hc)
  | [x], h => h x List.mem_cons_self
  | x :: y :: r, h => ((h x List.mem_cons_self).app hs).app (Cln.join hs fun t ht => h t (List.mem_cons_of_mem _ ht))
theorem Cln.from : ∀ (ts : List Str) (k : Nat) (acc : Str), Cln acc → (∀ t ∈ ts, Cln t) → Cln (textFrom k acc ts)
  | [], _, _, ha, _ => ha
  | t :: ts, k, acc, ha, h => by
    refine Cln.from ts (k + 1) _ ((ha.app ?_).app (h t List.mem_cons_self)) fun u hu => h u (List.mem_cons_of_mem _ hu)
    split <;> exact Cln.of _
mutual
theorem cln_shown : ∀ d : PyData, d.canLay0 = true → Cln d.shown
  | .none, _ => Cln.of _
  | .bool b, _ => by
    cases b <;> exact Cln.of _
  | .int i, _ => Cln.of _
  | .str x, h => by
    have h' : PyData.strOk x = true := by simpa [PyData.canLay0] using h
    simp only [PyData.shown]
    exact (cln_iff.mp h').repr
  | .list xs, h => by
    have h' : PyData.canLayAll0 xs = true := by simpa [PyData.canLay0] using h
    simp only [PyData.shown]
    exact (Cln.from _ _ _ (Cln.of _) (cln_shownAll xs h')).app (Cln.of _)
  | .tuple xs, h => by
    have h' : PyData.canLayAll0 xs = true := by simpa [PyData.canLay0] using h
    simp only [PyData.shown]
    unfold tupleText
    exact ((Cln.of _).app (Cln.join (Cln.of _) (cln_shownAll xs h'))).app (by split <;> exact Cln.of _)
  | .dict _, h => by simp [PyData.canLay0] at h
theorem cln_shownAll : ∀ ds : List PyData, PyData.canLayAll0 ds = true → ∀ t ∈ PyData.shownAll ds, Cln t
  | [], _ => fun t ht => by simp [PyData.shownAll] at ht
  | d :: ds, h => fun t ht => by
    have h' : d.canLay0 = true ∧ PyData.canLayAll0 ds = true := by simpa [PyData.canLayAll0] using h
    simp only [PyData.shownAll] at ht
    rcases List.mem_cons.mp ht with rfl | ht
    · exact cln_shown d h'.1
    · exact cln_shownAll ds h'.2 t ht
end
end KW

/-! What a piece tells, as data. -/
namespace KW
open PySem PySem.Builtin.Str L2
def shownP (z : Str) (ts : List (List V)) : Str := Str.empty ++ "Piece(" ++ reprText z ++ ", " ++ (PyData.list (ts.map tokD)).shown ++ ")"
def toldD (z : Str) (ts : List (List V)) : PyData := .list [.str z, .list (ts.map tokD), .list ((placesL ts).map tokD), .list ((flushA ts 0 []).map .int), .list ((holesL (placesL ts)).map datV), .int (placesL ts).length, .str (shownP z ts)]
theorem toks_pl60 {z : Str} {ts : List (List V)} (hz : SignsOk z) (h : ∀ t ∈ ts, tokV z t = true) (hn : ts.length ≤ 60) : Pl 2 7440 (.list (ts.map tokD)) := by
  have a : PlAll 1 (3 * 41) (ts.map tokD) := .of fun d hd => by
    obtain ⟨t, ht, rfl⟩ := List.mem_map.mp hd
    exact tok_pl hz (h t ht)
  refine a.list.mono (Nat.le_refl _) ?_
  rw [List.length_map]
  omega
theorem Pl.len {n w : Nat} {d : PyData} (h : Pl n w d) : d.shown.length ≤ 15 * w + 13 := by
  have h2 := PyData.shown_le 13 (by decide) d (PyData.leavesShort_of_canLay0 13 d h.lay h.small)
  have := h.wt
  have : 15 * d.weight ≤ 15 * w := Nat.mul_le_mul_left _ this
  omega
/-- what one place is -/
theorem place_of {z : Str} {ts : List (List V)} (hz : SignsOk z) (h : ∀ t ∈ ts, tokV z t = true) {p : List V} (hp : p ∈ placesL ts) :
    ∃ (k : Str) (v : V), p = [.str k, v] ∧ p.all flatV = true ∧ Pl 1 82 (tokD p) ∧ Pl 0 40 (datV v) := by
  have cz := clean_signs hz
  have lz := hz.len
  have ks : ∀ k : Str, k.length ≤ 40 → PyData.strOk k = true → Pl 0 40 (.str k) := fun k h1 h2 => .str h2 h1
  have mk : ∀ (k : Str) (v : V), flatV v = true → Pl 0 40 (.str k) → Pl 0 40 (datV v) → ∃ (k' : Str) (v' : V), [V.str k, v] = [.str k', v'] ∧ [V.str k, v].all flatV = true ∧ Pl 1 82 (tokD [V.str k, v]) ∧ Pl 0 40 (datV v') := fun k v f h1 h2 =>
    ⟨k, v, rfl, by show (true && (flatV v && true)) = true; rw [f]; rfl, ((PlAll.cons h1 (.cons h2 .nil)).tuple).mono (Nat.le_refl _) (Nat.le_of_ble_eq_true rfl), h2⟩
  unfold placesL at hp
  obtain ⟨t, ht, hp⟩ := List.mem_flatMap.mp hp
  obtain ⟨kd, rest, rfl, hk⟩ := tok_inv (h t ht)
  rcases hk with ⟨rfl, rfl⟩ | ⟨y, rfl, rfl, h1, h2, h3⟩ | ⟨y, rfl, rfl, h1⟩ | ⟨d, n, hkd, rfl, h1, h2, h3, h4⟩
  · exact nomatch (show p ∈ ([] : List (List V)) from hp)
  · rw [place_text] at hp
    obtain ⟨c, hc, rfl⟩ := List.mem_map.mp hp
    have cy := cln_iff.mp (clean_over cz h1)
    exact mk _ _ rfl (ks _ (by decide +kernel) (by decide +kernel)) (ks (sg c) (show 1 ≤ 40 by decide) (cln_iff.mpr fun d hd => by rw [List.mem_singleton.mp (show d ∈ [c] from hd)]; exact cy c hc))
  · rw [place_any] at hp
    rw [List.mem_singleton.mp hp]
    have hy : y.length ≤ 40 ∧ overB z y = true := by
      unfold choiceB at h1
      simp only [Bool.and_eq_true, decide_eq_true_eq] at h1
      exact ⟨by omega, h1.1.2⟩
    exact mk _ _ rfl (ks _ (by decide +kernel) (by decide +kernel)) (ks y hy.1 (clean_over cz hy.2))
  · have hp : p ∈ List.replicate n.toNat [V.str kd, V.int d] := hp
    rw [List.eq_of_mem_replicate hp]
    have hi : Pl 0 40 (.int d) := (Pl.int (by omega) (by omega)).mono (Nat.le_refl _) (by decide)
    rcases hkd with rfl | rfl
    · exact mk _ _ rfl (ks _ (by decide +kernel) (by decide +kernel)) hi
    · exact mk _ _ rfl (ks _ (by decide +kernel) (by decide +kernel)) hi
theorem flushA_in : ∀ (ts : List (List V)) (z : Str) (n : Int) (acc : List Int), (∀ t ∈ ts, tokV z t = true) → 0 ≤ n → (∀ m ∈ acc, 0 ≤ m ∧ m ≤ n) → ∀ m ∈ flushA ts n acc, 0 ≤ m ∧ m ≤ n + tsize ts
  | [], z, n, acc, _, h0, ha => fun m hm => by
    have := ha m hm
    rw [tsize_nil]
    omega
  | t :: ts, z, n, acc, h, h0, ha => fun m hm => by
    have hr : ∀ u ∈ ts, tokV z u = true := fun u hu => h u (List.mem_cons_of_mem _ hu)
    have hs := (size_nn (h t List.mem_cons_self)).1
    rw [tsize_cons]
    obtain ⟨kd, rest, rfl, hk⟩ := tok_inv (h t List.mem_cons_self)
    rcases hk with ⟨rfl, rfl⟩ | ⟨y, rfl, rfl, h1, h2, h3⟩ | ⟨y, rfl, rfl, h1⟩ | ⟨d, k, hkd, rfl, h1, h2, h3, h4⟩
    · rw [flushA_flush] at hm
      have := flushA_in ts z n _ hr h0 (fun m hm => by
        by_cases e : n ∈ acc
        · rw [if_pos e] at hm; exact ha m hm
        · rw [if_neg e] at hm
          rcases List.mem_append.mp hm with hm | hm
          · exact ha m hm
          · rw [List.mem_singleton.mp hm]; omega) m hm
      omega
    · rw [flushA_two] at hm
      have := flushA_in ts z _ _ hr (by omega) (fun m hm => by have := ha m hm; omega) m hm
      omega
    · rw [flushA_two] at hm
      have := flushA_in ts z _ _ hr (by omega) (fun m hm => by have := ha m hm; omega) m hm
      omega
    · rw [flushA_three] at hm
      have := flushA_in ts z _ _ hr (by omega) (fun m hm => by have := ha m hm; omega) m hm
      omega
theorem flushA_len : ∀ (ts : List (List V)) (n : Int) (acc : List Int), (flushA ts n acc).length ≤ acc.length + ts.length
  | [], _, _ => Nat.le_refl _
  | t :: ts, n, acc => by
    unfold flushA
    split
    · have := flushA_len ts n (if n ∈ acc then acc else acc ++ [n])
      have := put_len (acc := acc) (n := n)
      simp only [List.length_cons]; omega
    · have := flushA_len ts (n + sizeV t) acc
      simp only [List.length_cons]; omega
theorem shownP_pl {z : Str} {ts : List (List V)} (hz : SignsOk z) (h : ∀ t ∈ ts, tokV z t = true) (hn : ts.length ≤ 60) : Pl 0 111700 (.str (shownP z ts)) := by
  have pt := toks_pl60 hz h hn
  have l2 := pt.len
  have l1 := repr_len hz
  have l3 : (Str.empty : Str).length = 0 := rfl
  have l4 : (Str.ofString "Piece(").length = 6 := by decide +kernel
  have l5 : (Str.ofString ", ").length = 2 := by decide +kernel
  have l6 : (Str.ofString ")").length = 1 := by decide +kernel
  refine .str (cln_iff.mpr ?_) ?_
  · unfold shownP
    have c0 : Cln Str.empty := fun c hc => nomatch (show c ∈ ([] : List Nat) from hc)
    exact ((((c0.app (.of _)).app (Cln.repr (cln_iff.mp (clean_signs hz)))).app (.of _)).app (cln_shown _ pt.lay)).app (.of _)
  · unfold shownP
    rw [app_len, app_len, app_len, app_len, app_len]
    omega
theorem told_pl {z : Str} {ts : List (List V)} (hz : SignsOk z) (h : ∀ t ∈ ts, tokV z t = true) (hn : ts.length ≤ 60) (hs : tsize ts ≤ 40) : Pl 64 1000000 (toldD z ts) := by
  have hll := places_len h
  have hl := hz.len
  have p1 : Pl 2 111700 (.str z) := (Pl.str (w := 6) (clean_signs hz) hl.2).mono (by decide) (by decide)
  have p2 : Pl 2 111700 (.list (ts.map tokD)) := (toks_pl60 hz h hn).mono (Nat.le_refl _) (by decide)
  have a3 : PlAll 1 82 ((placesL ts).map tokD) := .of fun d hd => by
    obtain ⟨p, hp, rfl⟩ := List.mem_map.mp hd
    obtain ⟨_, _, _, _, q, _⟩ := place_of hz h hp
    exact q
  have p3 : Pl 2 111700 (.list ((placesL ts).map tokD)) := a3.list.mono (Nat.le_refl _) (by rw [List.length_map]; omega)
  have hfl := flushA_len ts 0 []
  have a4 : PlAll 0 16 ((flushA ts 0 []).map PyData.int) := .of fun d hd => by
    obtain ⟨m, hm, rfl⟩ := List.mem_map.mp hd
    have := flushA_in ts z 0 [] h (by decide) (fun _ h => nomatch h) m hm
    exact .int this.1 (by omega)
  have p4 : Pl 2 111700 (.list ((flushA ts 0 []).map PyData.int)) := a4.list.mono (by decide) (by rw [List.length_map]; simp only [List.length_nil] at hfl; omega)
  have a5 : PlAll 0 40 ((holesL (placesL ts)).map datV) := .of fun d hd => by
    obtain ⟨v, hv, rfl⟩ := List.mem_map.mp hd
    obtain ⟨p, hp, e⟩ := List.mem_filterMap.mp hv
    obtain ⟨k, v', rfl, _, _, q⟩ := place_of hz h hp
    by_cases hk : k = "hole"
    · simp [hk] at e; rw [← e]; exact q
    · simp [hk] at e
  have hh := holes_le (placesL ts)
  have p5 : Pl 2 111700 (.list ((holesL (placesL ts)).map datV)) := a5.list.mono (by decide) (by rw [List.length_map]; omega)
  have p6 : Pl 2 111700 (.int (placesL ts).length) := (Pl.int (by omega) (by omega)).mono (by decide) (by decide)
  have p7 : Pl 2 111700 (.str (shownP z ts)) := (shownP_pl hz h hn).mono (by decide) (Nat.le_refl _)
  exact ((PlAll.cons p1 (.cons p2 (.cons p3 (.cons p4 (.cons p5 (.cons p6 (.cons p7 .nil))))))).list).mono (by decide) (by simp only [List.length_cons, List.length_nil]; omega)
theorem Plcs.dps {K : PySem.W.Frag} {H : Hp} {vs : List V} {ps : List (List V)} (h : Plcs K H vs ps) (fl : ∀ p ∈ ps, p.all flatV = true) : DpAll K H vs (ps.map tokD) := by
  induction h with
  | nil => exact .nil
  | cons r t ih =>
    obtain ⟨a, rfl, ha⟩ := r
    exact .cons (.tup ha (dp_flats (fl _ List.mem_cons_self))) (ih fun p hp => fl p (List.mem_cons_of_mem _ hp))
theorem dp_ints {K : PySem.W.Frag} {H : Hp} : ∀ acc : List Int, DpAll K H (acc.map V.int) (acc.map PyData.int)
  | [] => .nil
  | a :: acc => .cons (.int a) (dp_ints acc)
/-- four lists that a piece tells -/
def TellAt (K : PySem.W.Frag) (H : Hp) (z : Str) (ts : List (List V)) (a1 a2 a3 a4 : Addr) : Prop :=
  ∃ tvs pvs, H a1 = some (.lst tvs) ∧ Toks K H z tvs ts ∧ H a2 = some (.lst pvs) ∧ Plcs K H pvs (placesL ts) ∧ H a3 = some (.lst ((flushA ts 0 []).map V.int)) ∧ H a4 = some (.lst (holesL (placesL ts)))
theorem TellAt.same {K : PySem.W.Frag} {H H' : Hp} {z : Str} {ts : List (List V)} {a1 a2 a3 a4 : Addr} (s : Same H H') (h : TellAt K H z ts a1 a2 a3 a4) : TellAt K H' z ts a1 a2 a3 a4 := by
  obtain ⟨tvs, pvs, h1, h2, h3, h4, h5, h6⟩ := h
  exact ⟨tvs, pvs, s _ _ h1, h2.same s, s _ _ h3, h4.same s, s _ _ h5, s _ _ h6⟩
theorem TellAt.dp {K : PySem.W.Frag} {H : Hp} {z : Str} {ts : List (List V)} {a1 a2 a3 a4 l : Addr} {n : Int} (h : TellAt K H z ts a1 a2 a3 a4) (hz : SignsOk z)
    (hl : H l = some (.lst [.str z, .ref a1, .ref a2, .ref a3, .ref a4, .int n, .str (shownP z ts)])) (hn : n = (placesL ts).length) : Dp K H (.ref l) (toldD z ts) := by
  obtain ⟨tvs, pvs, h1, h2, h3, h4, h5, h6⟩ := h
  subst hn
  have ok := h2.ok
  have fl : ∀ p ∈ placesL ts, p.all flatV = true := fun p hp => by
    obtain ⟨_, _, _, q, _⟩ := place_of hz ok hp
    exact q
  have fh : (holesL (placesL ts)).all flatV = true := by
    rw [List.all_eq_true]
    intro v hv
    obtain ⟨p, hp, e⟩ := List.mem_filterMap.mp hv
    obtain ⟨k, v', rfl, q, _⟩ := place_of hz ok hp
    by_cases hk : k = "hole"
    · simp [hk] at e
      rw [← e]
      simp only [List.all_cons, Bool.and_eq_true] at q
      exact q.2.1
    · simp [hk] at e
  exact .lst (SqL.of hl) (.cons (.str z) (.cons (.lst (SqL.of h1) h2.dps) (.cons (.lst (SqL.of h3) (h4.dps fl)) (.cons (.lst (SqL.of h5) (dp_ints _)) (.cons (.lst (SqL.of h6) (dp_flats fh)) (.cons (.int _) (.cons (.str _) .nil)))))))
end KW

/-! Slices. -/
namespace KW
open PySem L2
theorem cut_take {xs : List V} {i : Int} (h0 : 0 ≤ i) (h1 : i ≤ xs.length) : cutV xs none (some i) = xs.take i.toNat := by
  unfold cutV
  have e : HT.sIx xs.length xs.length (some i) = i.toNat := by
    unfold HT.sIx
    simp only
    rw [if_neg (by omega)]
    omega
  rw [HT.sIx_none, e]
  rfl
theorem cut_drop {xs : List V} {i : Int} (h0 : 0 ≤ i) (h1 : i ≤ xs.length) : cutV xs (some i) none = xs.drop i.toNat := by
  unfold cutV
  have e : HT.sIx xs.length 0 (some i) = i.toNat := by
    unfold HT.sIx
    simp only
    rw [if_neg (by omega)]
    omega
  rw [HT.sIx_none, e]
  exact List.take_of_length_le (by rw [List.length_drop]; omega)
theorem at_nat {xs : List V} {i : Int} (h0 : 0 ≤ i) (h1 : i < (xs.length : Int)) : ∃ v, xs[i.toNat]? = some v ∧ atI xs i = some v := by
  have hj : i.toNat < xs.length := by omega
  exact ⟨xs[i.toNat], List.getElem?_eq_getElem hj, at_of (j := i.toNat) (by omega) (List.getElem?_eq_getElem hj)⟩
end KW
namespace KW
open PySem L2
theorem paired_rev {α β : Type} {F : α → β → Prop} {l : List α} {m : List β} (h : Paired F l m) : Paired F l.reverse m.reverse := by
  induction h with
  | nil => exact .nil
  | cons r t ih =>
    rw [List.reverse_cons, List.reverse_cons]
    exact paired_app ih (paired_one r)
end KW
namespace KW
open PySem L2
theorem cutS_one (z : Str) (h : 1 ≤ z.length) : cl (cutS z none (some 1)) = (cl z).take 1 := by
  show ((z.cps.toList.drop (HT.sIx z.length 0 none)).take (HT.sIx z.length z.length (some 1) - HT.sIx z.length 0 none)).toArray.toList = _
  have h0 : HT.sIx z.length 0 none = 0 := rfl
  have h1 : HT.sIx z.length z.length (some 1) = 1 := by
    unfold HT.sIx
    simp
    omega
  rw [h0, h1]
  rfl
/-- a word of two signs or more, cut behind the first -/
theorem cut_words {z y : Str} (ho : overB z y = true) (h2 : 2 ≤ y.length) (h3 : y.length ≤ 40) :
    tokV z [.str "text", .str (cutS y none (some 1))] = true ∧ tokV z [.str "text", .str (cutS y (some 1) none)] = true := by
  have ho' : ∀ c ∈ cl y, c ∈ cl z := fun c hc => by
    unfold overB at ho
    exact of_decide_eq_true (List.all_eq_true.mp ho c hc)
  have hl := cl_len y
  have e1 := cutS_one y (by omega)
  have e2 := cut1 y
  have l1 : (cutS y none (some 1)).length = 1 := by
    rw [← cl_len, e1, List.length_take]; omega
  have l2 : (cutS y (some 1) none).length = y.length - 1 := by
    rw [← cl_len, e2, List.length_tail]; omega
  refine ⟨tok_text ?_ (by omega) (by omega), tok_text ?_ (by omega) (by omega)⟩
  · unfold overB
    rw [e1, List.all_eq_true]
    exact fun c hc => decide_eq_true (ho' c (List.mem_of_mem_take hc))
  · unfold overB
    rw [e2, List.all_eq_true]
    exact fun c hc => decide_eq_true (ho' c (List.mem_of_mem_tail hc))
end KW

/-! x != y where x's class has an own == and no own !=. -/
namespace KW
open PySem PySem.Spec PyProof.Rows PySem.SeqAt L2
section
variable {prog : Program} {w : World} {A : Around} {E : Value → Shared → Prop} {s : Shared} {K : PySem.W.Frag} {x C f : Addr} {y : Value} {ox : Obj} {od : Option Obj}
theorem bound_ne {args : List Value} {Q : Option Value → Shared → Prop} (X : K.In s.heap) (I : PySem.W.InstAt s.heap x ox C od) (at_ : PySem.W.findIn K (.ref C) "__ne__" = some (some (.builtin "object.__ne__")))
    (h : wpAny (model prog w) A (call (.builtin "object.__ne__") (.ref x :: args)) (fun v => Q (some v)) E s) : wpAny (model prog w) A (callSpecialIfBound? (.ref x) "__ne__" args) Q E s := by
  have told : wpAny (model prog w) A (call (.builtin "object.__ne__") ([.ref x] ++ args) >>= fun v => pure (some v)) Q E s :=
    wpAny_bind (wpAny_mono h (fun _ _ z => wpAny_pure z) fun _ _ z => z)
  have bind := F.cmp_object.ne.bind (.ref x)
  simp only [callSpecialIfBound?, bindSpecialIfBound?]
  refine wpAny_holding (wpAny_bind (wpAny_bind (wpAny_bind (I.type.here ((PySem.W.looks_findIn X at_).here ?_)))))
  refine wpAny_bind (wpAny_askSetting (wpAny_ite ?_))
  split
  · exact wpAny_bind (wpAny_of_eq bind (wpAny_pure (by exact told)))
  · exact wpAny_tryCatch (wpAny_bind (wpAny_of_eq bind (wpAny_pure (by exact told))))
theorem entry_ne {Q : Fin → Shared → Prop} (hu : A.units < cLine) (X : K.In s.heap) (I : PySem.W.InstAt s.heap x ox C od) (at_ : PySem.W.findIn K (.ref C) "__eq__" = some (some (.ref f))) (fn : PySem.W.isFn K (.ref f) = true)
    (called : wpAny (model prog w) A (call (.ref f) [.ref x, y]) (fun v s' => ∃ b, v = .bool b ∧ Q (.done (.ret (.bool (!b)))) s') E s) : wpAny (model prog w) A (Builtin.«object.__ne__» ⟨[.ref x, y], []⟩) Q E s := by
  unfold Builtin.«object.__ne__»
  repeat (first
    | with_reducible refine wpAny_cRoomFor hu ?_
    | (refine wpAny_bind (m := callSpecialIfBound? (.ref x) (Str.ofString "__eq__") [y])
        (PySem.W.ifBound_K X I at_ fn (wpAny_mono called (fun r s' z => by
          obtain ⟨b, rfl, q⟩ := z
          repeat (first | exact q | exact wpAny_pure q | exact wpAny_truthy_bool q | (refine wpAny_bind (m := truthy (.bool _)) (wpAny_truthy_bool ?_)) | wp_step)) fun _ _ z => z)))
    | wp_step)
theorem try_ne {Q : Option Value → Shared → Prop} (hu : A.units + 1 < cLine) (X : K.In s.heap) (I : PySem.W.InstAt s.heap x ox C od) (mro : PySem.W.mroIn K C (.type "object") = some true)
    (ne_ : PySem.W.findIn K (.ref C) "__ne__" = some (some (.builtin "object.__ne__"))) (at_ : PySem.W.findIn K (.ref C) "__eq__" = some (some (.ref f))) (fn : PySem.W.isFn K (.ref f) = true)
    (called : wpAny (model prog w) A.in1 (call (.ref f) [.ref x, y]) (fun v s' => ∃ b, v = .bool b ∧ Q (some (.bool (!b))) s') E s) : wpAny (model prog w) A (tryCompare (.ref x) "__ne__" y) Q E s := by
  unfold tryCompare
  refine wpAny_bind (bound_ne X I ne_ ?_)
  refine wpAny_call (codeAny_call_builtin F.cmp_object.ne.plain F.cmpEntry_ne (PySem.W.check_slot F.cmpKind_ne F.cmpSplit_ne (I.type.andThen (PySem.W.looks_mroIn X mro)) (F.cmpArgs_ne _ _)
    (entry_ne (A := A.in1) hu X I at_ fn (wpAny_mono called (fun v s' z => ?_) fun _ _ z => z))))
  obtain ⟨b, rfl, q⟩ := z
  exact ⟨b, rfl, wpAny_pure q⟩
theorem rich_ne {T : String} {Q : Value → Shared → Prop} (hu : A.units + 1 < cLine) (X : K.In s.heap) (I : PySem.W.InstAt s.heap x ox C od) (mro : PySem.W.mroIn K C (.type "object") = some true)
    (ne_ : PySem.W.findIn K (.ref C) "__ne__" = some (some (.builtin "object.__ne__"))) (at_ : PySem.W.findIn K (.ref C) "__eq__" = some (some (.ref f))) (fn : PySem.W.isFn K (.ref f) = true)
    (hT : s.TypeIs y T) (sub : PySem.W.subIn K (.type T) (.ref C) = some false)
    (called : wpAny (model prog w) A.in1 (call (.ref f) [.ref x, y]) (fun v s' => ∃ b, v = .bool b ∧ Q (.bool (!b)) s') E s) : wpAny (model prog w) A (richCompare .NotEq (.ref x) y) Q E s := by
  have one : wpAny (model prog w) A (tryCompare (.ref x) "__ne__" y) (fun r s' => ∃ v, r = some v ∧ Q v s') E s :=
    try_ne hu X I mro ne_ at_ fn (wpAny_mono called (fun v s' z => by
      obtain ⟨b, rfl, q⟩ := z
      exact ⟨b, rfl, _, rfl, q⟩) fun _ _ z => z)
  simp only [richCompare, cmpInfo_NotEq, oneThing_ref]
  refine wpAny_holding (wpAny_bind (wpAny_cRoomFor (Nat.lt_of_succ_lt hu) ?_))
  refine wpAny_bind (I.type.here ?_)
  refine wpAny_bind (wpAny_typeOf hT ?_)
  split
  · refine wpAny_bind ((PySem.W.looks_subIn X sub).here ?_)
    simp only [Bool.false_eq_true, if_false]
    refine wpAny_bind (m := tryCompare (.ref x) _ y) (wpAny_mono one (fun r s1 z => ?_) fun _ _ z => z)
    obtain ⟨v, rfl, q⟩ := z
    exact wpAny_pure q
  · rename_i q
    exact absurd (by simp) q
end
/-- lists and texts are of no class of the program -/
theorem sub_list {K : PySem.W.Frag} {C : Addr} : PySem.W.subIn K (.type "list") (.ref C) = some false := by
  have e : fastBuiltinMro "list" = some [.type "list", .type "object"] := by decide +kernel
  show (fastBuiltinMro "list").map (·.contains (.ref C)) = some false
  rw [e]
  simp
theorem sub_str {K : PySem.W.Frag} {C : Addr} : PySem.W.subIn K (.type "str") (.ref C) = some false := by
  have e : fastBuiltinMro "str" = some [.type "str", .type "object"] := by decide +kernel
  show (fastBuiltinMro "str").map (·.contains (.ref C)) = some false
  rw [e]
  simp
section
variable {X : Cx} {k : Nat} {f C : Addr} {fd : FuncData} {ps : List Str} {sp : Sp} {E : XK}
/-- x != y by x's own ==, y a list or a text -/
theorem op_neOwn (F : FnG X.prog X.w X.K X.mg X.base k f fd ps sp) (hr : RoomG (k + 1) X.A) (at_ : PySem.W.findIn X.K (.ref C) "__eq__" = some (some (.ref f))) (fn : PySem.W.isFn X.K (.ref f) = true) (hb : Binds X.K fd ps []) (hx : Passes CX0 X E)
    (ne_ : PySem.W.findIn X.K (.ref C) "__ne__" = some (some (.builtin "object.__ne__"))) (mro : PySem.W.mroIn X.K C (.type "object") = some true) :
    OpR X (compareOp .NotEq) (fun x y H Q => ∃ a dx fs, x = .ref a ∧ H a = some (.ins C dx fs) ∧ ((∃ z, y = .str z) ∨ ∃ l xs, y = .ref l ∧ H l = some (.lst xs)) ∧ sp [.ref a, y] H (fun v H' => ∃ r : Bool, v = .bl r ∧ Q (.bl (!r)) H') E) := by
  intro pins s σ H x y v u Q I rx ry h
  obtain ⟨a, dx, fs, rfl, ha, hy, h⟩ := h
  obtain rfl : v = Value.ref a := rx
  obtain ⟨mA, J, _⟩ := ins_get I.hok ha
  obtain ⟨od, J, _⟩ := J.look
  have small : X.A.units + 1 < cLine := by have := hr.room.un; omega
  have typed : ∃ T, s.TypeIs u T ∧ PySem.W.subIn X.K (.type T) (.ref C) = some false := by
    rcases hy with ⟨z, rfl⟩ | ⟨l, xs, rfl, hl⟩
    · obtain ⟨t, rfl⟩ := ry
      exact ⟨"str", rfl, sub_str⟩
    · obtain rfl : u = Value.ref l := ry
      obtain ⟨_, its, n, _, _, e⟩ := I.lstM hl
      exact ⟨"list", ⟨_, e, rfl⟩, sub_list⟩
  obtain ⟨T, hT, sub⟩ := typed
  show wpAny (model X.prog X.w) X.A (richCompare .NotEq (.ref a) u) (EP X pins σ Q) X.xe s
  refine rich_ne small I.kIn J mro ne_ at_ fn hT sub (wpAny_mono (run_below F (A' := X.A.in1) rfl hr.in1 hb hx I (xs := [.ref a, y]) (.cons rfl (.cons ry .nil)) h) (fun v s' q => ?_) fun _ _ z => z)
  obtain ⟨y, H', I', ry, r, rfl, q⟩ := q
  obtain rfl := ry
  exact ⟨r, rfl, .bl (!r), H', I', rfl, q⟩
end
end KW
namespace KW
open PySem L2
theorem kit_self {K : PySem.W.Frag} {C : Addr} : PySem.W.kitOne K (.ref C) (.ref C) = some true := if_pos (by simp)
theorem kit_not {K : PySem.W.Frag} {C : Addr} {T : String} (ic : PySem.W.isClsIn K C = true) (it : PySem.W.typeIn K (.ref C) = some (.type "type")) (sub : PySem.W.subIn K (.type T) (.ref C) = some false) : PySem.W.kitOne K (.type T) (.ref C) = some false := by
  unfold PySem.W.kitOne
  rw [if_neg (by simp)]
  show (if ((PySem.W.clsIn K C).isSome && PySem.W.typeIn K (.ref C) == some (.type "type")) = true then PySem.W.subIn K (.type T) (.ref C) else none) = some false
  have h : (PySem.W.clsIn K C).isSome = true := ic
  rw [h, it, if_pos (by decide), sub]
end KW
namespace KW
open PySem L2
theorem uE {A : Around} {k : Nat} (hr : Room k A) : A.units + 64 < cLine := by have := hr.un; omega
/-- a list that is not the bag's is not where the bag is -/
theorem ne_bag {H : Hp} {b c a : Addr} {xs : List V} (hb : BagAt H b c) (h : H a = some (.lst xs)) (no : ∀ p q n : Int, xs ≠ [.int p, .int q, .int n, .ref c]) : a ≠ b := by
  obtain ⟨p, q, n, cs, e, _⟩ := hb
  intro eq
  rw [eq, e] at h
  exact no p q n (HO.lst.inj (Option.some.inj h)).symm
theorem toks_no {K : PySem.W.Frag} {H : Hp} {z : Str} {vs : List V} {ts : List (List V)} {c : Addr} (h : Toks K H z vs ts) : ∀ p q n : Int, vs ≠ [.int p, .int q, .int n, .ref c] := by
  rintro p q n rfl
  cases h with
  | cons r _ =>
    obtain ⟨⟨a, e, _⟩, _⟩ := r
    cases e
theorem plcs_no {K : PySem.W.Frag} {H : Hp} {vs : List V} {ps : List (List V)} {c : Addr} (h : Plcs K H vs ps) : ∀ p q n : Int, vs ≠ [.int p, .int q, .int n, .ref c] := by
  rintro p q n rfl
  cases h with
  | cons r _ =>
    obtain ⟨a, e, _⟩ := r
    cases e
theorem PieceAt.keepBag {K : PySem.W.Frag} {C : Addr} {H H' : Hp} {a b c : Addr} {z : Str} {ts : List (List V)} (k : KeepB b H H') (hb : BagAt H b c) (h : PieceAt K C H a z ts) : PieceAt K C H' a z ts := by
  obtain ⟨dx, l, p, tvs, pvs, h1, h2, h3, h4, h5⟩ := h
  have na : a ≠ b := by
    obtain ⟨_, _, _, _, e, _⟩ := hb
    intro eq
    rw [eq, e] at h1
    cases h1
  exact ⟨dx, l, p, tvs, pvs, k _ _ na h1, k _ _ (ne_bag hb h2 (toks_no h3)) h2, h3.keep k hb.lst, k _ _ (ne_bag hb h4 (plcs_no h5)) h4, h5.keep k hb.lst⟩
theorem ints_no {acc : List Int} {c : Addr} : ∀ p q n : Int, acc.map V.int ≠ [.int p, .int q, .int n, .ref c] := by
  intro p q n e
  have h := congrArg (fun l => l[3]?) e
  simp at h
theorem holes_no {ps : List (List V)} {z : Str} {ts : List (List V)} {c : Addr} (hz : SignsOk z) (ok : ∀ t ∈ ts, tokV z t = true) : ∀ p q n : Int, holesL (placesL ts) ≠ [.int p, .int q, .int n, .ref c] := by
  intro p q n e
  have hm : (V.ref c) ∈ holesL (placesL ts) := by rw [e]; simp
  obtain ⟨pl, hp, e2⟩ := List.mem_filterMap.mp hm
  obtain ⟨k, v, rfl, fl, _⟩ := place_of hz ok hp
  by_cases hk : k = "hole"
  · simp [hk] at e2
    subst e2
    simp [flatV] at fl
  · simp [hk] at e2
theorem TellAt.keepBag {K : PySem.W.Frag} {H H' : Hp} {z : Str} {ts : List (List V)} {b c a1 a2 a3 a4 : Addr} (hz : SignsOk z) (k : KeepB b H H') (hb : BagAt H b c) (h : TellAt K H z ts a1 a2 a3 a4) : TellAt K H' z ts a1 a2 a3 a4 := by
  obtain ⟨tvs, pvs, h1, h2, h3, h4, h5, h6⟩ := h
  exact ⟨tvs, pvs, k _ _ (ne_bag hb h1 (toks_no h2)) h1, h2.keep k hb.lst, k _ _ (ne_bag hb h3 (plcs_no h4)) h3, h4.keep k hb.lst, k _ _ (ne_bag hb h5 ints_no) h5, k _ _ (ne_bag hb h6 (holes_no (ps := []) hz h2.ok)) h6⟩
end KW
namespace KW
open PySem L2
theorem PlAll.item {n w : Nat} : ∀ {ds : List PyData} {v : Nat}, PyData.canLayAll0 ds = true → PyData.depthAll ds ≤ n → PyData.weightAll ds ≤ v → PyData.showableAll ds = true → PyData.intsShortAll 13 ds = true → ∀ d ∈ ds, Pl n v d
  | [], _, _, _, _, _, _ => fun d hd => nomatch hd
  | e :: ds, v, h1, h2, h3, h4, h5 => fun d hd => by
    simp only [PyData.canLayAll0, Bool.and_eq_true] at h1
    simp only [PyData.depthAll] at h2
    simp only [PyData.weightAll] at h3
    simp only [PyData.showableAll, Bool.and_eq_true] at h4
    simp only [PyData.intsShortAll, Bool.and_eq_true] at h5
    rcases List.mem_cons.mp hd with rfl | hd
    · exact ⟨h1.1, Nat.le_trans (Nat.le_max_left _ _) h2, by omega, h4.1, h5.1⟩
    · exact PlAll.item (n := n) (w := w) (v := v) h1.2 (Nat.le_trans (Nat.le_max_right _ _) h2) (by omega) h4.2 h5.2 d hd
theorem Pl.item {n w : Nat} {ds : List PyData} (h : Pl n w (.list ds)) {d : PyData} (hd : d ∈ ds) : Pl n w d := by
  have h1 := h.lay
  have h2 := h.deep
  have h3 := h.wt
  have h4 := h.told
  have h5 := h.small
  simp only [PyData.canLay0] at h1
  simp only [PyData.depth] at h2
  simp only [PyData.weight] at h3
  simp only [PyData.showable] at h4
  simp only [PyData.intsShort] at h5
  exact PlAll.item (n := n) (w := w) h1 (by omega) h3 h4 h5 d hd
theorem holes_flat {z : Str} {ts : List (List V)} (hz : SignsOk z) (ok : ∀ t ∈ ts, tokV z t = true) : (holesL (placesL ts)).all flatV = true := by
  rw [List.all_eq_true]
  intro v hv
  obtain ⟨p, hp, e⟩ := List.mem_filterMap.mp hv
  obtain ⟨k, v', rfl, q, _⟩ := place_of hz ok hp
  by_cases hk : k = "hole"
  · simp [hk] at e
    rw [← e]
    simp only [List.all_cons, Bool.and_eq_true] at q
    exact q.2.1
  · simp [hk] at e
theorem TellAt.dps {K : PySem.W.Frag} {H : Hp} {z : Str} {ts : List (List V)} {a1 a2 a3 a4 : Addr} (h : TellAt K H z ts a1 a2 a3 a4) (hz : SignsOk z) :
    Dp K H (.ref a1) (.list (ts.map tokD)) ∧ Dp K H (.ref a2) (.list ((placesL ts).map tokD)) ∧ Dp K H (.ref a3) (.list ((flushA ts 0 []).map PyData.int)) ∧ Dp K H (.ref a4) (.list ((holesL (placesL ts)).map datV)) := by
  obtain ⟨tvs, pvs, h1, h2, h3, h4, h5, h6⟩ := h
  have ok := h2.ok
  have fl : ∀ p ∈ placesL ts, p.all flatV = true := fun p hp => by
    obtain ⟨_, _, _, q, _⟩ := place_of hz ok hp
    exact q
  have fh : (holesL (placesL ts)).all flatV = true := by
    rw [List.all_eq_true]
    intro v hv
    obtain ⟨p, hp, e⟩ := List.mem_filterMap.mp hv
    obtain ⟨k, v', rfl, q, _⟩ := place_of hz ok hp
    by_cases hk : k = "hole"
    · simp [hk] at e
      rw [← e]
      simp only [List.all_cons, Bool.and_eq_true] at q
      exact q.2.1
    · simp [hk] at e
  exact ⟨.lst (SqL.of h1) h2.dps, .lst (SqL.of h3) (h4.dps fl), .lst (SqL.of h5) (dp_ints _), .lst (SqL.of h6) (dp_flats fh)⟩
end KW
namespace KW
open PySem L2
/-- the signs that some laws draw -/
def signs7 : List Str := ["ab", "abc", "xz", "bdfhjl", "mnoz", "ay", "cegkw"]
/-- signs with one more: z behind them, or a ahead of them -/
theorem wide_of {z : Str} (h : z ∈ signs7) : SignsOk z ∧ ∃ (c : Nat) (wz : Str), atI z.cps.toList (-1) = some c ∧
    ((decide ((⟨#[c]⟩ : Str).cps.toList < (Str.ofString "z").cps.toList) = true ∧ wz = z ++ Str.ofString "z") ∨ (decide ((⟨#[c]⟩ : Str).cps.toList < (Str.ofString "z").cps.toList) = false ∧ wz = Str.ofString "a" ++ z)) ∧
    (wz.length < 7 → SignsOk wz ∧ ¬ z = wz) ∧ wz.length ≤ 7 := by
  simp only [signs7, List.mem_cons, List.not_mem_nil, or_false] at h
  rcases h with rfl | rfl | rfl | rfl | rfl | rfl | rfl
  · exact ⟨by unfold SignsOk; decide +kernel, 98, _, by decide +kernel, .inl ⟨by decide +kernel, rfl⟩, fun _ => ⟨by unfold SignsOk; decide +kernel, by decide +kernel⟩, by decide +kernel⟩
  · exact ⟨by unfold SignsOk; decide +kernel, 99, _, by decide +kernel, .inl ⟨by decide +kernel, rfl⟩, fun _ => ⟨by unfold SignsOk; decide +kernel, by decide +kernel⟩, by decide +kernel⟩
  · exact ⟨by unfold SignsOk; decide +kernel, 122, _, by decide +kernel, .inr ⟨by decide +kernel, rfl⟩, fun _ => ⟨by unfold SignsOk; decide +kernel, by decide +kernel⟩, by decide +kernel⟩
  · exact ⟨by unfold SignsOk; decide +kernel, 108, _, by decide +kernel, .inl ⟨by decide +kernel, rfl⟩, fun h => absurd h (by decide +kernel), by decide +kernel⟩
  · exact ⟨by unfold SignsOk; decide +kernel, 122, _, by decide +kernel, .inr ⟨by decide +kernel, rfl⟩, fun _ => ⟨by unfold SignsOk; decide +kernel, by decide +kernel⟩, by decide +kernel⟩
  · exact ⟨by unfold SignsOk; decide +kernel, 121, _, by decide +kernel, .inl ⟨by decide +kernel, rfl⟩, fun _ => ⟨by unfold SignsOk; decide +kernel, by decide +kernel⟩, by decide +kernel⟩
  · exact ⟨by unfold SignsOk; decide +kernel, 119, _, by decide +kernel, .inl ⟨by decide +kernel, rfl⟩, fun _ => ⟨by unfold SignsOk; decide +kernel, by decide +kernel⟩, by decide +kernel⟩
end KW
namespace KW
open PySem L2
/-- what is a token over some signs is one over more -/
theorem tok_mono {z w : Str} (hs : ∀ c ∈ cl z, c ∈ cl w) (hl : z.length ≤ w.length) {t : List V} (h : tokV z t = true) : tokV w t = true := by
  have ov : ∀ {y : Str}, overB z y = true → overB w y = true := fun {y} ho => by
    unfold overB at *
    rw [List.all_eq_true] at *
    exact fun c hc => decide_eq_true (hs c (of_decide_eq_true (ho c hc)))
  obtain ⟨kd, rest, rfl, hk⟩ := tok_inv h
  rcases hk with ⟨rfl, rfl⟩ | ⟨y, rfl, rfl, h1, h2, h3⟩ | ⟨y, rfl, rfl, h1⟩ | ⟨d, n, hkd, rfl, h1, h2, h3, h4⟩
  · exact tok_flush
  · exact tok_text (ov h1) h2 h3
  · refine tok_any ?_
    unfold choiceB at *
    simp only [Bool.and_eq_true, decide_eq_true_eq] at *
    exact ⟨⟨⟨h1.1.1.1, by omega⟩, ov h1.1.2⟩, h1.2⟩
  · rcases hkd with rfl | rfl
    · exact tok_copy h1 h2 h3 h4
    · exact tok_say h1 h2 h3 h4
theorem Toks.mono {K : PySem.W.Frag} {H : Hp} {z w : Str} (hs : ∀ c ∈ cl z, c ∈ cl w) (hl : z.length ≤ w.length) {vs : List V} {ts : List (List V)} (h : Toks K H z vs ts) : Toks K H w vs ts :=
  paired_mono h fun _ _ t => ⟨t.1, tok_mono hs hl t.2⟩
theorem cl_app (x y : Str) : cl (x ++ y) = cl x ++ cl y := by
  show (x.cps ++ y.cps).toList = _
  rw [Array.toList_append]
end KW
namespace KW
open PySem L2
theorem pf_inj {z w : Str} {l p l' p' : Addr} (h : pf z l p = pf w l' p') : l = l' ∧ p = p' := by
  have h1 := congrArg (fun f => f.lookup ("_tokens" : Str)) h
  have h2 := congrArg (fun f => f.lookup ("_places" : Str)) h
  simp only [pf_tokens, pf_places] at h1 h2
  exact ⟨V.ref.inj (Option.some.inj h1), V.ref.inj (Option.some.inj h2)⟩
/-- the piece's own lists were not there ahead -/
def NewIn (C : Addr) (H H' : Hp) (a : Addr) : Prop := ∀ (dx l p : Addr) (z : Str), H' a = some (.ins C dx (pf z l p)) → H l = none ∧ H p = none
end KW

/-! What stood, stands: lemmas by which a search goes back through the heaps. -/
namespace KW
open PySem L2
theorem same_get {H H' : Hp} {a : Addr} {o : HO} (s : Same H H') (h : H a = some o) : H' a = some o := s _ _ h
theorem keep_get {b : Addr} {H H' : Hp} {a : Addr} {o : HO} (k : KeepB b H H') (n : a ≠ b) (h : H a = some o) : H' a = some o := k _ _ n h
theorem upd_get {H : Hp} {p a : Addr} {o x : HO} (n : a ≠ p) (h : H a = some x) : upd H p o a = some x := by rw [upd_ne n]; exact h
theorem upd_new {H : Hp} {p a : Addr} {o x : HO} (hp : H p = none) (h : H a = some x) : upd H p o a = some x := upd_get (ne_of_none h hp) h
theorem none_ne {H : Hp} {a b : Addr} {o : HO} (h' : H b = none) (h : H a = some o) : a ≠ b := ne_of_none h h'
theorem none_ne' {H : Hp} {a b : Addr} {o : HO} (h' : H b = none) (h : H a = some o) : b ≠ a := (ne_of_none h h').symm
theorem free_same {H H' : Hp} {p : Addr} (h : H' p = none) (s : Same H H') : H p = none := s.free h
theorem free_upd {H : Hp} {p q : Addr} {o : HO} (h : upd H q o p = none) : H p = none := by
  by_cases e : p = q
  · subst e; rw [upd_same] at h; cases h
  · rwa [upd_ne e] at h
theorem ne_upd {H : Hp} {p q : Addr} {o : HO} (h : upd H q o p = none) : p ≠ q := by
  intro e
  subst e; rw [upd_same] at h; cases h
/-- not of a bag's form -/
def NotBag : HO → Prop
  | .lst [.int _, .int _, .int _, .ref _] => False
  | _ => True
theorem ne_bagO {H : Hp} {b c a : Addr} {o : HO} (hb : BagAt H b c) (h : H a = some o) (no : NotBag o) : a ≠ b := by
  obtain ⟨p, q, n, cs, e, _⟩ := hb
  intro eq
  rw [eq, e] at h
  cases h
  exact no
theorem notBag_ints (xs : List Int) : NotBag (.lst (xs.map V.int)) := by
  match xs with
  | [] => trivial
  | [_] => trivial
  | [_, _] => trivial
  | [_, _, _] => trivial
  | [_, _, _, _] => trivial
  | _ :: _ :: _ :: _ :: _ :: _ => trivial
theorem notBag_toks {K : PySem.W.Frag} {H : Hp} {z : Str} {vs : List V} {ts : List (List V)} (h : Toks K H z vs ts) : NotBag (.lst vs) := by
  cases h with
  | nil => trivial
  | cons r _ => obtain ⟨⟨a, rfl, _⟩, _⟩ := r; trivial
theorem notBag_plcs {K : PySem.W.Frag} {H : Hp} {vs : List V} {ps : List (List V)} (h : Plcs K H vs ps) : NotBag (.lst vs) := by
  cases h with
  | nil => trivial
  | cons r _ => obtain ⟨a, rfl, _⟩ := r; trivial
theorem bag_get {H H' : Hp} {b c a : Addr} {o : HO} (k : KeepB b H H') (hb : BagAt H b c) (no : NotBag o) (h : H a = some o) : H' a = some o := k _ _ (ne_bagO hb h no) h
theorem TupAt.bag {K : PySem.W.Frag} {H H' : Hp} {b c : Addr} {v : V} {xs : List V} (k : KeepB b H H') (hb : BagAt H b c) (h : TupAt K H v xs) : TupAt K H' v xs := h.keep k hb.lst.no
theorem TokAt.bag {K : PySem.W.Frag} {H H' : Hp} {b c : Addr} {z : Str} {v : V} {xs : List V} (k : KeepB b H H') (hb : BagAt H b c) (h : TokAt K H z v xs) : TokAt K H' z v xs := TokAt.keep k hb.lst h
theorem Toks.bag {K : PySem.W.Frag} {H H' : Hp} {b c : Addr} {z : Str} {vs : List V} {ts : List (List V)} (k : KeepB b H H') (hb : BagAt H b c) (h : Toks K H z vs ts) : Toks K H' z vs ts := h.keep k hb.lst
theorem Plcs.bag {K : PySem.W.Frag} {H H' : Hp} {b c : Addr} {vs : List V} {ps : List (List V)} (k : KeepB b H H') (hb : BagAt H b c) (h : Plcs K H vs ps) : Plcs K H' vs ps := h.keep k hb.lst
theorem Toks.put {K : PySem.W.Frag} {H : Hp} {D : Addr} {xs ys : List V} {z : Str} {vs : List V} {ts : List (List V)} (hD : H D = some (.lst xs)) (h : Toks K H z vs ts) : Toks K (upd H D (.lst ys)) z vs ts := h.keep KeepB.put (lst_lst hD)
theorem Plcs.put {K : PySem.W.Frag} {H : Hp} {D : Addr} {xs ys : List V} {vs : List V} {ts : List (List V)} (hD : H D = some (.lst xs)) (h : Plcs K H vs ts) : Plcs K (upd H D (.lst ys)) vs ts := h.keep KeepB.put (lst_lst hD)
theorem TupAt.put {K : PySem.W.Frag} {H : Hp} {D : Addr} {xs ys : List V} {v : V} {ts : List V} (hD : H D = some (.lst xs)) (h : TupAt K H v ts) : TupAt K (upd H D (.lst ys)) v ts := h.keep KeepB.put (lst_lst hD).no
theorem TokAt.put {K : PySem.W.Frag} {H : Hp} {D : Addr} {xs ys : List V} {z : Str} {v : V} {ts : List V} (hD : H D = some (.lst xs)) (h : TokAt K H z v ts) : TokAt K (upd H D (.lst ys)) z v ts := TokAt.keep KeepB.put (lst_lst hD) h
theorem SqL.same' {K : PySem.W.Frag} {H H' : Hp} {a : Addr} {xs : List V} (e : Same H H') (h : SqL K H a xs) : SqL K H' a xs := by
  rcases h with (h | ⟨o, h⟩) | h
  · exact .inl (.inl (e _ _ h))
  · exact .inl (.inr ⟨o, e _ _ h⟩)
  · exact .inr h
theorem Paired.tup_keep {K : PySem.W.Frag} {H H' : Hp} (s : Same H H') {vs : List V} {ps : List (List V)} (h : Plcs K H vs ps) : Plcs K H' vs ps := h.same s
theorem bag_put {H : Hp} {b c D : Addr} {xs ys : List V} (h : BagAt H b c) (h1 : D ≠ b) (h2 : D ≠ c) : BagAt (upd H D (.lst ys)) b c := bag_keep h KeepB.put h1 h2
end KW

/-! Places put together to the fewest tokens. -/
namespace KW
open PySem L2
/-- how a place looks -/
inductive PlOk (z : Str) : List V → Prop where
  | sign {c : Nat} : c ∈ cl z → PlOk z [.str "sign", .str (sg c)]
  | hole {y : Str} : choiceB z y = true → PlOk z [.str "hole", .str y]
  | copy {d : Int} : 1 ≤ d → d ≤ 12 → PlOk z [.str "copy", .int d]
  | say {d : Int} : 1 ≤ d → d ≤ 12 → PlOk z [.str "say", .int d]
theorem plOk_of {z : Str} {ts : List (List V)} (h : ∀ t ∈ ts, tokV z t = true) : ∀ p ∈ placesL ts, PlOk z p := by
  intro p hp
  unfold placesL at hp
  obtain ⟨t, ht, hp⟩ := List.mem_flatMap.mp hp
  obtain ⟨kd, rest, rfl, hk⟩ := tok_inv (h t ht)
  rcases hk with ⟨rfl, rfl⟩ | ⟨y, rfl, rfl, h1, h2, h3⟩ | ⟨y, rfl, rfl, h1⟩ | ⟨d, n, hkd, rfl, h1, h2, h3, h4⟩
  · exact nomatch (show p ∈ ([] : List (List V)) from hp)
  · rw [place_text] at hp
    obtain ⟨c, hc, rfl⟩ := List.mem_map.mp hp
    unfold overB at h1
    exact .sign (of_decide_eq_true ((List.all_eq_true.mp h1) c hc))
  · rw [place_any] at hp
    rw [List.mem_singleton.mp hp]
    exact .hole h1
  · have hp : p ∈ List.replicate n.toNat [V.str kd, V.int d] := hp
    rw [List.eq_of_mem_replicate hp]
    rcases hkd with rfl | rfl
    · exact .copy h1 h2
    · exact .say h1 h2
/-- the token of one place -/
def tokOf : List V → List V
  | [.str k, v] => if k = "sign" then [.str "text", v] else if k = "hole" then [.str "any", v] else [.str k, v, .int 1]
  | t => t
theorem tokOf_sign {v : V} : tokOf [.str "sign", v] = [.str "text", v] := by
  simp only [tokOf, if_true]
theorem tokOf_hole {v : V} : tokOf [.str "hole", v] = [.str "any", v] := by
  have h : ¬ (("hole" : Str) = "sign") := by decide +kernel
  simp only [tokOf, if_neg h, if_true]
theorem tokOf_copy {v : V} : tokOf [.str "copy", v] = [.str "copy", v, .int 1] := by
  have h : ¬ (("copy" : Str) = "sign") := by decide +kernel
  have h' : ¬ (("copy" : Str) = "hole") := by decide +kernel
  simp only [tokOf, if_neg h, if_neg h']
theorem tokOf_say {v : V} : tokOf [.str "say", v] = [.str "say", v, .int 1] := by
  have h : ¬ (("say" : Str) = "sign") := by decide +kernel
  have h' : ¬ (("say" : Str) = "hole") := by decide +kernel
  simp only [tokOf, if_neg h, if_neg h']
/-- whether two tokens side by side are one -/
def goTog : List V → List V → Bool
  | [.str a, _], [.str b, _] => decide (a = "text") && decide (b = "text")
  | [.str a, x, _], [.str b, y, _] => decide (a = b) && decide (x = y)
  | _, _ => false
def joinT : List V → List V → List V
  | [.str a, .str x], [_, .str y] => [.str a, .str (x ++ y)]
  | [.str a, x, .int m], [_, _, .int n] => [.str a, x, .int (m + n)]
  | t, _ => t
def addTok (acc : List (List V)) (t : List V) : List (List V) :=
  match acc.getLast? with
  | some l => if goTog l t = true then acc.dropLast ++ [joinT l t] else acc ++ [t]
  | none => acc ++ [t]
abbrev flT : List V := [.str "flush"]
def mergeA (f : Int → Bool) : List (List V) → Int → List (List V) → List (List V)
  | [], n, acc => if f n = true then acc ++ [flT] else acc
  | p :: ps, n, acc => mergeA f ps (n + 1) (addTok (if f n = true then acc ++ [flT] else acc) (tokOf p))
def mergeL (f : Int → Bool) (ps : List (List V)) : List (List V) := mergeA f ps 0 []

/-! ### what one place more does -/
theorem app_drop {l : List V} {acc : List (List V)} (h : acc.getLast? = some l) : acc = acc.dropLast ++ [l] := by
  obtain ⟨ys, rfl⟩ := List.getLast?_eq_some_iff.mp h
  simp
theorem tok_one {z : Str} {p : List V} (h : PlOk z p) : tokV z (tokOf p) = true ∧ sizeV (tokOf p) = 1 ∧ placeT (tokOf p) = [p] := by
  cases h with
  | sign hc => rw [tokOf_sign]; exact ⟨tok_sign hc, size_sign, by rw [place_text]; rfl⟩
  | hole hy => rw [tokOf_hole]; exact ⟨tok_any hy, sizeV_any _, place_any⟩
  | copy h1 h2 => rw [tokOf_copy]; exact ⟨tok_copy h1 h2 (by decide) (by decide), rfl, rfl⟩
  | say h1 h2 => rw [tokOf_say]; exact ⟨tok_say h1 h2 (by decide) (by decide), rfl, rfl⟩
theorem over_app {z x y : Str} (hx : overB z x = true) (hy : overB z y = true) : overB z (x ++ y) = true := by
  unfold overB at *
  rw [cl_app, List.all_append, hx, hy]
  rfl
theorem nat_ : ¬ (("any" : Str) = "text") := by decide +kernel
/-- a join: what it writes -/
theorem join_ok {z : Str} {l p : List V} (hl : tokV z l = true) (hp : PlOk z p) (g : goTog l (tokOf p) = true) (hs : sizeV l + 1 ≤ 40) :
    tokV z (joinT l (tokOf p)) = true ∧ sizeV (joinT l (tokOf p)) = sizeV l + 1 ∧ placeT (joinT l (tokOf p)) = placeT l ++ [p] ∧ (∃ a b r, joinT l (tokOf p) = a :: b :: r) ∧ (∃ a b r, l = a :: b :: r) := by
  obtain ⟨kd, rest, rfl, hk⟩ := tok_inv hl
  cases hp with
  | sign hc =>
    rw [tokOf_sign] at g ⊢
    rcases hk with ⟨rfl, rfl⟩ | ⟨y, rfl, rfl, h1, h2, h3⟩ | ⟨y, rfl, rfl, h1⟩ | ⟨d, n, hkd, rfl, h1, h2, h3, h4⟩
    · exact absurd g (by simp [goTog])
    · rw [sizeV_text] at hs
      rename_i c
      have hl2 : (y ++ sg c).length = y.length + 1 := app_len _ _
      refine ⟨tok_text (over_app h1 (over_of (z := z) (cs := [c]) fun x hx => by rw [List.mem_singleton.mp hx]; exact hc)) (by omega) (by omega), ?_, ?_, ⟨_, _, _, rfl⟩, ⟨_, _, _, rfl⟩⟩
      · show sizeV [.str "text", .str (y ++ sg c)] = _
        rw [sizeV_text, sizeV_text, hl2]; omega
      · show placeT [.str "text", .str (y ++ sg c)] = _
        rw [place_text, place_text, cl_app, List.map_append]
        rfl
    · exact absurd g (by simp only [goTog, decide_eq_false nat_]; simp)
    · exact absurd g (by simp [goTog])
  | hole hy =>
    rw [tokOf_hole] at g
    rcases hk with ⟨rfl, rfl⟩ | ⟨y, rfl, rfl, h1, h2, h3⟩ | ⟨y, rfl, rfl, h1⟩ | ⟨d, n, hkd, rfl, h1, h2, h3, h4⟩
    · exact absurd g (by simp [goTog])
    · exact absurd g (by simp only [goTog, decide_eq_false nat_]; simp)
    · exact absurd g (by simp only [goTog, decide_eq_false nat_]; simp)
    · exact absurd g (by simp [goTog])
  | copy e1 e2 =>
    rw [tokOf_copy] at g ⊢
    rcases hk with ⟨rfl, rfl⟩ | ⟨y, rfl, rfl, h1, h2, h3⟩ | ⟨y, rfl, rfl, h1⟩ | ⟨d, n, hkd, rfl, h1, h2, h3, h4⟩
    · exact absurd g (by simp [goTog])
    · exact absurd g (by simp [goTog])
    · exact absurd g (by simp [goTog])
    · simp only [goTog, Bool.and_eq_true, decide_eq_true_eq] at g
      obtain ⟨rfl, g2⟩ := g
      cases g2
      have hs : n + 1 ≤ 40 := hs
      refine ⟨tok_copy h1 h2 (by omega) hs, rfl, ?_, ⟨_, _, _, rfl⟩, ⟨_, _, _, rfl⟩⟩
      show List.replicate (n + 1).toNat _ = List.replicate n.toNat _ ++ [_]
      rw [show (n + 1).toNat = n.toNat + 1 by omega, List.replicate_succ']
  | say e1 e2 =>
    rw [tokOf_say] at g ⊢
    rcases hk with ⟨rfl, rfl⟩ | ⟨y, rfl, rfl, h1, h2, h3⟩ | ⟨y, rfl, rfl, h1⟩ | ⟨d, n, hkd, rfl, h1, h2, h3, h4⟩
    · exact absurd g (by simp [goTog])
    · exact absurd g (by simp [goTog])
    · exact absurd g (by simp [goTog])
    · simp only [goTog, Bool.and_eq_true, decide_eq_true_eq] at g
      obtain ⟨rfl, g2⟩ := g
      cases g2
      have hs : n + 1 ≤ 40 := hs
      refine ⟨tok_say h1 h2 (by omega) hs, rfl, ?_, ⟨_, _, _, rfl⟩, ⟨_, _, _, rfl⟩⟩
      show List.replicate (n + 1).toNat _ = List.replicate n.toNat _ ++ [_]
      rw [show (n + 1).toNat = n.toNat + 1 by omega, List.replicate_succ']
/-! ### flushes of joined lists -/
theorem flushA_app : ∀ (ts us : List (List V)) (n : Int) (acc : List Int), (∀ t ∈ ts, ∃ k, (t = [.str k] ∧ sizeV t = 0) ∨ ∃ a b r, t = a :: b :: r) → flushA (ts ++ us) n acc = flushA us (n + tsize ts) (flushA ts n acc)
  | [], us, n, acc, _ => by rw [tsize_nil, Int.add_zero]; rfl
  | t :: ts, us, n, acc, h => by
    have ih := fun n acc => flushA_app ts us n acc fun u hu => h u (List.mem_cons_of_mem _ hu)
    rw [List.cons_append, tsize_cons]
    obtain ⟨k, ⟨rfl, h0⟩ | ⟨a, b, r, rfl⟩⟩ := h t List.mem_cons_self
    · rw [flushA_flush, ih, h0, Int.zero_add]
      rfl
    · have e : ∀ us, flushA ((a :: b :: r) :: us) n acc = flushA us (n + sizeV (a :: b :: r)) acc := fun us => by cases a <;> rfl
      rw [e, e, ih, Int.add_assoc]
theorem shapes {z : Str} {ts : List (List V)} (h : ∀ t ∈ ts, tokV z t = true) : ∀ t ∈ ts, ∃ k, (t = [.str k] ∧ sizeV t = 0) ∨ ∃ a b r, t = a :: b :: r := fun t ht => by
  obtain ⟨kd, rest, rfl, hk⟩ := tok_inv (h t ht)
  rcases hk with ⟨rfl, rfl⟩ | ⟨y, rfl, rfl, h1, h2, h3⟩ | ⟨y, rfl, rfl, h1⟩ | ⟨d, n, hkd, rfl, h1, h2, h3, h4⟩
  · exact ⟨_, .inl ⟨rfl, rfl⟩⟩
  · exact ⟨"x", .inr ⟨_, _, _, rfl⟩⟩
  · exact ⟨"x", .inr ⟨_, _, _, rfl⟩⟩
  · exact ⟨"x", .inr ⟨_, _, _, rfl⟩⟩
theorem flushA_big {a b : V} {r : List V} {us : List (List V)} {n : Int} {acc : List Int} : flushA ((a :: b :: r) :: us) n acc = flushA us (n + sizeV (a :: b :: r)) acc := by cases a <;> rfl
/-- one place more -/
structure Grown (z : Str) (ps : List (List V)) (fl : List Int) (acc : List (List V)) : Prop where
  ok : ∀ t ∈ acc, tokV z t = true
  places : placesL acc = ps
  flushes : flushA acc 0 [] = fl
theorem Grown.size {z : Str} {ps : List (List V)} {fl : List Int} {acc : List (List V)} (g : Grown z ps fl acc) : tsize acc = ps.length := by
  rw [← places_len g.ok, g.places]
theorem Grown.flush {z : Str} {ps : List (List V)} {fl : List Int} {acc : List (List V)} (g : Grown z ps fl acc) : Grown z ps (if (ps.length : Int) ∈ fl then fl else fl ++ [(ps.length : Int)]) (acc ++ [flT]) := by
  refine ⟨fun t ht => ?_, ?_, ?_⟩
  · rcases List.mem_append.mp ht with h | h
    · exact g.ok t h
    · rw [List.mem_singleton.mp h]; exact tok_flush
  · rw [places_app, g.places, places_one]
    exact List.append_nil _
  · rw [flushA_app _ _ _ _ (shapes g.ok), g.flushes, g.size, Int.zero_add]
    rfl
theorem Grown.add {z : Str} {ps : List (List V)} {fl : List Int} {acc : List (List V)} (g : Grown z ps fl acc) {p : List V} (hp : PlOk z p) (hs : ps.length + 1 ≤ 40) : Grown z (ps ++ [p]) fl (addTok acc (tokOf p)) := by
  obtain ⟨o1, o2, o3⟩ := tok_one hp
  have plain : Grown z (ps ++ [p]) fl (acc ++ [tokOf p]) := by
    refine ⟨fun t ht => ?_, ?_, ?_⟩
    · rcases List.mem_append.mp ht with h | h
      · exact g.ok t h
      · rw [List.mem_singleton.mp h]; exact o1
    · rw [places_app, g.places, places_one, o3]
    · rw [flushA_app _ _ _ _ (shapes g.ok), g.flushes]
      obtain ⟨a, b, r, e⟩ : ∃ a b r, tokOf p = a :: b :: r := by
        cases hp with
        | sign h => rw [tokOf_sign]; exact ⟨_, _, _, rfl⟩
        | hole h => rw [tokOf_hole]; exact ⟨_, _, _, rfl⟩
        | copy h h' => rw [tokOf_copy]; exact ⟨_, _, _, rfl⟩
        | say h h' => rw [tokOf_say]; exact ⟨_, _, _, rfl⟩
      rw [e, flushA_big]
      rfl
  unfold addTok
  split
  · rename_i l hl
    by_cases hg : goTog l (tokOf p) = true
    · rw [if_pos hg]
      have e := app_drop hl
      have okl := g.ok l (by rw [e]; simp)
      have okd : ∀ t ∈ acc.dropLast, tokV z t = true := fun t ht => g.ok t (List.dropLast_subset _ ht)
      have sz := g.size
      have ts : tsize acc = tsize acc.dropLast + sizeV l := by
        conv => lhs; rw [e]
        rw [tsize_app, tsize_one]
      have td := tsize_nn okd
      obtain ⟨j1, j2, j3, ⟨a, b, r, j4⟩, ⟨a', b', r', j5⟩⟩ := join_ok okl hp hg (by omega)
      refine ⟨fun t ht => ?_, ?_, ?_⟩
      · rcases List.mem_append.mp ht with h | h
        · exact okd t h
        · rw [List.mem_singleton.mp h]; exact j1
      · rw [places_app, places_one, j3, ← List.append_assoc, ← g.places]
        conv => rhs; rw [e]
        rw [places_app, places_one]
      · rw [flushA_app _ _ _ _ (shapes okd), j4, flushA_big]
        have f := g.flushes
        rw [e, flushA_app _ _ _ _ (shapes okd), j5, flushA_big] at f
        exact f
    · rw [if_neg hg]; exact plain
  · exact plain
/-- the flushes that a merge tells: those of the numbers from n to n + k -/
def flsFrom (f : Int → Bool) : Nat → Int → List Int
  | 0, n => if f n = true then [n] else []
  | k + 1, n => (if f n = true then [n] else []) ++ flsFrom f k (n + 1)
theorem merge_grown {z : Str} {f : Int → Bool} : ∀ (ps qs : List (List V)) (fl : List Int) (acc : List (List V)), Grown z qs fl acc → (∀ p ∈ ps, PlOk z p) → qs.length + ps.length ≤ 40 → (∀ m ∈ fl, m < (qs.length : Int)) →
    Grown z (qs ++ ps) (fl ++ flsFrom f ps.length qs.length) (mergeA f ps qs.length acc)
  | [], qs, fl, acc, g, _, _, hf => by
    unfold mergeA
    rw [List.append_nil]
    show Grown z qs (fl ++ (if f qs.length = true then [(qs.length : Int)] else [])) _
    by_cases h : f qs.length = true
    · rw [if_pos h, if_pos h]
      have := g.flush
      rwa [if_neg (fun e => by have := hf _ e; omega)] at this
    · rw [if_neg h, if_neg h, List.append_nil]; exact g
  | p :: ps, qs, fl, acc, g, hp, hs, hf => by
    unfold mergeA
    rw [List.length_cons] at hs
    have hp1 := hp p List.mem_cons_self
    have hpr : ∀ q ∈ ps, PlOk z q := fun q hq => hp q (List.mem_cons_of_mem _ hq)
    have e1 : ((qs ++ [p]).length : Int) = (qs.length : Int) + 1 := by rw [List.length_append, List.length_singleton]; omega
    have e2 : qs ++ p :: ps = (qs ++ [p]) ++ ps := by simp
    by_cases h : f qs.length = true
    · have g1 := g.flush
      rw [if_neg (fun e => by have := hf _ e; omega)] at g1
      have g2 := g1.add hp1 (by omega)
      have ih := merge_grown (f := f) ps (qs ++ [p]) (fl ++ [(qs.length : Int)]) _ g2 hpr (by rw [List.length_append, List.length_singleton]; omega) (fun m hm => by
        rcases List.mem_append.mp hm with q | q
        · have := hf m q; omega
        · rw [List.mem_singleton.mp q]; omega)
      rw [if_pos h, e2]
      rw [e1] at ih
      have e3 : fl ++ flsFrom f (p :: ps).length qs.length = fl ++ [(qs.length : Int)] ++ flsFrom f ps.length (qs.length + 1) := by
        rw [List.length_cons]
        show fl ++ ((if f qs.length = true then [(qs.length : Int)] else []) ++ _) = _
        rw [if_pos h, List.append_assoc]
      rw [e3]
      exact ih
    · have g2 := g.add hp1 (by omega)
      have ih := merge_grown (f := f) ps (qs ++ [p]) fl _ g2 hpr (by rw [List.length_append, List.length_singleton]; omega) (fun m hm => by have := hf m hm; omega)
      rw [if_neg h, e2]
      rw [e1] at ih
      have e3 : fl ++ flsFrom f (p :: ps).length qs.length = fl ++ flsFrom f ps.length (qs.length + 1) := by
        rw [List.length_cons]
        show fl ++ ((if f qs.length = true then [(qs.length : Int)] else []) ++ _) = _
        rw [if_neg h, List.nil_append]
      rw [e3]
      exact ih
theorem mergeL_grown {z : Str} {f : Int → Bool} {ps : List (List V)} (hp : ∀ p ∈ ps, PlOk z p) (hs : ps.length ≤ 40) : Grown z ps (flsFrom f ps.length 0) (mergeL f ps) := by
  have := merge_grown (z := z) (f := f) ps [] [] [] ⟨(fun t ht => nomatch ht), rfl, rfl⟩ hp (by simpa using hs) (fun m hm => nomatch hm)
  unfold mergeL; simpa using this
/-- a list that ascends is told by its own members -/
theorem flsFrom_mem {f : Int → Bool} : ∀ (k : Nat) (n : Int) (m : Int), m ∈ flsFrom f k n ↔ f m = true ∧ n ≤ m ∧ m ≤ n + k
  | 0, n, m => by
    show m ∈ (if f n = true then [n] else []) ↔ _
    by_cases h : f n = true
    · rw [if_pos h, List.mem_singleton]
      constructor
      · rintro rfl; exact ⟨h, by omega, by omega⟩
      · rintro ⟨_, h1, h2⟩; omega
    · rw [if_neg h]
      constructor
      · intro q; cases q
      · rintro ⟨q, h1, h2⟩
        have : m = n := by omega
        subst this
        exact absurd q h
  | k + 1, n, m => by
    show m ∈ (if f n = true then [n] else []) ++ flsFrom f k (n + 1) ↔ _
    rw [List.mem_append, flsFrom_mem k (n + 1) m]
    by_cases h : f n = true
    · rw [if_pos h, List.mem_singleton]
      constructor
      · rintro (rfl | ⟨q, h1, h2⟩)
        · exact ⟨h, by omega, by omega⟩
        · exact ⟨q, by omega, by omega⟩
      · rintro ⟨q, h1, h2⟩
        by_cases e : m = n
        · exact .inl e
        · exact .inr ⟨q, by omega, by omega⟩
    · rw [if_neg h]
      constructor
      · rintro (q | ⟨q, h1, h2⟩)
        · cases q
        · exact ⟨q, by omega, by omega⟩
      · rintro ⟨q, h1, h2⟩
        by_cases e : m = n
        · subst e; exact absurd q h
        · exact .inr ⟨q, by omega, by omega⟩
theorem flsFrom_asc {f : Int → Bool} : ∀ (k : Nat) (n : Int), (flsFrom f k n).Pairwise (· < ·)
  | 0, n => by
    show (if f n = true then [n] else []).Pairwise _
    split <;> simp
  | k + 1, n => by
    show ((if f n = true then [n] else []) ++ flsFrom f k (n + 1)).Pairwise _
    refine List.pairwise_append.mpr ⟨by split <;> simp, flsFrom_asc k (n + 1), fun a ha b hb => ?_⟩
    have hb := ((flsFrom_mem k (n + 1) b).mp hb).2.1
    have : a = n := by
      by_cases h : f n = true
      · rw [if_pos h] at ha; exact List.mem_singleton.mp ha
      · rw [if_neg h] at ha; cases ha
    omega
theorem asc_eq : ∀ {xs ys : List Int}, xs.Pairwise (· < ·) → ys.Pairwise (· < ·) → (∀ m, m ∈ xs ↔ m ∈ ys) → xs = ys := by
  intro xs ys hx hy h
  have nx : xs.Nodup := hx.imp fun q e => by omega
  have ny : ys.Nodup := hy.imp fun q e => by omega
  exact sorted_same ((List.perm_ext_iff_of_nodup nx ny).mpr h) (hx.imp fun q => Int.le_of_lt q) hy
theorem flsFrom_self {fl : List Int} {k : Nat} (ha : fl.Pairwise (· < ·)) (hb : ∀ m ∈ fl, 0 ≤ m ∧ m ≤ k) {f : Int → Bool} (hf : ∀ m, f m = true ↔ m ∈ fl) : flsFrom f k 0 = fl :=
  asc_eq (flsFrom_asc _ _) ha fun m => by
    rw [flsFrom_mem, hf]
    constructor
    · exact fun q => q.1
    · exact fun q => ⟨q, by have := hb m q; omega⟩
theorem mergeA_congr {f g : Int → Bool} : ∀ (ps : List (List V)) (n : Int) (acc : List (List V)), (∀ m, n ≤ m → m ≤ n + ps.length → f m = g m) → mergeA f ps n acc = mergeA g ps n acc
  | [], n, acc, h => by
    unfold mergeA
    rw [h n (by omega) (by simp)]
  | p :: ps, n, acc, h => by
    unfold mergeA
    rw [h n (by omega) (by simp; omega), mergeA_congr ps (n + 1) _ fun m h1 h2 => h m (by omega) (by rw [List.length_cons]; omega)]
theorem flushA_asc {z : Str} : ∀ (ts : List (List V)) (n : Int) (acc : List Int), (∀ t ∈ ts, tokV z t = true) → Asc acc n → Asc (flushA ts n acc) (n + tsize ts)
  | [], n, acc, _, h => by rw [tsize_nil, Int.add_zero]; exact h
  | t :: ts, n, acc, ok, h => by
    have hr : ∀ u ∈ ts, tokV z u = true := fun u hu => ok u (List.mem_cons_of_mem _ hu)
    have hs := (size_nn (ok t List.mem_cons_self)).1
    rw [tsize_cons]
    obtain ⟨k, ⟨rfl, h0⟩ | ⟨a, b, r, rfl⟩⟩ := shapes ok t List.mem_cons_self
    · rw [flushA_flush, h0, Int.zero_add]
      exact flushA_asc ts n _ hr h.put
    · rw [flushA_big, ← Int.add_assoc]
      exact flushA_asc ts _ _ hr (h.mono (by omega))
end KW
namespace KW
open PySem L2
theorem asc_len : ∀ (xs : List Int) (lo : Int) (n : Nat), xs.Pairwise (· < ·) → (∀ m ∈ xs, lo ≤ m ∧ m < lo + n) → xs.length ≤ n
  | [], _, _, _, _ => Nat.zero_le _
  | x :: xs, lo, n, hp, hb => by
    rw [List.pairwise_cons] at hp
    have hx := hb x List.mem_cons_self
    have hn : 0 < n := by omega
    have := asc_len xs (lo + 1) (n - 1) hp.2 fun m hm => by
      have h1 := hp.1 m hm
      have h2 := hb m (List.mem_cons_of_mem _ hm)
      omega
    rw [List.length_cons]
    omega
theorem flushA_few {z : Str} {ts : List (List V)} (h : ∀ t ∈ ts, tokV z t = true) (hs : tsize ts ≤ 60) : (flushA ts 0 []).length ≤ 61 :=
  asc_len _ 0 61 (flushA_asc ts 0 [] h (Asc.nil (n := 0))).1 fun m hm => by
    have := flushA_in ts z 0 [] h (by decide) (fun _ h => nomatch h) m hm
    omega
end KW

/-! Dict comprehensions as statements; own operators beside an int; membership in dicts of flushes. -/
namespace KW
open PySem PySem.Spec PyProof.Rows L2
section
variable {X : Cx}
/-- name = {..} on one line, the name a local -/
theorem ps_setDc {i : Nat} {y : Str} {py : Pos} {kx vx tg iter : Expr} {ifs : List Expr} {scope : Scope} {own : List (Str × Nat)} {pos spos : Pos} {wi : TI} {g : TG} {tt : TT} {tk tv : TE} (hc : X.calm = true) (hN : X.N.Nodup) (hy : X.N[i]? = some y) (hyl : X.env.scope.names.lookup y = some .local)
    (hsw : swapsWith (.DictComp kx vx [⟨tg, iter, ifs, 0⟩] scope pos) (some (.Name y py)) spos.line X.env = pure true) (hi : PI X tg iter wi) (ok : BlkOk X.N X.env.scope scope own)
    (hg : ∀ (s : Shared) (H : Hp) (C : Addr) (cl : List (Str × Addr)) (fp : List Addr), PG (X.blk s H scope (compEnvC scope cl C X.env) fp) tg g) (ht : ∀ (s : Shared) (H : Hp) (C : Addr) (cl : List (Str × Addr)) (fp : List Addr), PTs (X.blk s H scope (compEnvC scope cl C X.env) fp) ifs tt)
    (hk : ∀ (s : Shared) (H : Hp) (C : Addr) (cl : List (Str × Addr)) (fp : List Addr), PE (X.blk s H scope (compEnvC scope cl C X.env) fp) kx tk)
    (he : ∀ (s : Shared) (H : Hp) (C : Addr) (cl : List (Str × Addr)) (fp : List Addr), PE (X.blk s H scope (compEnvC scope cl C X.env) fp) vx tv) (hs : ∀ x, foldedSetIterable iter X.env x = pure x := by intro _; rfl) :
    PS X (.Assign [.Name y py] (.DictComp kx vx [⟨tg, iter, ifs, 0⟩] scope pos) spos) (tAsg (tDc wi g tt tk tv (own.map (·.2))) (gName i)) := by
  refine ⟨fun pins s σ H D I h => ?_⟩
  rw [exec_Assign_Name_used _ _ _ _ hsw]
  refine wpAny_bind (wpAny_standAt (wpAny_bind ?_))
  show wpAny _ X.A (do let _ ← comprehension (.DictComp kx vx [⟨tg, iter, ifs, 0⟩] scope pos) scope X.env (firstIterPos [⟨tg, iter, ifs, 0⟩] pos) newDict false (eval iter X.env) (some (assign (.Name y py) X.env))) _ _ s
  have h : tDc wi g tt tk tv (own.map (·.2)) σ H (fun x H1 => gName i x σ H1 D.nx) := h
  refine wpAny_bind (thn (dc_core (Qf := fun _ s' => SP X pins D .next s') hc hN I hi ok hg ht hk he hs h fun L C s' m H' I' q hn f => ?_) fun _ s' hq => wpAny_pure (wpAny_pure hq))
  show wpAny _ _ (assign (.Name y py) X.env (.ref L)) _ _ _
  refine wpAny_assign_Name (store_ok2 (v := V.ref L) I' hN hy (.inl hyl) rfl (fun s2 I2 ⟨a, sb, ha⟩ => ?_) (.inr hyl))
  obtain ⟨f0, f1, f2, f3, f4, f5⟩ := f
  have haC : C ≠ a := by
    rcases ha with z | z
    · rw [z]; exact f1
    · exact fun e => f4 y a z e.symm
  refine ⟨m, hn.sameBut sb haC, fun h3 sb3 => ?_⟩
  exact ⟨_, H', I2.turned (t' := s2.toks) (fun b o hb e => (sb3.2 b hb).trans e) f0 f1 f3 f4 f5, q⟩
theorem sw_trueD {kx vx : Expr} {gs : List Comprehension} {scope : Scope} {pos py : Pos} {y : Str} {l : Nat} {env : Env} (hk : env.scope.kind = .function) (hy : env.scope.names.lookup y = some .local) (hl : (py.line == pos.line) = true)
    (ha : (scope.names.any fun (n, k) => n == y && (k == .local || k == .cell)) = false) : swapsWith (.DictComp kx vx gs scope pos) (some (.Name y py)) l env = pure true := by
  have ky : env.kindOf y = some .local := hy
  have hb : env.blockKind = .function := by unfold Env.blockKind; rw [hk]; rfl
  unfold swapsWith
  simp only [hb, ky, ha, Expr.pos, hl]
  rfl
end
section
variable {J : It} {n : Nat} {G : Hp → Prop} {Y : Nat → Hp → V → Hp → Prop}
/-- a dict comprehension over a walk -/
theorem dc_it (w : Walk J n G Y) {g : TG} {tt : TT} {tk tv : TE} {vs : List Nat} {σ : L2.St} {H1 : Hp} {D : Addr} {Qd : Hp → Prop} (Pv : Nat → Hp → Prop) (h0 : Pv 0 (upd H1 D (.dK []))) (hG : ∀ i H, i ≤ n → Pv i H → G H)
    (hs : ∀ i x H H', i < n → Pv i H → Y i H x H' → g x (wipe σ vs) H' fun σ2 H2 => wipe σ2 vs = wipe σ vs ∧ tt σ2 H2 fun b H3 =>
      if b = true then tk σ2 H3 fun y H4 => tv σ2 H4 fun z H5 => ∃ kvs k, y = kV k ∧ H5 D = some (.dK kvs) ∧ kvs.length < sizeLine ∧ Pv (i + 1) (upd H5 D (.dK (putK kvs k z))) else Pv (i + 1) H3) (hd : ∀ H, Pv n H → Qd H) :
    ∃ W : Nat → Nat → Hp → Prop, (∃ m, W 0 m (upd H1 D (.dK []))) ∧ ∀ i m H, W i m H →
      (J.stop i H ∧ Qd H) ∨ (J.go i H ∧ ∃ Nx : Hp → Prop, (∀ H', Nx H' → ∃ m', m' < m ∧ W (i + 1) m' H') ∧ ∀ x H', J.yld i H x H' → g x (wipe σ vs) H' fun σ2 H2 => wipe σ2 vs = wipe σ vs ∧ tt σ2 H2 fun b H3 =>
        if b = true then tk σ2 H3 fun y H4 => tv σ2 H4 fun z H5 => ∃ kvs k, y = kV k ∧ H5 D = some (.dK kvs) ∧ kvs.length < sizeLine ∧ Nx (upd H5 D (.dK (putK kvs k z))) else Nx H3) := by
  refine ⟨fun i m H => m = n - i ∧ i ≤ n ∧ Pv i H, ⟨n, by simp, Nat.zero_le _, h0⟩, ?_⟩
  rintro i m H ⟨rfl, hi, p⟩
  have q := hG i H hi p
  by_cases hlt : i < n
  · refine .inr ⟨w.goes i H hlt q, Pv (i + 1), fun H' p' => ⟨n - (i + 1), by omega, rfl, hlt, p'⟩, fun x H' y => hs i x H H' hlt p (w.yields i H x H' hlt q y)⟩
  · have e : i = n := by omega
    subst e
    exact .inl ⟨w.stops H q, hd H p⟩
end
/-- x op n by x's own def, n an int -/
structure OwnOp (K : PySem.W.Frag) (C f : Addr) (nm : String) : Prop where
  first : PySem.W.selfFirst K C = true
  at_ : PySem.W.findIn K (.ref C) (PySem.dunder nm) = some (some (.ref f))
  fn : PySem.W.isFn K (.ref f) = true
  back : ∃ rc : Option Value, PySem.W.findIn K (.ref C) (dunderR nm) = some rc ∧ (rc = none ∨ ∃ g : Addr, rc = some (.ref g))
  int1 : ∃ fo, PySem.W.findIn K (.type "int") (PySem.dunder nm) = some fo
  int2 : ∃ ro, PySem.W.findIn K (.type "int") (dunderR nm) = some ro
  sub : PySem.W.subIn K (.type "int") (.ref C) = some false
def isNI : Value → Bool
  | .notImplemented => true
  | _ => false
theorem relV_notNI {v : V} {u : Value} (r : RelV v u) : isNI u = false := by
  cases v with
  | ty T => cases r; rfl
  | _ => first | (cases r; rfl) | (obtain ⟨t, rfl⟩ := r; rfl)
section
variable {X : Cx} {k : Nat} {f C : Addr} {fd : FuncData} {ps : List Str} {sp : Sp} {E : XK} {nm : String} {op : Operator}
theorem op_binOwn (F : FnG X.prog X.w X.K X.mg X.base k f fd ps sp) (hr : RoomG (k + 1) X.A) (hop : op.info.2 = nm) (o : OwnOp X.K C f nm) (hb : Binds X.K fd ps []) (hx : Passes CX0 X E) :
    OpR X (binaryOp op) (fun x y H Q => ∃ a dx fs n, x = .ref a ∧ y = .int n ∧ H a = some (.ins C dx fs) ∧ sp [.ref a, .int n] H Q E) := by
  intro pins s σ H x y v u Q I rx ry h
  obtain ⟨a, dx, fs, n, rfl, rfl, ha, h⟩ := h
  obtain rfl : v = Value.ref a := rx
  obtain ⟨t, rfl⟩ := ry
  obtain ⟨mA, J, _⟩ := ins_get I.hok ha
  obtain ⟨od, J, _⟩ := J.look
  obtain ⟨m, hF⟩ := I.fr
  obtain ⟨rc, hrc, hp⟩ := o.back
  obtain ⟨fo, h1⟩ := o.int1
  obtain ⟨ro, h2⟩ := o.int2
  subst hop
  refine PySem.W.ksp_binT hF I.ok.mod.kin J (T := "int") rfl o.first o.at_ o.fn hrc hp h1 h2 o.sub ?_
  refine wpAny_mono (run_below F (A' := X.A) rfl (hr.mono (Nat.le_succ _)) hb hx I (xs := [.ref a, .int n]) (.cons rfl (.cons ⟨_, rfl⟩ .nil)) h) (fun v s' q => ?_) fun _ _ z => z
  obtain ⟨y, H', I', ry, q⟩ := q
  have no := relV_notNI ry
  cases v <;> first | exact ⟨y, H', I', ry, q⟩ | (exfalso; revert no; simp [isNI])
end
end KW
namespace KW
open PySem L2
theorem gCons_go {t : TG} {u : TGs} {v : V} {r : List V} {σ : L2.St} {H : Hp} {Q : L2.St → Hp → Prop} (h : t v σ H fun σ' H' => u r σ' H' Q) : gCons t u (v :: r) σ H Q := ⟨v, r, rfl, h⟩
theorem gName_go {i : Nat} {v : V} {σ : L2.St} {H : Hp} {Q : L2.St → Hp → Prop} (h : Q (σ.set i (some v)) H) : gName i v σ H Q := h
theorem gNil_go {σ : L2.St} {H : Hp} {Q : L2.St → Hp → Prop} (h : Q σ H) : gNil [] σ H Q := ⟨rfl, h⟩
theorem gTup_go {K : PySem.W.Frag} {n : Nat} {t : TGs} {a : Addr} {xs : List V} {σ : L2.St} {H : Hp} {Q : L2.St → Hp → Prop} (ha : SqT K H a xs) (hl : xs.length = n) (h : t xs σ H Q) : gTup K n t (.ref a) σ H Q := ⟨a, xs, rfl, ha, hl, h⟩
end KW
namespace KW
open PySem L2
theorem has_keys (acc : List Int) (n : Int) : (valV (keysV acc) (Sum.inl n : Key)).isSome = decide (n ∈ acc) := by
  unfold valV
  rw [Option.isSome_map]
  induction acc with
  | nil => rfl
  | cons a acc ih =>
    show (List.find? _ ((Sum.inl a, V.bl true) :: keysV acc)).isSome = _
    rw [List.find?_cons]
    by_cases e : a = n
    · subst e
      have h : decide ((Sum.inl a : Key) = Sum.inl a) = true := decide_eq_true rfl
      simp only [h]
      simp
    · have h : decide ((Sum.inl a : Key) = Sum.inl n) = false := decide_eq_false fun q => e (Sum.inl.inj q)
      have e' : ¬ n = a := fun q => e q.symm
      simp only [h, ih]
      simp [e']
theorem ix_last {α : Type} {us : List α} {v : α} : ixN (us ++ [v]).length (-1) = some us.length := by
  unfold ixN
  rw [List.length_append, List.length_singleton, if_neg (by decide)]
  rw [if_pos (by omega)]
  congr 1
  omega
theorem at_last {α : Type} {us : List α} {v : α} : atI (us ++ [v]) (-1) = some v := by
  unfold atI
  rw [ix_last]
  simp
theorem set_last {α : Type} {us : List α} {v w : α} : (us ++ [v]).set us.length w = us ++ [w] := by simp
theorem paired_snoc {α β : Type} {F : α → β → Prop} {us : List α} {v : α} {m : List β} (h : Paired F (us ++ [v]) m) : ∃ ms y, m = ms ++ [y] ∧ Paired F us ms ∧ F v y := by
  induction us generalizing m with
  | nil =>
    cases h with
    | cons r t => cases t; exact ⟨[], _, rfl, .nil, r⟩
  | cons u us ih =>
    cases h with
    | cons r t =>
      obtain ⟨ms, y, rfl, h1, h2⟩ := ih t
      exact ⟨_ :: ms, y, rfl, .cons r h1, h2⟩
theorem snoc_of {α : Type} {xs : List α} (h : xs ≠ []) : ∃ us v, xs = us ++ [v] := ⟨xs.dropLast, xs.getLast h, (List.dropLast_concat_getLast h).symm⟩
theorem addTok_nil {t : List V} : addTok [] t = [t] := rfl
theorem addTok_snoc {ts : List (List V)} {l t : List V} : addTok (ts ++ [l]) t = if goTog l t = true then ts ++ [joinT l t] else ts ++ [l] ++ [t] := by
  unfold addTok
  simp
theorem drop_get {α : Type} {l : List α} {i : Nat} {a : α} (h : l[i]? = some a) : l.drop i = a :: l.drop (i + 1) := by
  obtain ⟨h1, h2⟩ := List.getElem?_eq_some_iff.mp h
  rw [List.drop_eq_getElem_cons h1, h2]
theorem Grown.len {z : Str} {ps : List (List V)} {fl : List Int} {acc : List (List V)} (g : Grown z ps fl acc) : acc.length ≤ ps.length + fl.length + acc.length := by omega
end KW
namespace KW
open PySem L2
theorem addTok_len (acc : List (List V)) (t : List V) : (addTok acc t).length ≤ acc.length + 1 := by
  unfold addTok
  split
  · split
    · rw [List.length_append, List.length_dropLast, List.length_singleton]; omega
    · rw [List.length_append, List.length_singleton]; omega
  · rw [List.length_append, List.length_singleton]; omega
theorem mergeA_len {f : Int → Bool} : ∀ (ps : List (List V)) (n : Int) (acc : List (List V)), (mergeA f ps n acc).length ≤ acc.length + 2 * ps.length + 1
  | [], n, acc => by
    unfold mergeA
    split
    · rw [List.length_append, List.length_singleton]; simp only [List.length_nil]; omega
    · omega
  | p :: ps, n, acc => by
    unfold mergeA
    have h := mergeA_len (f := f) ps (n + 1) (addTok (if f n = true then acc ++ [flT] else acc) (tokOf p))
    have h2 := addTok_len (if f n = true then acc ++ [flT] else acc) (tokOf p)
    have h3 : (if f n = true then acc ++ [flT] else acc).length ≤ acc.length + 1 := by
      split
      · rw [List.length_append, List.length_singleton]; omega
      · omega
    rw [List.length_cons]
    omega
/-- the tokens of the merged piece -/
def mergedT (ts : List (List V)) : List (List V) := mergeL (fun n => decide (n ∈ flushA ts 0 [])) (placesL ts)
theorem mergedT_len (ts : List (List V)) : (mergedT ts).length ≤ 2 * (placesL ts).length + 1 := by
  have := mergeA_len (f := fun n => decide (n ∈ flushA ts 0 [])) (placesL ts) 0 []
  unfold mergedT mergeL
  simpa using this
theorem merged_grown {z : Str} {ts : List (List V)} (h : ∀ t ∈ ts, tokV z t = true) (hs : tsize ts ≤ 40) : Grown z (placesL ts) (flushA ts 0 []) (mergedT ts) := by
  have hl := places_len h
  have g := mergeL_grown (f := fun n => decide (n ∈ flushA ts 0 [])) (plOk_of h) (by omega)
  have e : flsFrom (fun n => decide (n ∈ flushA ts 0 [])) (placesL ts).length 0 = flushA ts 0 [] := by
    refine flsFrom_self ?_ ?_ (fun m => decide_eq_true_iff)
    · exact (flushA_asc ts 0 [] h (Asc.nil (n := 0))).1
    · intro m hm
      have := flushA_in ts z 0 [] h (by decide) (fun _ h => nomatch h) m hm
      omega
  rw [e] at g
  exact g
theorem mergedT_size {z : Str} {ts : List (List V)} (h : ∀ t ∈ ts, tokV z t = true) (hs : tsize ts ≤ 40) : tsize (mergedT ts) = tsize ts := by
  have g := merged_grown h hs
  rw [g.size, places_len h]
theorem mergedT_twice {z : Str} {ts : List (List V)} (h : ∀ t ∈ ts, tokV z t = true) (hs : tsize ts ≤ 40) : mergedT (mergedT ts) = mergedT ts := by
  have g := merged_grown h hs
  show mergeL (fun n => decide (n ∈ flushA (mergedT ts) 0 [])) (placesL (mergedT ts)) = _
  rw [g.places, g.flushes]
  rfl

/-! ### roots -/
/-- the root of the sign so far back -/
def rootBack (acc : List (List V)) : V → List V
  | .int d => if d ≤ (acc.length : Int) then acc.getD (acc.length - d.toNat) [] else [.str "slot", .int (d - acc.length)]
  | _ => []
/-- roots through copies and says (ways 2), or copies alone (ways 1) -/
def rootsA (all : Bool) : List (List V) → Int → List (List V) → List (List V)
  | [.str k, v] :: ps, many, acc =>
    if k = "copy" ∨ (all = true ∧ k = "say") then rootsA all ps many (acc ++ [rootBack acc v])
    else rootsA all ps (if k = "hole" then many + 1 else many) (acc ++ [if all = true then (if k = "sign" then [.str "sign", v] else [.str "hole", .int many]) else [.str "place", .int acc.length]])
  | _, _, acc => acc
def rootsL (all : Bool) (ps : List (List V)) : List (List V) := rootsA all ps 0 []
theorem rootsA_copy {all : Bool} {v : V} {ps : List (List V)} {many : Int} {acc : List (List V)} : rootsA all ([.str "copy", v] :: ps) many acc = rootsA all ps many (acc ++ [rootBack acc v]) := by
  rw [rootsA, if_pos (.inl rfl)]
theorem rootsA_say {v : V} {ps : List (List V)} {many : Int} {acc : List (List V)} : rootsA true ([.str "say", v] :: ps) many acc = rootsA true ps many (acc ++ [rootBack acc v]) := by
  rw [rootsA, if_pos (.inr ⟨rfl, rfl⟩)]
theorem rootsA_sayP {v : V} {ps : List (List V)} {many : Int} {acc : List (List V)} : rootsA false ([.str "say", v] :: ps) many acc = rootsA false ps many (acc ++ [[.str "place", .int acc.length]]) := by
  rw [rootsA, if_neg (by decide +kernel), if_neg (show ¬ ("say" : Str) = "hole" by decide +kernel), if_neg (by decide)]
theorem rootsA_sign {v : V} {ps : List (List V)} {many : Int} {acc : List (List V)} : rootsA true ([.str "sign", v] :: ps) many acc = rootsA true ps many (acc ++ [[.str "sign", v]]) := by
  rw [rootsA, if_neg (by decide +kernel), if_neg (show ¬ ("sign" : Str) = "hole" by decide +kernel), if_pos rfl, if_pos rfl]
theorem rootsA_signP {v : V} {ps : List (List V)} {many : Int} {acc : List (List V)} : rootsA false ([.str "sign", v] :: ps) many acc = rootsA false ps many (acc ++ [[.str "place", .int acc.length]]) := by
  rw [rootsA, if_neg (by decide +kernel), if_neg (show ¬ ("sign" : Str) = "hole" by decide +kernel), if_neg (by decide)]
theorem rootsA_hole {v : V} {ps : List (List V)} {many : Int} {acc : List (List V)} : rootsA true ([.str "hole", v] :: ps) many acc = rootsA true ps (many + 1) (acc ++ [[.str "hole", .int many]]) := by
  rw [rootsA, if_neg (by decide +kernel), if_pos rfl, if_pos rfl, if_neg (show ¬ ("hole" : Str) = "sign" by decide +kernel)]
theorem rootsA_holeP {v : V} {ps : List (List V)} {many : Int} {acc : List (List V)} : rootsA false ([.str "hole", v] :: ps) many acc = rootsA false ps (many + 1) (acc ++ [[.str "place", .int acc.length]]) := by
  rw [rootsA, if_neg (by decide +kernel), if_pos rfl, if_neg (by decide)]
/-- a root's form: two flat parts, plain data -/
def RootOk (r : List V) : Prop := r.all flatV = true ∧ Pl 1 82 (tokD r)
end KW
namespace KW
open PySem L2
theorem aug0 {a b : Str} (n : a ≠ b) (m : Int) : m + (if decide (V.str a = V.str b) = true then 1 else 0) = m := by
  rw [decide_eq_false fun e => n (V.str.inj e)]
  simp
theorem aug1 {a : Str} (m : Int) : m + (if decide (V.str a = V.str a) = true then 1 else 0) = m + 1 := by
  rw [decide_eq_true rfl]
  simp
/-- the item so far back, and its root -/
theorem back_at {K : PySem.W.Frag} {H : Hp} {rvs : List V} {rs : List (List V)} {d : Int} (h : Plcs K H rvs rs) (h0 : 1 ≤ d) (h1 : d ≤ (rs.length : Int)) : ∃ v, atI rvs ((rs.length : Int) - d) = some v ∧ TupAt K H v (rootBack rs (.int d)) := by
  have hlen := paired_len h
  have hj : rvs.length - d.toNat < rvs.length := by omega
  obtain ⟨w, hw⟩ : ∃ w, rvs[rvs.length - d.toNat]? = some w := ⟨_, List.getElem?_eq_getElem hj⟩
  obtain ⟨r, hr2, ht⟩ := paired_get h hw
  refine ⟨w, ?_, ?_⟩
  · unfold atI ixN
    rw [if_pos (by omega), if_pos (by omega)]
    rw [show ((rs.length : Int) - d).toNat = rvs.length - d.toNat by omega]
    exact hw
  · have e2 : rootBack rs (.int d) = r := by
      show (if d ≤ (rs.length : Int) then _ else _) = r
      rw [if_pos h1, List.getD_eq_getElem?_getD, ← hlen, hr2]
      rfl
    rw [e2]
    exact ht
theorem back_slot {rs : List (List V)} {d : Int} (h1 : ¬ d ≤ (rs.length : Int)) : rootBack rs (.int d) = [.str "slot", .int (d - rs.length)] := by
  show (if d ≤ (rs.length : Int) then _ else _) = _
  rw [if_neg h1]
end KW
namespace KW
open PySem L2
theorem Same.put' {H0 H : Hp} {t : Addr} {o : HO} (s : Same H0 H) (hn : H0 t = none) : Same H0 (upd H t o) := fun a u h => upd_get (none_ne hn h) (s a u h)
theorem slot_ok {d : Int} (h0 : 0 ≤ d) (h1 : d ≤ 1000) : RootOk [.str "slot", .int d] :=
  ⟨rfl, ((PlAll.cons (Pl.str (w := 40) (by decide +kernel) (by decide +kernel)) (.cons ((Pl.int h0 (by omega)).mono (Nat.le_refl _) (by decide)) .nil)).tuple).mono (Nat.le_refl _) (Nat.le_of_ble_eq_true rfl)⟩
theorem num_ok {k : Str} (hk : k = "hole" ∨ k = "place") {d : Int} (h0 : 0 ≤ d) (h1 : d ≤ 1000) : RootOk [.str k, .int d] := by
  have hs : PyData.strOk k = true ∧ k.length ≤ 40 := by rcases hk with rfl | rfl <;> exact ⟨by decide +kernel, by decide +kernel⟩
  exact ⟨rfl, ((PlAll.cons (Pl.str (w := 40) hs.1 hs.2) (.cons ((Pl.int h0 (by omega)).mono (Nat.le_refl _) (by decide)) .nil)).tuple).mono (Nat.le_refl _) (Nat.le_of_ble_eq_true rfl)⟩
theorem sign_ok {z : Str} {c : Nat} (hz : SignsOk z) (hc : c ∈ cl z) : RootOk [.str "sign", .str (sg c)] := by
  have cz := cln_iff.mp (clean_signs hz)
  refine ⟨rfl, ((PlAll.cons (Pl.str (w := 40) (by decide +kernel) (by decide +kernel)) (.cons (Pl.str (y := sg c) (w := 40) (cln_iff.mpr fun d hd => ?_) (show 1 ≤ 40 by decide)) .nil)).tuple).mono (Nat.le_refl _) (Nat.le_of_ble_eq_true rfl)⟩
  rw [List.mem_singleton.mp (show d ∈ [c] from hd)]
  exact cz c hc
theorem back_ok {acc : List (List V)} {d : Int} (ha : ∀ r ∈ acc, RootOk r) (h0 : 1 ≤ d) (h1 : d ≤ 12) : RootOk (rootBack acc (.int d)) := by
  show RootOk (if d ≤ (acc.length : Int) then _ else _)
  by_cases h : d ≤ (acc.length : Int)
  · rw [if_pos h]
    have hj : acc.length - d.toNat < acc.length := by omega
    rw [List.getD_eq_getElem?_getD, List.getElem?_eq_getElem hj]
    exact ha _ (List.getElem_mem hj)
  · rw [if_neg h]
    exact slot_ok (by omega) (by omega)
theorem rootsA_ok {z : Str} {all : Bool} (hz : SignsOk z) : ∀ (ps : List (List V)) (many : Int) (acc : List (List V)), (∀ p ∈ ps, PlOk z p) → (∀ r ∈ acc, RootOk r) → acc.length + ps.length ≤ 40 → 0 ≤ many → many ≤ acc.length →
    (∀ r ∈ rootsA all ps many acc, RootOk r) ∧ (rootsA all ps many acc).length = acc.length + ps.length
  | [], many, acc, _, ha, _, _, _ => by
    cases all <;> exact ⟨ha, rfl⟩
  | p :: ps, many, acc, hp, ha, hs, m0, m1 => by
    have hr : ∀ q ∈ ps, PlOk z q := fun q hq => hp q (List.mem_cons_of_mem _ hq)
    rw [List.length_cons] at hs ⊢
    have step : ∀ (r : List V) (m : Int), RootOk r → 0 ≤ m → m ≤ acc.length + 1 → (∀ r' ∈ rootsA all ps m (acc ++ [r]), RootOk r') ∧ (rootsA all ps m (acc ++ [r])).length = acc.length + (ps.length + 1) := fun r m h h0 h1 => by
      have ih := rootsA_ok (all := all) hz ps m (acc ++ [r]) hr (fun r' hr' => by
        rcases List.mem_append.mp hr' with q | q
        · exact ha r' q
        · rw [List.mem_singleton.mp q]; exact h) (by rw [List.length_append, List.length_singleton]; omega) h0 (by rw [List.length_append, List.length_singleton]; omega)
      refine ⟨ih.1, ?_⟩
      rw [ih.2, List.length_append, List.length_singleton]
      omega
    have po := hp p List.mem_cons_self
    cases all with
    | true =>
      cases po with
      | sign hc => rw [rootsA_sign]; exact step _ _ (sign_ok hz hc) m0 (by omega)
      | hole hc => rw [rootsA_hole]; exact step _ _ (num_ok (.inl rfl) m0 (by omega)) (by omega) (by omega)
      | copy h1 h2 => rw [rootsA_copy]; exact step _ _ (back_ok ha h1 h2) m0 (by omega)
      | say h1 h2 => rw [rootsA_say]; exact step _ _ (back_ok ha h1 h2) m0 (by omega)
    | false =>
      cases po with
      | sign hc => rw [rootsA_signP]; exact step _ _ (num_ok (.inr rfl) (by omega) (by omega)) m0 (by omega)
      | hole hc => rw [rootsA_holeP]; exact step _ _ (num_ok (.inr rfl) (by omega) (by omega)) (by omega) (by omega)
      | copy h1 h2 => rw [rootsA_copy]; exact step _ _ (back_ok ha h1 h2) m0 (by omega)
      | say h1 h2 => rw [rootsA_sayP]; exact step _ _ (num_ok (.inr rfl) (by omega) (by omega)) m0 (by omega)
theorem rootsL_ok {z : Str} {all : Bool} {ts : List (List V)} (hz : SignsOk z) (h : ∀ t ∈ ts, tokV z t = true) (hs : tsize ts ≤ 40) : (∀ r ∈ rootsL all (placesL ts), RootOk r) ∧ (rootsL all (placesL ts)).length = (placesL ts).length := by
  have hl := places_len h
  have := rootsA_ok (all := all) hz (placesL ts) 0 [] (plOk_of h) (fun r h => nomatch h) (by simp; omega) (by decide) (by decide)
  unfold rootsL
  simpa using this
/-- roots in the heap, as data -/
theorem roots_dp {K : PySem.W.Frag} {H : Hp} {l : Addr} {rvs : List V} {rs : List (List V)} (hl : H l = some (.lst rvs)) (h : Plcs K H rvs rs) (ok : ∀ r ∈ rs, RootOk r) : Dp K H (.ref l) (.list (rs.map tokD)) :=
  .lst (SqL.of hl) (h.dps fun p hp => (ok p hp).1)
theorem roots_pl {rs : List (List V)} (ok : ∀ r ∈ rs, RootOk r) (hn : rs.length ≤ 40) : Pl 2 3320 (.list (rs.map tokD)) := by
  have a : PlAll 1 82 (rs.map tokD) := .of fun d hd => by
    obtain ⟨r, hr, rfl⟩ := List.mem_map.mp hd
    exact (ok r hr).2
  refine a.list.mono (Nat.le_refl _) ?_
  rw [List.length_map]
  omega
theorem Pl.pair {n w : Nat} {a b : PyData} (ha : Pl n w a) (hb : Pl n w b) : Pl (n + 1) (2 * (w + 1)) (.list [a, b]) := (PlAll.cons ha (.cons hb .nil)).list
end KW

/-! Static methods, called off their class. -/
namespace KW
open PySem PySem.Spec PyProof.Rows L2
/-- C.m is a static method: its record at p, its def at g -/
structure SMet (K : PySem.W.Frag) (C : Addr) (mc : Value) (m : Str) (p g : Addr) : Prop where
  at_ : PySem.W.findCls K (.ref C) mc m = some (.get (.builtin "staticmethod.__get__") (.ref p) .none (.ref C))
  rc : ∃ rest, PySem.W.recIn K p "staticmethod" = some (.ref g :: rest)
def tSMeth (C : Addr) (sp : Sp) (E : XK) (ta : TE) (t : TA) : TE := fun σ H Q => ta σ H fun x H1 => x = .ref C ∧ t σ H1 fun vs H2 => sp vs H2 Q E
section
variable {X : Cx} {k : Nat} {C p g : Addr} {mc : Value} {m : Str} {fd : FuncData} {ps : List Str} {sp : Sp} {E : XK} {o e : Expr} {es : List Expr} {ta : TE} {t : TA} {apos pos : Pos} {pl : Sem Bool}
theorem pe_smeth (he : PE X o ta) (r : ClX.CRead X.K C mc) (c : SMet X.K C mc m p g) (kp : PySem.W.keepIn X.K (.ref g) = true) (F : FnOk X.prog X.w X.K X.mg X.base CX0 k g fd ps sp) (hr : Room k X.A) (hb : Binds X.K fd ps []) (hx : Passes CX0 X E) (ha : PA X (e :: es) t)
    (hst : starEach (e :: es) X.env = (false, eval e X.env) :: starEach es X.env := by rfl) (hpl : (backTo pos (starEach es X.env)).any (·.1) = false := by rfl)
    (ht : eval (.Call (.Attribute o m apos) (e :: es) [] pos) X.env = (do
      let ov ← eval o X.env
      standAt apos.atName
      let (f, first) ← holding [ov] (getMethod ov m pl)
      callWith pos f first (backTo pos (starEach (e :: es) X.env)) (backToKw pos (keywordEach [] X.env))) := by rfl) :
    PE X (.Call (.Attribute o m apos) (e :: es) [] pos) (tSMeth C sp E ta t) := by
  refine ⟨fun pins s σ H Q I h => ?_⟩
  refine PySem.W.methodCall_KW (pl := pl) (thn (he.run pins s σ H _ I h) fun u s1 ⟨x, H1, I1, rx, ex, q⟩ => ?_) ht
  subst ex
  obtain rfl : u = Value.ref C := rx
  obtain ⟨rest, hp⟩ := c.rc
  refine PySem.W.method_cls I1.kIn r.ga (PySem.W.cls_bind I1.kIn r.rd c.at_ (wpAny_call (PySem.W.sm_get (s := { s1 with toks := s1.toks + 1 }) I1.kIn hp (PySem.W.handed_on rfl ?_))))
  have I2 := I1.tok (s1.toks + 1)
  refine PySem.W.callWith_K (h₀ := X.base) I2.ok.mod.kin kp (thn (ha.run pos pins _ σ H1 _ I2 q) fun us s3 ⟨vs, H2, I3, rv, q2⟩ => ⟨I3.kIn, ?_⟩) hst hpl
  exact run_fn (ds := []) F hr hb .nil hx I3 rv (by simpa using q2)
end
end KW
namespace KW
open PySem L2
theorem nI {i j : Int} (h : i ≠ j) : decide (V.int i = V.int j) = false := decide_eq_false fun e => h (V.int.inj e)
theorem yI {i j : Int} (h : i = j) : decide (V.int i = V.int j) = true := decide_eq_true (by rw [h])
theorem choice_len {z y : Str} (h : choiceB z y = true) : y.length ≤ z.length ∧ 1 ≤ y.length := by
  unfold choiceB at h
  simp only [Bool.and_eq_true, decide_eq_true_eq] at h
  exact ⟨h.1.1.2, h.1.1.1⟩
end KW

/-! != of two instances of one class; lists put in another order. -/
namespace KW
open PySem PySem.Spec PyProof.Rows L2
section
variable {prog : Program} {w : World} {A : Around} {E : Value → Shared → Prop} {s : Shared} {K : PySem.W.Frag} {C f x y : Addr} {ox od oy od' : Obj}
theorem rich_neS {Q : Value → Shared → Prop} (hu : A.units + 1 < cLine) (X : K.In s.heap) (I : PySem.W.InstAt s.heap x ox C od) (J : PySem.W.InstAt s.heap y oy C od') (mro : PySem.W.mroIn K C (.type "object") = some true)
    (ne_ : PySem.W.findIn K (.ref C) "__ne__" = some (some (.builtin "object.__ne__"))) (at_ : PySem.W.findIn K (.ref C) "__eq__" = some (some (.ref f))) (fn : PySem.W.isFn K (.ref f) = true)
    (called : wpAny (model prog w) A.in1 (call (.ref f) [.ref x, .ref y]) (fun v s' => ∃ b, v = .bool b ∧ Q (.bool (!b)) s') E s) : wpAny (model prog w) A (richCompare .NotEq (.ref x) (.ref y)) Q E s := by
  have one : wpAny (model prog w) A (tryCompare (.ref x) "__ne__" (.ref y)) (fun r s' => ∃ v, r = some v ∧ Q v s') E s :=
    try_ne hu X I mro ne_ at_ fn (wpAny_mono called (fun v s' z => by
      obtain ⟨b, rfl, q⟩ := z
      exact ⟨b, rfl, _, rfl, q⟩) fun _ _ z => z)
  simp only [richCompare, cmpInfo_NotEq, oneThing_ref]
  refine wpAny_holding (wpAny_bind (wpAny_cRoomFor (Nat.lt_of_succ_lt hu) ?_))
  refine wpAny_bind (I.type.here ?_)
  refine wpAny_bind (J.type.here ?_)
  simp only [bne_self_eq_false, Bool.false_eq_true, if_false]
  refine wpAny_bind (wpAny_pure ?_)
  simp only [Bool.false_eq_true, if_false]
  refine wpAny_bind (m := tryCompare (.ref x) _ (.ref y)) (wpAny_mono one (fun r s1 z => ?_) fun _ _ z => z)
  obtain ⟨v, rfl, q⟩ := z
  exact wpAny_pure q
end
section
variable {X : Cx} {k : Nat} {f C : Addr} {fd : FuncData} {ps : List Str} {sp : Sp} {E : XK}
theorem op_neSame (F : FnG X.prog X.w X.K X.mg X.base k f fd ps sp) (hr : RoomG (k + 1) X.A) (at_ : PySem.W.findIn X.K (.ref C) "__eq__" = some (some (.ref f))) (fn : PySem.W.isFn X.K (.ref f) = true) (hb : Binds X.K fd ps []) (hx : Passes CX0 X E)
    (ne_ : PySem.W.findIn X.K (.ref C) "__ne__" = some (some (.builtin "object.__ne__"))) (mro : PySem.W.mroIn X.K C (.type "object") = some true) :
    OpR X (compareOp .NotEq) (fun x y H Q => ∃ a b dx dy fs gs, x = .ref a ∧ y = .ref b ∧ H a = some (.ins C dx fs) ∧ H b = some (.ins C dy gs) ∧ sp [.ref a, .ref b] H (fun v H' => ∃ r : Bool, v = .bl r ∧ Q (.bl (!r)) H') E) := by
  intro pins s σ H x y v u Q I rx ry h
  obtain ⟨a, b, dx, dy, fs, gs, rfl, rfl, ha, hb', h⟩ := h
  obtain rfl : v = Value.ref a := rx
  obtain rfl : u = Value.ref b := ry
  obtain ⟨mA, J, _⟩ := ins_get I.hok ha
  obtain ⟨od, J, _⟩ := J.look
  obtain ⟨mB, J', _⟩ := ins_get I.hok hb'
  obtain ⟨od', J', _⟩ := J'.look
  have small : X.A.units + 1 < cLine := by have := hr.room.un; omega
  show wpAny (model X.prog X.w) X.A (richCompare .NotEq (.ref a) (.ref b)) (EP X pins σ Q) X.xe s
  refine rich_neS small I.kIn J J' mro ne_ at_ fn (wpAny_mono (run_below F (A' := X.A.in1) rfl hr.in1 hb hx I (xs := [.ref a, .ref b]) (.cons rfl (.cons rfl .nil)) h) (fun v s' q => ?_) fun _ _ z => z)
  obtain ⟨y, H', I', ry, r, rfl, q⟩ := q
  obtain rfl := ry
  exact ⟨r, rfl, .bl (!r), H', I', rfl, q⟩
end
def intOf : V → Int
  | .int i => i
  | _ => 0
theorem perm_ints {ys : List V} {fs : List Int} (h : ys.Perm (fs.map V.int)) : ∃ gs : List Int, ys = gs.map V.int ∧ gs.Perm fs := by
  have e1 : ∀ v ∈ ys, v = V.int (intOf v) := fun v hv => by
    have := h.mem_iff.mp hv
    obtain ⟨i, _, rfl⟩ := List.mem_map.mp this
    rfl
  refine ⟨ys.map intOf, ?_, ?_⟩
  · rw [List.map_map]
    conv => lhs; rw [← List.map_id ys]
    exact List.map_congr_left fun v hv => e1 v hv
  · have := h.map intOf
    rw [List.map_map] at this
    rw [show (intOf ∘ V.int) = id from rfl, List.map_id] at this
    exact this
theorem ins_perm {α : Type} {xs ys : List α} {v : α} (n : Nat) (h : ys.Perm xs) : (ys.take n ++ [v] ++ ys.drop n).Perm (xs ++ [v]) := by
  have h1 : (ys.take n ++ [v] ++ ys.drop n).Perm (ys.take n ++ ys.drop n ++ [v]) := by
    rw [List.append_assoc, List.append_assoc]
    exact List.Perm.append_left _ List.perm_append_comm
  rw [List.take_append_drop] at h1
  exact h1.trans (h.append_right [v])
theorem neI {i j : Int} (h : i = j) : (!decide (V.int i = V.int j)) = false := by rw [yI h]; rfl
/-- xs[:-1] -/
theorem cut_last {us : List V} {v : V} : cutV (us ++ [v]) none (some (-1)) = us := by
  unfold cutV
  have e0 : HT.sIx (us ++ [v]).length 0 none = 0 := rfl
  have e1 : HT.sIx (us ++ [v]).length (us ++ [v]).length (some (-1)) = us.length := by
    unfold HT.sIx
    simp
    omega
  rw [e0, e1]
  simp
end KW
namespace KW
open PySem L2
section
variable {K : PySem.W.Frag} {C : Addr} {H0 H H' : Hp} {b c : Addr}
theorem bag_get0 {a : Addr} {o : HO} (_ : BagAt H0 b c) (k : KeepB b H H') (hb : BagAt H b c) (no : NotBag o) (h : H a = some o) : H' a = some o := bag_get k hb no h
theorem TupAt.bag0 {v : V} {xs : List V} (_ : BagAt H0 b c) (k : KeepB b H H') (hb : BagAt H b c) (h : TupAt K H v xs) : TupAt K H' v xs := TupAt.bag k hb h
theorem TokAt.bag0 {z : Str} {v : V} {xs : List V} (_ : BagAt H0 b c) (k : KeepB b H H') (hb : BagAt H b c) (h : TokAt K H z v xs) : TokAt K H' z v xs := TokAt.bag k hb h
theorem Toks.bag0 {z : Str} {vs : List V} {ts : List (List V)} (_ : BagAt H0 b c) (k : KeepB b H H') (hb : BagAt H b c) (h : Toks K H z vs ts) : Toks K H' z vs ts := Toks.bag k hb h
theorem Plcs.bag0 {vs : List V} {ps : List (List V)} (_ : BagAt H0 b c) (k : KeepB b H H') (hb : BagAt H b c) (h : Plcs K H vs ps) : Plcs K H' vs ps := Plcs.bag k hb h
theorem PieceAt.bag0 {a : Addr} {z : Str} {ts : List (List V)} (_ : BagAt H0 b c) (k : KeepB b H H') (hb : BagAt H b c) (h : PieceAt K C H a z ts) : PieceAt K C H' a z ts := h.keepBag k hb
theorem TellAt.bag0 {z : Str} {ts : List (List V)} {a1 a2 a3 a4 : Addr} (_ : BagAt H0 b c) (hz : SignsOk z) (k : KeepB b H H') (hb : BagAt H b c) (h : TellAt K H z ts a1 a2 a3 a4) : TellAt K H' z ts a1 a2 a3 a4 := h.keepBag hz k hb
theorem lno0 (_ : BagAt H0 b c) (hb : BagAt H b c) : LstOrNo H b := hb.lst
theorem neb0 {p : Addr} (_ : BagAt H0 b c) (hp : H p = none) (hb : BagAt H b c) : p ≠ b := hb.neb hp
theorem neb0' {p : Addr} (_ : BagAt H0 b c) (hp : H p = none) (hb : BagAt H b c) : b ≠ p := (hb.neb hp).symm
theorem nec0 {p : Addr} (_ : BagAt H0 b c) (hp : H p = none) (hb : BagAt H b c) : p ≠ c := hb.nec hp
theorem nec0' {p : Addr} (_ : BagAt H0 b c) (hp : H p = none) (hb : BagAt H b c) : c ≠ p := (hb.nec hp).symm
end
end KW
namespace KW
open PySem L2
/-- whether a number of a flush is kept in a part -/
def inPart (fs : List Int) (b e w m : Int) : Bool := decide (m + b ∈ fs ∧ 0 ≤ m ∧ (m + b < e ∨ (m + b = e ∧ e = w)))
def partT (ts : List (List V)) (b e : Int) : List (List V) := mergeL (inPart (flushA ts 0 []) b e (placesL ts).length) (((placesL ts).drop b.toNat).take (e - b).toNat)
theorem cut_two {xs : List V} {b e : Int} (h0 : 0 ≤ b) (h1 : b ≤ e) (h2 : e ≤ (xs.length : Int)) : cutV xs (some b) (some e) = (xs.drop b.toNat).take (e - b).toNat := by
  unfold cutV
  have e0 : HT.sIx xs.length 0 (some b) = b.toNat := by
    show (if b < 0 then _ else _) = _
    rw [if_neg (by omega)]
    omega
  have e1 : HT.sIx xs.length xs.length (some e) = e.toNat := by
    show (if e < 0 then _ else _) = _
    rw [if_neg (by omega)]
    omega
  rw [e0, e1]
  congr 1
  omega
theorem filt_step {q : Int → Bool} {f : Int → Int} {fs : List Int} {i : Nat} {n : Int} (h : fs[i]? = some n) : ((fs.take (i + 1)).filter q).map (fun m => V.int (f m)) = ((fs.take i).filter q).map (fun m => V.int (f m)) ++ (if q n = true then [V.int (f n)] else []) := by
  rw [take_succ' h, List.filter_append, List.map_append]
  congr 1
  by_cases hq : q n = true
  · simp [hq]
  · simp [hq]
theorem mem_parts {ps : List (List V)} {z : Str} {b k : Nat} (h : ∀ p ∈ ps, PlOk z p) : ∀ p ∈ (ps.drop b).take k, PlOk z p := fun p hp => h p (List.mem_of_mem_drop (List.mem_of_mem_take hp))
end KW

/-! An own binary operator of two instances of one class. -/
namespace KW
open PySem L2
section
variable {X : Cx} {k : Nat} {f C : Addr} {fd : FuncData} {ps : List Str} {sp : Sp} {E : XK} {nm : String} {op : Operator}
theorem op_binSame (F : FnG X.prog X.w X.K X.mg X.base k f fd ps sp) (hr : RoomG (k + 1) X.A) (hop : op.info.2 = nm) (o : OwnOp X.K C f nm) (hb : Binds X.K fd ps []) (hx : Passes CX0 X E) :
    OpR X (binaryOp op) (fun x y H Q => ∃ a b dx dy fs gs, x = .ref a ∧ y = .ref b ∧ H a = some (.ins C dx fs) ∧ H b = some (.ins C dy gs) ∧ sp [.ref a, .ref b] H Q E) := by
  intro pins s σ H x y v u Q I rx ry h
  obtain ⟨a, b, dx, dy, fs, gs, rfl, rfl, ha, hb', h⟩ := h
  obtain rfl : v = Value.ref a := rx
  obtain rfl : u = Value.ref b := ry
  obtain ⟨mA, J, _⟩ := ins_get I.hok ha
  obtain ⟨od, J, _⟩ := J.look
  obtain ⟨mB, J', _⟩ := ins_get I.hok hb'
  obtain ⟨od', J', _⟩ := J'.look
  obtain ⟨m, hF⟩ := I.fr
  subst hop
  refine PySem.W.binop_K hF I.ok.mod.kin J J'.type o.first o.at_ o.fn ?_
  refine wpAny_mono (run_below F (A' := X.A) rfl (hr.mono (Nat.le_succ _)) hb hx I (xs := [.ref a, .ref b]) (.cons rfl (.cons rfl .nil)) h) (fun v s' q => ?_) fun _ _ z => z
  obtain ⟨y, H', I', ry, q⟩ := q
  have no := relV_notNI ry
  cases v <;> first | exact ⟨y, H', I', ry, q⟩ | (exfalso; revert no; simp [isNI])
end
end KW

/-! What is joined, cut and merged: a piece merged is told by its places and by where its flushes stand. -/
namespace KW
open PySem L2
theorem mergeA_ext {f g : Int → Bool} : ∀ (ps : List (List V)) (n : Int) (acc : List (List V)), (∀ m, n ≤ m → m ≤ n + ps.length → f m = g m) → mergeA f ps n acc = mergeA g ps n acc
  | [], n, acc, h => by
    show (if f n = true then _ else _) = (if g n = true then _ else _)
    rw [h n (Int.le_refl _) (by simp)]
  | p :: ps, n, acc, h => by
    show mergeA f ps (n + 1) _ = mergeA g ps (n + 1) _
    rw [h n (Int.le_refl _) (by rw [List.length_cons]; omega)]
    exact mergeA_ext ps (n + 1) _ fun m h1 h2 => h m (by omega) (by rw [List.length_cons]; omega)
theorem mergeL_ext {f g : Int → Bool} {ps : List (List V)} (h : ∀ m, 0 ≤ m → m ≤ (ps.length : Int) → f m = g m) : mergeL f ps = mergeL g ps :=
  mergeA_ext ps 0 [] fun m h1 h2 => h m h1 (by omega)
/-- a flush stands behind so many signs -/
def flAt : List (List V) → Int → Prop
  | [], _ => False
  | t :: ts, k => match t with
    | [.str _] => k = 0 ∨ flAt ts k
    | _ => flAt ts (k - sizeV t)
theorem flAt_two {k v : V} {r : List V} {ts : List (List V)} {m : Int} : flAt ((k :: v :: r) :: ts) m = flAt ts (m - sizeV (k :: v :: r)) := by cases k <;> rfl
theorem mem_flushA {z : Str} : ∀ (ts : List (List V)) (n : Int) (acc : List Int) (m : Int), (∀ t ∈ ts, tokV z t = true) → (m ∈ flushA ts n acc ↔ m ∈ acc ∨ flAt ts (m - n))
  | [], n, acc, m, _ => by
    show m ∈ acc ↔ m ∈ acc ∨ False
    simp
  | t :: ts, n, acc, m, h => by
    have hr : ∀ u ∈ ts, tokV z u = true := fun u hu => h u (List.mem_cons_of_mem _ hu)
    obtain ⟨k, ⟨rfl, h0⟩ | ⟨a, b, r, rfl⟩⟩ := shapes h t List.mem_cons_self
    · rw [flushA_flush, mem_flushA ts n _ m hr]
      show _ ↔ m ∈ acc ∨ (m - n = 0 ∨ flAt ts (m - n))
      have e : m ∈ (if n ∈ acc then acc else acc ++ [n]) ↔ m ∈ acc ∨ m = n := by
        split
        · rename_i hn
          constructor
          · exact .inl
          · rintro (h1 | rfl)
            · exact h1
            · exact hn
        · rw [List.mem_append, List.mem_singleton]
      rw [e]
      constructor
      · rintro ((h1 | h1) | h1)
        · exact .inl h1
        · exact .inr (.inl (by omega))
        · exact .inr (.inr h1)
      · rintro (h1 | h1 | h1)
        · exact .inl (.inl h1)
        · exact .inl (.inr (by omega))
        · exact .inr h1
    · rw [flushA_big, mem_flushA ts _ acc m hr, flAt_two]
      have e : m - (n + sizeV (a :: b :: r)) = m - n - sizeV (a :: b :: r) := by omega
      rw [e]
theorem mem_flush0 {z : Str} {ts : List (List V)} {m : Int} (h : ∀ t ∈ ts, tokV z t = true) : m ∈ flushA ts 0 [] ↔ flAt ts m := by
  rw [mem_flushA ts 0 [] m h, Int.sub_zero]
  simp
theorem flAt_app {z : Str} : ∀ (ts us : List (List V)) (m : Int), (∀ t ∈ ts, tokV z t = true) → (flAt (ts ++ us) m ↔ flAt ts m ∨ flAt us (m - tsize ts))
  | [], us, m, _ => by
    rw [tsize_nil, Int.sub_zero]
    show flAt us m ↔ False ∨ flAt us m
    simp
  | t :: ts, us, m, h => by
    have hr : ∀ u ∈ ts, tokV z u = true := fun u hu => h u (List.mem_cons_of_mem _ hu)
    rw [List.cons_append, tsize_cons]
    obtain ⟨k, ⟨rfl, h0⟩ | ⟨a, b, r, rfl⟩⟩ := shapes h t List.mem_cons_self
    · show (m = 0 ∨ flAt (ts ++ us) m) ↔ (m = 0 ∨ flAt ts m) ∨ _
      rw [flAt_app ts us m hr, h0, Int.zero_add, or_assoc]
    · rw [flAt_two, flAt_two, flAt_app ts us _ hr]
      have e : m - (sizeV (a :: b :: r) + tsize ts) = m - sizeV (a :: b :: r) - tsize ts := by omega
      rw [e]
theorem mem_flush_app {z : Str} {ts us : List (List V)} {m : Int} (h : ∀ t ∈ ts, tokV z t = true) (h' : ∀ t ∈ us, tokV z t = true) : m ∈ flushA (ts ++ us) 0 [] ↔ m ∈ flushA ts 0 [] ∨ m - tsize ts ∈ flushA us 0 [] := by
  rw [mem_flush0 (z := z) (fun t ht => (List.mem_append.mp ht).elim (h t) (h' t)), mem_flush0 h, mem_flush0 h', flAt_app ts us m h]
/-- a piece merged is told by its places and by where its flushes stand -/
theorem mergedT_of {ts us : List (List V)} (hp : placesL us = placesL ts) (hf : ∀ m, m ∈ flushA us 0 [] ↔ m ∈ flushA ts 0 []) : mergedT us = mergedT ts := by
  unfold mergedT
  rw [hp]
  exact mergeL_ext fun m _ _ => decide_eq_decide.mpr (hf m)
theorem part_grown {z : Str} {ts : List (List V)} {b e : Int} (h : ∀ t ∈ ts, tokV z t = true) (hs : tsize ts ≤ 40) (h0 : 0 ≤ b) (hbe : b < e) (he : e ≤ tsize ts) :
    Grown z (((placesL ts).drop b.toNat).take (e - b).toNat) (flsFrom (inPart (flushA ts 0 []) b e (placesL ts).length) (e - b).toNat 0) (partT ts b e) := by
  have hl := places_len h
  have hpll : (((placesL ts).drop b.toNat).take (e - b).toNat).length = (e - b).toNat := by
    rw [List.length_take, List.length_drop]
    omega
  have g := mergeL_grown (f := inPart (flushA ts 0 []) b e (placesL ts).length) (z := z) (mem_parts (b := b.toNat) (k := (e - b).toNat) (plOk_of h)) (by omega)
  rw [hpll] at g
  exact g
theorem part_flush {z : Str} {ts : List (List V)} {b e m : Int} (h : ∀ t ∈ ts, tokV z t = true) (hs : tsize ts ≤ 40) (h0 : 0 ≤ b) (hbe : b < e) (he : e ≤ tsize ts) :
    m ∈ flushA (partT ts b e) 0 [] ↔ (m + b ∈ flushA ts 0 [] ∧ 0 ≤ m ∧ (m + b < e ∨ (m + b = e ∧ e = tsize ts))) := by
  have hl := places_len h
  rw [(part_grown h hs h0 hbe he).flushes, flsFrom_mem]
  unfold inPart
  rw [decide_eq_true_eq, hl]
  constructor
  · rintro ⟨h1, _⟩; exact h1
  · rintro ⟨h1, h2, h3⟩; exact ⟨⟨h1, h2, h3⟩, h2, by omega⟩
theorem part_size {z : Str} {ts : List (List V)} {b e : Int} (h : ∀ t ∈ ts, tokV z t = true) (hs : tsize ts ≤ 40) (h0 : 0 ≤ b) (hbe : b < e) (he : e ≤ tsize ts) : tsize (partT ts b e) = e - b := by
  have hl := places_len h
  rw [(part_grown h hs h0 hbe he).size, List.length_take, List.length_drop]
  omega
/-- cut in two and joined again -/
theorem cut_join {z : Str} {ts : List (List V)} {c : Int} (h : ∀ t ∈ ts, tokV z t = true) (hs : tsize ts ≤ 40) (h0 : 0 < c) (h1 : c < tsize ts) : mergedT (partT ts 0 c ++ partT ts c (tsize ts)) = mergedT ts := by
  have hl := places_len h
  have g1 := part_grown h hs (Int.le_refl 0) h0 (Int.le_of_lt h1)
  have g2 := part_grown h hs (Int.le_of_lt h0) h1 (Int.le_refl _)
  refine mergedT_of ?_ fun m => ?_
  · rw [places_app, g1.places, g2.places]
    have e1 : (tsize ts - c).toNat = ((placesL ts).drop c.toNat).length := by rw [List.length_drop]; omega
    rw [e1, List.take_length]
    show ((placesL ts).take (c - 0).toNat) ++ _ = _
    rw [Int.sub_zero]
    exact List.take_append_drop _ _
  · rw [mem_flush_app g1.ok g2.ok, part_size h hs (Int.le_refl 0) h0 (Int.le_of_lt h1), part_flush h hs (Int.le_refl 0) h0 (Int.le_of_lt h1), part_flush h hs (Int.le_of_lt h0) h1 (Int.le_refl _)]
    have e1 : m + 0 = m := by omega
    have e2 : m - (c - 0) + c = m := by omega
    rw [e1, e2]
    have hin := flushA_in ts z 0 [] h (by decide) (fun _ h => nomatch h) m
    constructor
    · rintro (h1 | h1) <;> exact h1.1
    · intro hm
      have := hin hm
      by_cases hc : m < c
      · exact .inl ⟨hm, by omega, .inl hc⟩
      · exact .inr ⟨hm, by omega, by omega⟩
/-- a part of a part -/
theorem part_part {z : Str} {ts : List (List V)} {b e b2 e2 : Int} (h : ∀ t ∈ ts, tokV z t = true) (hs : tsize ts ≤ 40) (h0 : 0 ≤ b) (hbe : b < e) (he : e ≤ tsize ts) (h2 : 0 ≤ b2) (hbe2 : b2 < e2) (he2 : e2 ≤ e - b) : partT (partT ts b e) b2 e2 = partT ts (b + b2) (b + e2) := by
  have hl := places_len h
  have g := part_grown h hs h0 hbe he
  have hlen : (placesL (partT ts b e)).length = (e - b).toNat := by rw [g.places, List.length_take, List.length_drop]; omega
  have hps : ((placesL (partT ts b e)).drop b2.toNat).take (e2 - b2).toNat = ((placesL ts).drop (b + b2).toNat).take (b + e2 - (b + b2)).toNat := by
    rw [g.places, List.drop_take, List.drop_drop, List.take_take]
    congr 1
    · omega
    · congr 1; omega
  show mergeL _ _ = mergeL _ _
  rw [hps]
  refine mergeL_ext fun m hm _ => ?_
  unfold inPart
  refine decide_eq_decide.mpr ?_
  rw [part_flush h hs h0 hbe he, hlen]
  have e1 : m + b2 + b = m + (b + b2) := by omega
  rw [e1]
  constructor
  · rintro ⟨⟨h1, h3, h4⟩, h5, h6⟩
    exact ⟨h1, h5, by omega⟩
  · rintro ⟨h1, h3, h4⟩
    exact ⟨⟨h1, by omega, by omega⟩, h3, by omega⟩
/-- joined and merged, or merged, joined and merged -/
theorem join_merged {z : Str} {ts us : List (List V)} (h : ∀ t ∈ ts, tokV z t = true) (h' : ∀ t ∈ us, tokV z t = true) (hs : tsize ts + tsize us ≤ 40) : mergedT (mergedT ts ++ mergedT us) = mergedT (ts ++ us) := by
  have p1 := tsize_nn h
  have p2 := tsize_nn h'
  have g1 := merged_grown h (by omega)
  have g2 := merged_grown h' (by omega)
  refine mergedT_of ?_ fun m => ?_
  · rw [places_app, places_app, g1.places, g2.places]
  · rw [mem_flush_app g1.ok g2.ok, mem_flush_app h h', g1.flushes, g2.flushes, mergedT_size h (by omega)]
end KW

/-! What a piece needs is told by its places and by where its flushes stand; what two pieces need together. -/
namespace KW
open PySem L2
def stepP (p : List V) (fl : Option Int) (m w : Int) : Option Int :=
  match p with
  | [.str k, .int d] => if k = "copy" then (match fl with | none => some (if d - w > m then d - w else m) | some x => if w - x < d then none else some m) else some m
  | _ => some m
def needsP (f : Int → Bool) : List (List V) → Option Int → Int → Int → V
  | [], _, m, _ => .int m
  | p :: ps, fl, m, w => match stepP p (if f w = true then some w else fl) m w with
    | none => .non
    | some m' => needsP f ps (if f w = true then some w else fl) m' (w + 1)
theorem needsP_ext {f g : Int → Bool} : ∀ (ps : List (List V)) (fl : Option Int) (m w : Int), (∀ k, w ≤ k → f k = g k) → needsP f ps fl m w = needsP g ps fl m w
  | [], _, _, _, _ => rfl
  | p :: ps, fl, m, w, h => by
    unfold needsP
    rw [h w (Int.le_refl _)]
    cases stepP p (if g w = true then some w else fl) m w with
    | none => rfl
    | some m' => exact needsP_ext ps _ m' (w + 1) fun k hk => h k (by omega)
/-- a flush just here -/
theorem needsP_here {f g : Int → Bool} {ps : List (List V)} {fl fl' : Option Int} {m w : Int} (h : ∀ k, w < k → f k = g k) (e : (if f w = true then some w else fl) = (if g w = true then some w else fl')) : needsP f ps fl m w = needsP g ps fl' m w := by
  cases ps with
  | nil => rfl
  | cons p ps =>
    unfold needsP
    rw [e]
    cases stepP p (if g w = true then some w else fl') m w with
    | none => rfl
    | some m' => exact needsP_ext ps _ m' (w + 1) fun k hk => h k (by omega)
/-- places that change nothing, no flush among them -/
theorem needsP_skip {f : Int → Bool} {fl : Option Int} {m : Int} {ps : List (List V)} : ∀ (qs : List (List V)) (w : Int), (∀ k, w ≤ k → k < w + qs.length → f k = false) → (∀ q ∈ qs, ∀ k, w ≤ k → stepP q fl m k = some m) → needsP f (qs ++ ps) fl m w = needsP f ps fl m (w + qs.length)
  | [], w, _, _ => by
    show needsP f ps fl m w = needsP f ps fl m (w + ((0 : Nat) : Int))
    rw [show w + ((0 : Nat) : Int) = w by omega]
  | q :: qs, w, hf, hq => by
    rw [List.cons_append]
    have h0 : f w = false := hf w (Int.le_refl _) (by rw [List.length_cons]; omega)
    have e : (if f w = true then some w else fl) = fl := by rw [h0]; rfl
    show (match stepP q (if f w = true then some w else fl) m w with | none => _ | some m' => needsP f (qs ++ ps) (if f w = true then some w else fl) m' (w + 1)) = _
    rw [e, hq q List.mem_cons_self w (Int.le_refl _)]
    show needsP f (qs ++ ps) fl m (w + 1) = _
    rw [needsP_skip qs (w + 1) (fun k h1 h2 => hf k (by omega) (by rw [List.length_cons]; omega)) (fun q' hq' k hk => hq q' (List.mem_cons_of_mem _ hq') k (by omega))]
    rw [List.length_cons, show w + 1 + (qs.length : Int) = w + ((qs.length + 1 : Nat) : Int) by omega]
theorem flAt_nn {z : Str} : ∀ (ts : List (List V)) (m : Int), (∀ t ∈ ts, tokV z t = true) → flAt ts m → 0 ≤ m
  | [], _, _, h => h.elim
  | t :: ts, m, h, hm => by
    have hr : ∀ u ∈ ts, tokV z u = true := fun u hu => h u (List.mem_cons_of_mem _ hu)
    have hs := (size_nn (h t List.mem_cons_self)).1
    obtain ⟨k, ⟨rfl, h0⟩ | ⟨a, b, r, rfl⟩⟩ := shapes h t List.mem_cons_self
    · have hm : m = 0 ∨ flAt ts m := hm
      rcases hm with h1 | h1
      · omega
      · exact flAt_nn ts m hr h1
    · rw [flAt_two] at hm
      have := flAt_nn ts _ hr hm
      omega
open Classical in
theorem needs_places {z : Str} : ∀ (ts : List (List V)), (∀ t ∈ ts, tokV z t = true) → ∀ (fl : Option Int) (m w : Int), needsL ts fl m w = needsP (fun k => decide (flAt ts (k - w))) (placesL ts) fl m w := by
  intro ts
  induction ts with
  | nil => intro _ fl m w; rfl
  | cons t r ih =>
    intro h fl m w
    have hr : ∀ t ∈ r, tokV z t = true := fun u hu => h u (List.mem_cons_of_mem _ hu)
    have hpl : placesL (t :: r) = placeT t ++ placesL r := rfl
    have hneg : ∀ k, k < 0 → ¬ flAt r k := fun k hk hc => by
      have := flAt_nn r k hr hc
      omega
    obtain ⟨kd, rest, rfl, hk⟩ := tok_inv (h t List.mem_cons_self)
    rcases hk with ⟨rfl, rfl⟩ | ⟨y, rfl, rfl, h1, h2, h3⟩ | ⟨y, rfl, rfl, h1⟩ | ⟨d, n, hkd, rfl, h1, h2, h3, h4⟩
    · rw [hpl]
      show needsL r (some w) m w = needsP _ (placesL r) fl m w
      rw [ih hr]
      refine needsP_here (fun k hk => ?_) ?_
      · refine decide_eq_decide.mpr ?_
        show flAt r (k - w) ↔ (k - w = 0 ∨ flAt r (k - w))
        constructor
        · exact .inr
        · rintro (h1 | h1)
          · omega
          · exact h1
      · have e2 : decide (flAt ([.str "flush"] :: r) (w - w)) = true := decide_eq_true (Or.inl (by omega) : w - w = 0 ∨ flAt r (w - w))
        simp only [e2, if_true]
        split <;> rfl
    · rw [hpl]
      show needsL r fl m (w + sizeV [.str "text", .str y]) = _
      have hlen := place_len (h _ List.mem_cons_self)
      have hz := (size_nn (h _ List.mem_cons_self)).1
      rw [ih hr, needsP_skip (placeT [.str "text", .str y]) w ?_ ?_, hlen]
      · refine needsP_ext _ _ _ _ fun k hk => decide_eq_decide.mpr ?_
        rw [flAt_two, show k - (w + sizeV [.str "text", .str y]) = k - w - sizeV [.str "text", .str y] by omega]
      · intro k h1 h2
        refine decide_eq_false ?_
        rw [flAt_two]
        exact hneg _ (by omega)
      · intro q hq k _
        rw [place_text] at hq
        obtain ⟨c, _, rfl⟩ := List.mem_map.mp hq
        rfl
    · rw [hpl]
      show needsL r fl m (w + sizeV [.str "any", .str y]) = _
      have hlen := place_len (h _ List.mem_cons_self)
      have hz := (size_nn (h _ List.mem_cons_self)).1
      rw [ih hr, needsP_skip (placeT [.str "any", .str y]) w ?_ ?_, hlen]
      · refine needsP_ext _ _ _ _ fun k hk => decide_eq_decide.mpr ?_
        rw [flAt_two, show k - (w + sizeV [.str "any", .str y]) = k - w - sizeV [.str "any", .str y] by omega]
      · intro k h1 h2
        refine decide_eq_false ?_
        rw [flAt_two]
        exact hneg _ (by omega)
      · intro q hq k _
        rw [place_any] at hq
        cases List.mem_singleton.mp hq
        rfl
    · rw [hpl]
      have hlen := place_len (h _ List.mem_cons_self)
      have hsz : sizeV [.str kd, .int d, .int n] = n := rfl
      have hpt : placeT [.str kd, .int d, .int n] = List.replicate n.toNat [.str kd, .int d] := rfl
      have hno : ∀ k, w ≤ k → k < w + n → decide (flAt ([.str kd, .int d, .int n] :: r) (k - w)) = false := fun k _ h2 => by
        refine decide_eq_false ?_
        rw [flAt_two]
        exact hneg _ (by rw [hsz]; omega)
      have hext : ∀ fl' m', needsL r fl' m' (w + n) = needsP (fun k => decide (flAt ([.str kd, .int d, .int n] :: r) (k - w))) (placesL r) fl' m' (w + n) := fun fl' m' => by
        rw [ih hr]
        refine needsP_ext _ _ _ _ fun k hk => decide_eq_decide.mpr ?_
        rw [flAt_two, show k - (w + n) = k - w - sizeV [.str kd, .int d, .int n] by rw [hsz]; omega]
      have hrl : ((List.replicate n.toNat [V.str kd, V.int d]).length : Int) = n := by rw [List.length_replicate]; omega
      rw [hpt]
      by_cases hc : kd = "copy"
      · obtain ⟨q, hq⟩ : ∃ q, n.toNat = q + 1 := ⟨n.toNat - 1, by omega⟩
        have hrq : ((List.replicate q [V.str kd, V.int d]).length : Int) = n - 1 := by rw [List.length_replicate]; omega
        rw [hq, List.replicate_succ, List.cons_append]
        have h0 := hno w (Int.le_refl _) (by omega)
        cases fl with
        | none =>
          show needsL _ _ _ _ = _
          unfold needsL stepN needsP
          simp only [h0, Bool.false_eq_true, if_false, stepP, if_pos hc]
          rw [needsP_skip (List.replicate q [V.str kd, V.int d]) (w + 1) ?_ ?_, hrq, hext, show w + 1 + (n - 1) = w + n by omega]
          · intro k h1 h2
            exact hno k (by omega) (by omega)
          · intro p hp k hk
            cases List.eq_of_mem_replicate hp
            simp only [stepP, if_pos hc]
            congr 1
            repeat' split
            all_goals omega
        | some x =>
          unfold needsL stepN needsP
          simp only [h0, Bool.false_eq_true, if_false, stepP, if_pos hc]
          by_cases hd : w - x < d
          · rw [if_pos hd, if_pos hd]
          · rw [if_neg hd, if_neg hd]
            show needsL r (some x) m (w + n) = _
            show _ = needsP _ _ (some x) m (w + 1)
            rw [needsP_skip (List.replicate q [V.str kd, V.int d]) (w + 1) ?_ ?_, hrq, hext, show w + 1 + (n - 1) = w + n by omega]
            · intro k h1 h2
              exact hno k (by omega) (by omega)
            · intro p hp k hk
              cases List.eq_of_mem_replicate hp
              simp only [stepP, if_pos hc]
              rw [if_neg (by omega)]
      · unfold needsL stepN
        simp only [if_neg hc]
        rw [needsP_skip (List.replicate n.toNat [V.str kd, V.int d]) w ?_ ?_, hrl, hext]
        · intro k h1 h2
          exact hno k h1 (by omega)
        · intro p hp k hk
          cases List.eq_of_mem_replicate hp
          simp only [stepP, if_neg hc]
theorem needs_of {z : Str} {ts us : List (List V)} (h : ∀ t ∈ ts, tokV z t = true) (h' : ∀ t ∈ us, tokV z t = true) (hp : placesL us = placesL ts) (hf : ∀ m, m ∈ flushA us 0 [] ↔ m ∈ flushA ts 0 []) : needsL us none 0 0 = needsL ts none 0 0 := by
  rw [needs_places us h', needs_places ts h, hp]
  refine needsP_ext _ _ _ _ fun k _ => decide_eq_decide.mpr ?_
  rw [Int.sub_zero, ← mem_flush0 h, ← mem_flush0 h']
  exact hf k
end KW

/-! What two pieces need together. -/
namespace KW
open PySem L2
def runN : List (List V) → Option Int → Int → Int → Option (Option Int × Int × Int)
  | [], fl, m, w => some (fl, m, w)
  | t :: r, fl, m, w => match stepN t fl m w with
    | none => none
    | some (a, b, c) => runN r a b c
theorem needsL_app : ∀ (ts us : List (List V)) (fl : Option Int) (m w : Int), needsL (ts ++ us) fl m w = match runN ts fl m w with | none => .non | some (a, b, c) => needsL us a b c
  | [], _, _, _, _ => rfl
  | t :: r, us, fl, m, w => by
    rw [List.cons_append]
    show (match stepN t fl m w with | none => V.non | some (a, b, c) => needsL (r ++ us) a b c) = match (match stepN t fl m w with | none => none | some (a, b, c) => runN r a b c) with | none => V.non | some (a, b, c) => needsL us a b c
    cases stepN t fl m w with
    | none => rfl
    | some s => exact needsL_app r us s.1 s.2.1 s.2.2
theorem needsL_run (ts : List (List V)) (fl : Option Int) (m w : Int) : needsL ts fl m w = match runN ts fl m w with | none => .non | some (_, b, _) => .int b := by
  have e := needsL_app ts [] fl m w
  rw [List.append_nil] at e
  rw [e]
  cases runN ts fl m w with
  | none => rfl
  | some s => rfl
theorem put_last {acc : List Int} {w : Int} (h : Asc acc w) : (if w ∈ acc then acc else acc ++ [w]).getLast? = some w := by
  split
  · rename_i hm
    cases e : acc.getLast? with
    | none =>
      rw [List.getLast?_eq_none_iff] at e
      rw [e] at hm
      cases hm
    | some x =>
      obtain ⟨ys, rfl⟩ := List.getLast?_eq_some_iff.mp e
      rw [List.mem_append, List.mem_singleton] at hm
      rcases hm with hm | hm
      · have h1 := (List.pairwise_append.mp h.1).2.2 w hm x (List.mem_singleton.mpr rfl)
        have h2 := h.2 x (by simp)
        omega
      · rw [hm]
  · simp
theorem run_facts {z : Str} : ∀ (ts : List (List V)), (∀ t ∈ ts, tokV z t = true) → ∀ (fl : Option Int) (m w : Int) (fl' : Option Int) (m' w' : Int), runN ts fl m w = some (fl', m', w') →
    w' = w + tsize ts ∧ m ≤ m' ∧ ∀ acc, Asc acc w → acc.getLast? = fl → (flushA ts w acc).getLast? = fl' := by
  intro ts
  induction ts with
  | nil =>
    intro _ fl m w fl' m' w' e
    cases e
    rw [tsize_nil]
    exact ⟨by omega, Int.le_refl _, fun acc _ h => h⟩
  | cons t r ih =>
    intro h fl m w fl' m' w' e
    have hr : ∀ t ∈ r, tokV z t = true := fun u hu => h u (List.mem_cons_of_mem _ hu)
    have hz := (size_nn (h t List.mem_cons_self)).1
    rw [tsize_cons]
    obtain ⟨kd, rest, rfl, hk⟩ := tok_inv (h t List.mem_cons_self)
    rcases hk with ⟨rfl, rfl⟩ | ⟨y, rfl, rfl, h1, h2, h3⟩ | ⟨y, rfl, rfl, h1⟩ | ⟨d, n, hkd, rfl, h1, h2, h3, h4⟩
    · obtain ⟨a1, a2, a3⟩ := ih hr (some w) m w fl' m' w' e
      refine ⟨by rw [a1, (show sizeV [.str "flush"] = 0 from rfl)]; omega, a2, fun acc ha _ => ?_⟩
      rw [flushA_flush]
      exact a3 _ ha.put (put_last ha)
    · obtain ⟨a1, a2, a3⟩ := ih hr fl m (w + sizeV [.str "text", .str y]) fl' m' w' e
      refine ⟨by rw [a1]; omega, a2, fun acc ha hl => ?_⟩
      rw [flushA_two]
      exact a3 _ (ha.mono (by omega)) hl
    · obtain ⟨a1, a2, a3⟩ := ih hr fl m (w + sizeV [.str "any", .str y]) fl' m' w' e
      refine ⟨by rw [a1]; omega, a2, fun acc ha hl => ?_⟩
      rw [flushA_two]
      exact a3 _ (ha.mono (by omega)) hl
    · have hsz : sizeV [.str kd, .int d, .int n] = n := rfl
      by_cases hc : kd = "copy"
      · cases fl with
        | none =>
          unfold runN stepN at e
          simp only [if_pos hc] at e
          obtain ⟨a1, a2, a3⟩ := ih hr none _ (w + n) fl' m' w' e
          refine ⟨by rw [a1, hsz]; omega, ?_, fun acc ha hl => ?_⟩
          · split at a2 <;> omega
          · rw [flushA_three, hsz]
            exact a3 _ (ha.mono (by omega)) hl
        | some x =>
          unfold runN stepN at e
          simp only [if_pos hc] at e
          by_cases hd : w - x < d
          · rw [if_pos hd] at e; cases e
          · rw [if_neg hd] at e
            obtain ⟨a1, a2, a3⟩ := ih hr (some x) m (w + n) fl' m' w' e
            refine ⟨by rw [a1, hsz]; omega, a2, fun acc ha hl => ?_⟩
            rw [flushA_three, hsz]
            exact a3 _ (ha.mono (by omega)) hl
      · unfold runN stepN at e
        simp only [if_neg hc] at e
        obtain ⟨a1, a2, a3⟩ := ih hr fl m (w + n) fl' m' w' e
        refine ⟨by rw [a1, hsz]; omega, a2, fun acc ha hl => ?_⟩
        rw [flushA_three, hsz]
        exact a3 _ (ha.mono (by omega)) hl
def shiftN (N k : Int) : V → V
  | .int n => .int (if n - k > N then n - k else N)
  | v => v
theorem needs_shiftN {z : Str} {k N : Int} : ∀ (ts : List (List V)), (∀ t ∈ ts, tokV z t = true) → ∀ (fl : Option Int) (m w : Int), needsL ts (fl.map (· + k)) (if m - k > N then m - k else N) (w + k) = shiftN N k (needsL ts fl m w) := by
  intro ts
  induction ts with
  | nil => intro _ fl m w; rfl
  | cons t r ih =>
    intro h fl m w
    have hr : ∀ t ∈ r, tokV z t = true := fun u hu => h u (List.mem_cons_of_mem _ hu)
    obtain ⟨kd, rest, rfl, hk⟩ := tok_inv (h t List.mem_cons_self)
    rcases hk with ⟨rfl, rfl⟩ | ⟨y, rfl, rfl, h1, h2, h3⟩ | ⟨y, rfl, rfl, h1⟩ | ⟨d, n, hkd, rfl, h1, h2, h3, h4⟩
    · exact ih hr (some w) m w
    · have e := ih hr fl m (w + sizeV [.str "text", .str y])
      rw [show w + sizeV [.str "text", .str y] + k = w + k + sizeV [.str "text", .str y] by omega] at e
      exact e
    · have e := ih hr fl m (w + sizeV [.str "any", .str y])
      rw [show w + sizeV [.str "any", .str y] + k = w + k + sizeV [.str "any", .str y] by omega] at e
      exact e
    · by_cases hc : kd = "copy"
      · cases fl with
        | none =>
          have e := ih hr none (if d - w > m then d - w else m) (w + n)
          show needsL _ _ _ _ = _
          unfold needsL stepN
          simp only [if_pos hc, Option.map_none]
          rw [show w + k + n = w + n + k by omega]
          rw [← show _ = shiftN N k (needsL r none (if d - w > m then d - w else m) (w + n)) from e]
          congr 1
          repeat' split
          all_goals omega
        | some f =>
          unfold needsL stepN
          simp only [if_pos hc, Option.map_some]
          by_cases hd : w - f < d
          · rw [if_pos (by omega), if_pos hd]
            rfl
          · rw [if_neg (by omega), if_neg hd]
            have e := ih hr (some f) m (w + n)
            rw [show w + k + n = w + n + k by omega]
            exact e
      · unfold needsL stepN
        simp only [if_neg hc]
        have e := ih hr fl m (w + n)
        rw [show w + k + n = w + n + k by omega]
        exact e
/-- behind a flush what is needed no more grows -/
theorem needs_set {z : Str} {k M : Int} : ∀ (ts : List (List V)), (∀ t ∈ ts, tokV z t = true) → ∀ (x m w : Int), (needsL ts (some x) m w = .non ∧ needsL ts (some (x + k)) M (w + k) = .non) ∨ (needsL ts (some x) m w = .int m ∧ needsL ts (some (x + k)) M (w + k) = .int M) := by
  intro ts
  induction ts with
  | nil => intro _ x m w; exact .inr ⟨rfl, rfl⟩
  | cons t r ih =>
    intro h x m w
    have hr : ∀ t ∈ r, tokV z t = true := fun u hu => h u (List.mem_cons_of_mem _ hu)
    obtain ⟨kd, rest, rfl, hk⟩ := tok_inv (h t List.mem_cons_self)
    rcases hk with ⟨rfl, rfl⟩ | ⟨y, rfl, rfl, h1, h2, h3⟩ | ⟨y, rfl, rfl, h1⟩ | ⟨d, n, hkd, rfl, h1, h2, h3, h4⟩
    · exact ih hr w m w
    · have e := ih hr x m (w + sizeV [.str "text", .str y])
      rw [show w + sizeV [.str "text", .str y] + k = w + k + sizeV [.str "text", .str y] by omega] at e
      exact e
    · have e := ih hr x m (w + sizeV [.str "any", .str y])
      rw [show w + sizeV [.str "any", .str y] + k = w + k + sizeV [.str "any", .str y] by omega] at e
      exact e
    · have e := ih hr x m (w + n)
      rw [show w + n + k = w + k + n by omega] at e
      by_cases hc : kd = "copy"
      · unfold needsL stepN
        simp only [if_pos hc]
        by_cases hd : w - x < d
        · rw [if_pos hd, if_pos (by omega)]
          exact .inl ⟨rfl, rfl⟩
        · rw [if_neg hd, if_neg (by omega)]
          exact e
      · unfold needsL stepN
        simp only [if_neg hc]
        exact e
theorem needs_mono {z : Str} (ts : List (List V)) (h : ∀ t ∈ ts, tokV z t = true) (fl : Option Int) (m w : Int) : needsL ts fl m w = .non ∨ ∃ n, needsL ts fl m w = .int n ∧ m ≤ n := by
  rw [needsL_run]
  cases e : runN ts fl m w with
  | none => exact .inl rfl
  | some s => exact .inr ⟨_, rfl, (run_facts ts h fl m w s.1 s.2.1 s.2.2 e).2.1⟩
def heldN (N c : Int) : V → V
  | .int n => if n ≤ c then .int N else .non
  | _ => .non
/-- behind a flush f of the first piece, k signs long -/
theorem needs_held {z : Str} {f k N : Int} : ∀ (ts : List (List V)), (∀ t ∈ ts, tokV z t = true) → ∀ (m w : Int), m ≤ k - f → needsL ts (some f) N (w + k) = heldN N (k - f) (needsL ts none m w) := by
  intro ts
  induction ts with
  | nil =>
    intro _ m w hm
    show V.int N = if m ≤ k - f then V.int N else V.non
    rw [if_pos hm]
  | cons t r ih =>
    intro h m w hm
    have hr : ∀ t ∈ r, tokV z t = true := fun u hu => h u (List.mem_cons_of_mem _ hu)
    obtain ⟨kd, rest, rfl, hk⟩ := tok_inv (h t List.mem_cons_self)
    rcases hk with ⟨rfl, rfl⟩ | ⟨y, rfl, rfl, h1, h2, h3⟩ | ⟨y, rfl, rfl, h1⟩ | ⟨d, n, hkd, rfl, h1, h2, h3, h4⟩
    · show needsL r (some (w + k)) N (w + k) = heldN N (k - f) (needsL r (some w) m w)
      rcases needs_set (k := k) (M := N) r hr w m w with ⟨e1, e2⟩ | ⟨e1, e2⟩
      · rw [e1, e2]; rfl
      · rw [e1, e2]
        show V.int N = if m ≤ k - f then V.int N else V.non
        rw [if_pos hm]
    · have e := ih hr m (w + sizeV [.str "text", .str y]) hm
      rw [show w + sizeV [.str "text", .str y] + k = w + k + sizeV [.str "text", .str y] by omega] at e
      exact e
    · have e := ih hr m (w + sizeV [.str "any", .str y]) hm
      rw [show w + sizeV [.str "any", .str y] + k = w + k + sizeV [.str "any", .str y] by omega] at e
      exact e
    · by_cases hc : kd = "copy"
      · unfold needsL stepN
        simp only [if_pos hc]
        by_cases hd : w + k - f < d
        · rw [if_pos hd, if_pos (by omega)]
          rcases needs_mono r hr none (d - w) (w + n) with e | ⟨q, e, hq⟩
          · rw [e]; rfl
          · rw [e]
            show V.non = if q ≤ k - f then V.int N else V.non
            rw [if_neg (by omega)]
        · rw [if_neg hd]
          have e := ih hr (if d - w > m then d - w else m) (w + n) (by split <;> omega)
          rw [show w + n + k = w + k + n by omega] at e
          exact e
      · unfold needsL stepN
        simp only [if_neg hc]
        have e := ih hr m (w + n) hm
        rw [show w + n + k = w + k + n by omega] at e
        exact e
/-- what the law tells of two needs -/
def lawN (n1 n2 : V) (last : Option Int) (len : Int) : V :=
  match n1, n2, last with
  | .int a, .int b, some x => if b ≤ len - x then .int a else .non
  | .int a, .int b, none => if b ≤ a + len then .int a else .int (b - len)
  | _, _, _ => .non
theorem needs_join {z : Str} {ts us : List (List V)} (h : ∀ t ∈ ts, tokV z t = true) (h' : ∀ t ∈ us, tokV z t = true) :
    needsL (ts ++ us) none 0 0 = lawN (needsL ts none 0 0) (needsL us none 0 0) (flushA ts 0 []).getLast? (tsize ts) := by
  have hnn := tsize_nn h
  rw [needsL_app, needsL_run ts]
  cases e : runN ts none 0 0 with
  | none => rfl
  | some s =>
    obtain ⟨fl, N, w⟩ := s
    obtain ⟨rfl, hN, hl⟩ := run_facts ts h none 0 0 fl N w e
    rw [hl [] (Asc.nil (n := 0)) rfl]
    show needsL us fl N (0 + tsize ts) = lawN (.int N) (needsL us none 0 0) fl (tsize ts)
    have h2 := needs_mono us h' none 0 0
    cases fl with
    | none =>
      have q := needs_shiftN (k := tsize ts) (N := N) us h' none 0 0
      rw [if_neg (by omega)] at q
      have q : needsL us none N (0 + tsize ts) = _ := q
      rw [q]
      rcases h2 with e2 | ⟨n, e2, h0⟩
      · rw [e2]; rfl
      · rw [e2]
        show V.int (if n - tsize ts > N then n - tsize ts else N) = if n ≤ N + tsize ts then V.int N else V.int (n - tsize ts)
        by_cases hc : n ≤ N + tsize ts
        · rw [if_pos hc, if_neg (by omega)]
        · rw [if_neg hc, if_pos (by omega)]
    | some x =>
      have hx : x ≤ tsize ts := by
        have hm : x ∈ flushA ts 0 [] := List.mem_of_getLast? (hl [] (Asc.nil (n := 0)) rfl)
        have := flushA_in ts z 0 [] h (by decide) (fun _ h => nomatch h) x hm
        omega
      rw [needs_held us h' 0 0 (by omega)]
      rcases h2 with e2 | ⟨n, e2, h0⟩
      · rw [e2]; rfl
      · rw [e2]; rfl
end KW

/-! Rules for lists of signs, sets of ints, texts that grow. -/
namespace KW
open PySem PySem.Spec PyProof.Rows L2
section
variable {X : Cx}
/-- the signs of a text, as values -/
def sgs (z : Str) : List V := (cl z).map fun c => V.str (sg c)
theorem vals_signs {z : Str} {acc : Array Value} (h : ItemsOf (SignAt z) acc z.cps.size) : Vals (sgs z) acc.toList := by
  have key : ∀ (n : Nat) (l : List Value) (cs : List Nat), cs.length = n → l.length = n → (∀ (j : Nat) (v : Value), l[j]? = some v → ∃ c u, cs[j]? = some c ∧ v = Value.str ⟨#[c]⟩ u) → Vals (cs.map fun c => V.str (sg c)) l := by
    intro n
    induction n with
    | zero =>
      intro l cs h1 h2 _
      cases cs with
      | nil => cases l with
        | nil => exact .nil
        | cons _ _ => cases h2
      | cons _ _ => cases h1
    | succ n ih =>
      intro l cs h1 h2 h3
      cases cs with
      | nil => cases h1
      | cons c cs =>
        cases l with
        | nil => cases h2
        | cons v l =>
          refine .cons ?_ (ih l cs (Nat.succ.inj h1) (Nat.succ.inj h2) fun j v' hv => h3 (j + 1) v' hv)
          obtain ⟨c', u, hc, rfl⟩ := h3 0 v rfl
          cases hc
          exact ⟨u, rfl⟩
  obtain ⟨h1, h2⟩ := h
  refine key z.cps.size _ _ (by simp) (by rw [Array.length_toList]; exact h1) fun j v hv => ?_
  rw [Array.getElem?_toList] at hv
  obtain ⟨c, u, hc, e⟩ := h2 j v hv
  exact ⟨c, u, by rw [Array.getElem?_toList]; exact hc, e⟩
/-- list(s) of a text -/
theorem call_list_sg (hc : X.calm = true) : CallR X (.type "list") (fun xs H Q => ∃ z : Str, xs = [.str z] ∧ z.length ≤ 1000000 ∧ ∀ l, H l = none → Q (.ref l) (upd H l (.lst (sgs z)))) := by
  intro pins s σ H xs us Q I r h
  obtain ⟨z, rfl, hz, q⟩ := h
  obtain ⟨u, rfl, rx⟩ := vals1 r
  obtain ⟨t, rfl⟩ := rx
  have hn : z.cps.size ≤ sizeLine := by
    have : z.cps.size ≤ 1000000 := hz
    rw [sizeLine_eq]; omega
  refine PySem.call_list_str (I.ok.hd hc) z t (fun h' tk acc' c' kp e hi => ?_) hn
  refine ⟨.ref s.heap.objs.size, _, I.laid kp (Nat.le_refl _) (show ObjOk X.prog X.w _ _ _ (.lst (sgs z)) from ⟨?_, acc'.toList, c', vals_signs hi, ?_⟩), rfl, q _ (I.hok.fresh (Nat.le_refl _))⟩
  · show ((cl z).map fun c => V.str (sg c)).length ≤ sizeLine
    rw [List.length_map, cl_len, sizeLine_eq]; omega
  · rw [Array.toArray_toList]; exact e
theorem call_list_ofK {K : PySem.W.Frag} (h : X.K = K) : CallR X (.type "list") (fun xs H Q => ∃ p ys, xs = [.ref p] ∧ (SqL K H p ys ∨ SqT K H p ys) ∧ ∀ l, H l = none → Q (.ref l) (upd H l (.lst ys))) := by subst h; exact call_list_of
/-- a set of ints, by its members alone -/
def SetI (P : Program) (w : World) (a : Addr) (ns : List Int) : HO := .ext fun h => ∃ n, h.SetOf (intKind P w) a (fun k => decide (k ∈ ns)) n
theorem setI_ok {P : Program} {w : World} {H : Hp} {h : Heap} {a : Addr} {ns : List Int} {n : Nat} (S : h.SetOf (intKind P w) a (fun k => decide (k ∈ ns)) n) : ObjOk P w H h a (SetI P w a ns) := by
  have S0 := S
  obtain ⟨o, es, ep, tb, ho, rest⟩ := S
  exact ⟨⟨n, S0⟩, ⟨o, ho⟩, fun h1 h2 p k => by
    obtain ⟨m, o1, es1, ep1, tb1, ho1, r1⟩ := p
    exact ⟨m, o1, es1, ep1, tb1, k _ ho1, r1⟩⟩
theorem firstMet_is (ns : List Int) : (fun k' => (PyProof.Rows.firstMet (fun i => ns.getD i 0) ns.length).any (· == k')) = fun k => decide (k ∈ ns) := by
  funext k
  rw [PyProof.Rows.firstMet_any]
  have e : (List.range ns.length).map (fun i => ns.getD i 0) = ns := by
    refine List.ext_getElem (by simp) fun i h1 h2 => ?_
    simp at h1
    simp [h1]
  rw [e, List.any_beq']
  simp
/-- set(xs) of a list of ints -/
def rSetL (K : PySem.W.Frag) (P : Program) (w : World) : List V → Hp → VK → Prop := fun xs H Q => ∃ (a : Addr) (ns : List Int), xs = [.ref a] ∧ SqL K H a (ns.map V.int) ∧ ns.length ≤ 1000 ∧ ∀ p, H p = none → Q (.ref p) (upd H p (SetI P w p ns))
theorem call_set_ints (hc : X.calm = true) : CallR X (.type "set") (rSetL X.K X.prog X.w) := by
  intro pins s σ H xs us Q I r h
  obtain ⟨a, ns, rfl, ha, hn, q⟩ := h
  obtain ⟨u, rfl, rx⟩ := vals1 r
  obtain rfl : u = Value.ref a := rx
  obtain ⟨its, r', pl, hz⟩ := I.list ha
  have hi := ints_of_vals r'
  have hsz : its.toArray.size = ns.length := by
    have := r'.length
    rw [List.length_map] at this
    rw [List.size_toArray]; omega
  refine PySem.call_set_list (ns := ns) (I.ok.hd hc) pl.isList hi (by unfold scanBound; omega) fun h' tk S k => ?_
  rw [hsz, firstMet_is] at S
  refine ⟨.ref s.heap.objs.size, _, I.laid (fun b o e => k b o (Heap.lt_size e) e) (Nat.le_refl _) (setI_ok S), rfl, q _ (I.hok.fresh (Nat.le_refl _))⟩
def rInSI (P : Program) (w : World) (neg : Bool) : V → V → Hp → VK → Prop := fun x y H Q => ∃ (k : Int) (a : Addr) (ns : List Int), x = V.int k ∧ y = V.ref a ∧ H a = some (SetI P w a ns) ∧ Q (.bl (neg ^^ decide (k ∈ ns))) H
theorem setI_get {pins : List (Addr × Obj)} {σ : L2.St} {H : Hp} {s : Shared} {a : Addr} {ns : List Int} (I : Inv X pins σ H s) (ha : H a = some (SetI X.prog X.w a ns)) : ∃ n, s.heap.SetOf (intKind X.prog X.w) a (fun k => decide (k ∈ ns)) n := by
  have x : ObjOk X.prog X.w H s.heap a (.ext fun h => ∃ n, h.SetOf (intKind X.prog X.w) a (fun k => decide (k ∈ ns)) n) := I.hok a _ ha
  exact x.1
theorem op_inSI : OpR X (compareOp .In) (rInSI X.prog X.w false) := by
  intro pins s σ H x y v u Q I rx ry h
  obtain ⟨k, a, ns, rfl, rfl, ha, q⟩ := h
  obtain ⟨tk, rfl⟩ := rx
  obtain rfl : u = Value.ref a := ry
  obtain ⟨n, S⟩ := setI_get I ha
  rw [Bool.false_xor] at q
  exact wpAny_inSet_of (intKind_is _ _ _ _) rfl S ⟨.bl _, H, I.tok _, rfl, q⟩
theorem op_notInSI : OpR X (compareOp .NotIn) (rInSI X.prog X.w true) := by
  intro pins s σ H x y v u Q I rx ry h
  obtain ⟨k, a, ns, rfl, rfl, ha, q⟩ := h
  obtain ⟨tk, rfl⟩ := rx
  obtain rfl : u = Value.ref a := ry
  obtain ⟨n, S⟩ := setI_get I ha
  rw [Bool.true_xor] at q
  exact wpAny_notInSet_of (intKind_is _ _ _ _) rfl S ⟨.bl _, H, I.tok _, rfl, q⟩
/-- text += text -/
theorem ip_addS : PIp X .Add rAddS := fun pins s σ H x y v u Q I rx ry h => in_addS pins s σ H x y v u Q I rx ry h
end
end KW

/-! Texts as lists of codes: cut, repeated; what a copy writes; readers. -/
namespace KW
open PySem L2
abbrev stL (cs : List Nat) : Str := ⟨cs.toArray⟩
theorem cl_stL (cs : List Nat) : cl (stL cs) = cs := by simp [cl]
theorem stL_cl (z : Str) : stL (cl z) = z := by
  cases z
  simp [cl, stL]
theorem stL_len (cs : List Nat) : (stL cs).length = cs.length := by simp [Str.length]
theorem stL_inj {a b : List Nat} (h : stL a = stL b) : a = b := by rw [← cl_stL a, h, cl_stL]
theorem str_eq {x y : Str} (h : cl x = cl y) : x = y := by rw [← stL_cl x, h, stL_cl]
theorem app_stL (a b : List Nat) : stL a ++ stL b = stL (a ++ b) := by
  refine str_eq ?_
  show ((stL a).cps ++ (stL b).cps).toList = _
  simp [cl]
theorem cut_st (cs : List Nat) (lo hi : Option Int) : cutS (stL cs) lo hi = stL ((cs.drop (HT.sIx cs.length 0 lo)).take (HT.sIx cs.length cs.length hi - HT.sIx cs.length 0 lo)) := by
  unfold cutS
  rw [stL_len]
/-- s[:n] -/
theorem cut_head {cs : List Nat} {n : Int} (h : 0 ≤ n) : cutS (stL cs) none (some n) = stL (cs.take n.toNat) := by
  rw [cut_st]
  have h0 : HT.sIx cs.length 0 none = 0 := rfl
  have h1 : HT.sIx cs.length cs.length (some n) = min n.toNat cs.length := by
    show (if n < 0 then (n + (cs.length : Int)).toNat else min n.toNat cs.length) = _
    rw [if_neg (by omega)]
  rw [h0, h1, List.drop_zero, Nat.sub_zero]
  congr 1
  rw [Nat.min_def]
  split
  · rfl
  · rw [List.take_length, List.take_of_length_le (by omega)]
/-- s[n:] -/
theorem cut_from {cs : List Nat} {n : Int} (h : 0 ≤ n) : cutS (stL cs) (some n) none = stL (cs.drop n.toNat) := by
  rw [cut_st]
  have h0 : HT.sIx cs.length cs.length none = cs.length := rfl
  have h1 : HT.sIx cs.length 0 (some n) = min n.toNat cs.length := by
    show (if n < 0 then (n + (cs.length : Int)).toNat else min n.toNat cs.length) = _
    rw [if_neg (by omega)]
  rw [h0, h1]
  congr 1
  rw [Nat.min_def]
  split
  · rw [List.take_of_length_le (by rw [List.length_drop]; omega)]
  · rw [List.drop_length, List.drop_of_length_le (by omega)]
    simp
/-- s[-n:] -/
theorem cut_end {cs : List Nat} {n : Int} (h : 1 ≤ n) : cutS (stL cs) (some (-n)) none = stL (cs.drop (cs.length - n.toNat)) := by
  rw [cut_st]
  have h0 : HT.sIx cs.length cs.length none = cs.length := rfl
  have h1 : HT.sIx cs.length 0 (some (-n)) = cs.length - n.toNat := by
    show (if -n < 0 then (-n + (cs.length : Int)).toNat else min (-n).toNat cs.length) = _
    rw [if_pos (by omega)]
    omega
  rw [h0, h1]
  congr 1
  rw [List.take_of_length_le (by rw [List.length_drop]; omega)]
theorem fold_rep (x : Array Nat) : ∀ (n : Nat) (l : List Nat), (List.replicate n x).foldl (· ++ ·) l.toArray = (l ++ (List.replicate n x.toList).flatten).toArray
  | 0, l => by simp
  | n + 1, l => by
    have ih := fold_rep x n (l ++ x.toList)
    rw [List.replicate_succ, List.foldl_cons, List.replicate_succ, List.flatten_cons]
    have e : l.toArray ++ x = (l ++ x.toList).toArray := by simp
    rw [e, ih, List.append_assoc]
/-- s * n -/
theorem mul_st {cs : List Nat} {n : Int} : Txt.mul (stL cs) n = stL (List.replicate n.toNat cs).flatten := by
  unfold Txt.mul
  by_cases h : n < 1
  · rw [if_pos h]
    have e : n.toNat = 0 := by omega
    rw [e]
    rfl
  · rw [if_neg h]
    by_cases h2 : (n == 1 || (stL cs).length == 0) = true
    · rw [if_pos h2]
      rw [Bool.or_eq_true] at h2
      rcases h2 with h2 | h2
      · have e : n = 1 := by simpa using h2
        subst e
        simp [stL]
      · rw [stL_len] at h2
        have e : cs = [] := by
          have : cs.length = 0 := by simpa using h2
          exact List.length_eq_zero_iff.mp this
        subst e
        refine congrArg stL ?_
        symm
        rw [List.flatten_eq_nil_iff]
        intro l hl
        exact List.eq_of_mem_replicate hl
    · rw [if_neg h2]
      have e := fold_rep (stL cs).cps n.toNat []
      rw [List.nil_append] at e
      have e2 : (stL cs).cps.toList = cs := by simp [stL]
      rw [e2] at e
      exact congrArg Str.mk e
theorem mulOk_st {cs : List Nat} {n : Int} (h1 : n ≤ 1000) (h2 : cs.length ≤ 1000) (h0 : -1000 ≤ n) : MulOk (stL cs) n := by
  refine ⟨by simp; omega, fun h3 _ => ?_, fun h3 _ => ?_⟩
  · rw [stL_len]
    have : (2 ^ 63 - 1) / n ≥ 1000 := by
      refine (Int.le_ediv_iff_mul_le (by omega)).mpr ?_
      omega
    omega
  · rw [stL_len]
    show Builtin.Str.tooLong _ = false
    unfold Builtin.Str.tooLong
    have : cs.length * n.toNat ≤ 1000 * 1000 := Nat.mul_le_mul h2 (by omega)
    simp
    have hs := sizeLine_eq
    omega
theorem joinL_nil : ∀ ps : List (List Nat), TL.joinL [] ps = ps.flatten
  | [] => rfl
  | [p] => by simp [TL.joinL]
  | p :: q :: ps => by
    have ih := joinL_nil (q :: ps)
    show p ++ ([] ++ TL.joinL [] (q :: ps)) = _
    rw [ih, List.nil_append, List.flatten_cons]
    rfl
theorem join_sts (ps : List (List Nat)) : Txt.join (Str.ofString "") (ps.map stL) = stL ps.flatten := by
  have e : (Str.ofString "") = SX.S [] := by decide +kernel
  have e2 : ps.map stL = ps.map SX.S := rfl
  rw [e, e2, SX.join_S, joinL_nil]
theorem sum_sts (ps : List (List Nat)) : ((ps.map stL).map (·.length)).sum + (ps.map stL).length * (Str.ofString "").length = ps.flatten.length := by
  have e : (Str.ofString "").length = 0 := by decide +kernel
  rw [e, Nat.mul_zero, Nat.add_zero, List.map_map]
  induction ps with
  | nil => rfl
  | cons c cs ih =>
    rw [List.map_cons, List.sum_cons, ih, List.flatten_cons, List.length_append]
    show (stL c).length + _ = _
    rw [stL_len]
/-! ### what a copy writes -/
/-- d back behind a line, n signs, one after another -/
def copyN (line : List Nat) (d : Nat) : Nat → List Nat
  | 0 => []
  | n + 1 => copyN line d n ++ [(line ++ copyN line d n).getD (line.length + n - d) 0]
theorem copyN_len (line : List Nat) (d : Nat) : ∀ n, (copyN line d n).length = n
  | 0 => rfl
  | n + 1 => by
    show (copyN line d n ++ [_]).length = _
    rw [List.length_append, copyN_len line d n]
    rfl
theorem getD_app_left {l m : List Nat} {i : Nat} (h : i < l.length) : (l ++ m).getD i 0 = l.getD i 0 := by
  simp [List.getD_eq_getElem?_getD, List.getElem?_append_left h]
theorem getD_app_right {l m : List Nat} {i : Nat} (h : l.length ≤ i) : (l ++ m).getD i 0 = m.getD (i - l.length) 0 := by
  simp [List.getD_eq_getElem?_getD, List.getElem?_append_right h]
theorem copyN_get {line : List Nat} {d : Nat} (h1 : 1 ≤ d) (h2 : d ≤ line.length) : ∀ n i, i < n → (copyN line d n).getD i 0 = line.getD (line.length - d + i % d) 0 := by
  intro n
  induction n with
  | zero => intro i h; omega
  | succ n ih =>
    intro i hi
    show (copyN line d n ++ [_]).getD i 0 = _
    have hl := copyN_len line d n
    rcases Nat.lt_or_ge i n with h | h
    · rw [getD_app_left (by omega)]
      exact ih i h
    · have e : i = n := by omega
      subst e
      rw [getD_app_right (by omega), hl, Nat.sub_self]
      show (line ++ copyN line d i).getD (line.length + i - d) 0 = _
      rcases Nat.lt_or_ge i d with h3 | h3
      · rw [getD_app_left (by omega), Nat.mod_eq_of_lt h3]
        congr 1
        omega
      · rw [getD_app_right (by omega), show line.length + i - d - line.length = i - d by omega, ih (i - d) (by omega)]
        have : (i - d) % d = i % d := (Nat.mod_eq_sub_mod h3).symm
        rw [this]
theorem flat_get {r : List Nat} : ∀ (n i : Nat), i < n * r.length → ((List.replicate n r).flatten).getD i 0 = r.getD (i % r.length) 0
  | 0, i, h => by omega
  | n + 1, i, h => by
    rw [List.replicate_succ, List.flatten_cons]
    rcases Nat.lt_or_ge i r.length with h1 | h1
    · rw [getD_app_left h1, Nat.mod_eq_of_lt h1]
    · have e : (n + 1) * r.length = n * r.length + r.length := Nat.succ_mul _ _
      rw [getD_app_right h1, flat_get n (i - r.length) (by omega)]
      have : (i - r.length) % r.length = i % r.length := (Nat.mod_eq_sub_mod h1).symm
      rw [this]
theorem flat_len (r : List Nat) : ∀ n : Nat, ((List.replicate n r).flatten).length = n * r.length
  | 0 => by simp
  | n + 1 => by
    rw [List.replicate_succ, List.flatten_cons, List.length_append, flat_len r n, Nat.succ_mul, Nat.add_comm]
theorem ext_getD {l m : List Nat} (h : l.length = m.length) (e : ∀ i, i < l.length → l.getD i 0 = m.getD i 0) : l = m := by
  refine List.ext_getElem h fun i h1 h2 => ?_
  have := e i h1
  simpa [List.getD_eq_getElem?_getD, h1, h2] using this
/-- the ring of the last d signs, n times, cut behind n signs -/
theorem ring_copy {line : List Nat} {d n : Nat} (h1 : 1 ≤ d) (h2 : d ≤ line.length) : ((List.replicate n (line.drop (line.length - d))).flatten).take n = copyN line d n := by
  have hl : (line.drop (line.length - d)).length = d := by rw [List.length_drop]; omega
  have hf := flat_len (line.drop (line.length - d)) n
  rw [hl] at hf
  have hnd : n ≤ n * d := Nat.le_mul_of_pos_right n h1
  refine ext_getD ?_ fun i hi => ?_
  · rw [List.length_take, hf, copyN_len]; omega
  · rw [List.length_take, hf] at hi
    have hin : i < n := by omega
    have e1 : (((List.replicate n (line.drop (line.length - d))).flatten).take n).getD i 0 = ((List.replicate n (line.drop (line.length - d))).flatten).getD i 0 := by
      simp [List.getD_eq_getElem?_getD, List.getElem?_take, hin]
    rw [e1, flat_get n i (by rw [hl]; omega), hl, copyN_get h1 h2 n i hin]
    simp [List.getD_eq_getElem?_getD, List.getElem?_drop]
/-- a copy hangs on the last signs alone -/
theorem copyN_tail {line : List Nat} {d n k : Nat} (h1 : 1 ≤ d) (h2 : d ≤ k) (h3 : k ≤ line.length) : copyN (line.drop (line.length - k)) d n = copyN line d n := by
  have hl : (line.drop (line.length - k)).length = k := by rw [List.length_drop]; omega
  rw [← ring_copy h1 (by omega), ← ring_copy h1 (by omega), hl, List.drop_drop]
  congr 4
  omega
/-- the line with what is copied is any line whose signs stand so -/
theorem copyN_is {L : List Nat} {p d : Nat} (h1 : 1 ≤ d) (h2 : d ≤ p) : ∀ n, p + n ≤ L.length → (∀ i, i < n → L.getD (p + i) 0 = L.getD (p + i - d) 0) → L.take p ++ copyN (L.take p) d n = L.take (p + n)
  | 0, _, _ => by simp [copyN]
  | n + 1, h3, h4 => by
    have ih := copyN_is h1 h2 n (by omega) fun i hi => h4 i (by omega)
    show L.take p ++ (copyN (L.take p) d n ++ [(L.take p ++ copyN (L.take p) d n).getD ((L.take p).length + n - d) 0]) = _
    rw [← List.append_assoc, ih, List.length_take, Nat.min_eq_left (by omega)]
    have e1 : (L.take (p + n)).getD (p + n - d) 0 = L.getD (p + n - d) 0 := by
      have : p + n - d < p + n := by omega
      simp [List.getD_eq_getElem?_getD, List.getElem?_take, this]
    rw [e1, ← h4 n (by omega)]
    have hlt : p + n < L.length := by omega
    rw [← Nat.add_assoc, List.take_add_one, List.getElem?_eq_getElem hlt]
    simp [List.getD_eq_getElem?_getD, hlt]

/-! ### readers -/
/-- the number of signs that a reader keeps behind a token -/
def klT (w kl : Nat) : List V → Nat
  | [.str _] => 0
  | [.str _, .str y] => min w (kl + y.length)
  | [.str _, .int _, .int n] => min w (kl + n.toNat)
  | _ => kl
/-- what a token writes behind a line -/
def textT (line : List Nat) : List V → List Nat
  | [.str _, .str y] => cl y
  | [.str _, .int d, .int n] => copyN line d.toNat n.toNat
  | _ => []
/-- whether so many kept signs are enough for a token -/
def okT (kl : Nat) : List V → Bool
  | [.str _, .int d, .int _] => decide (d ≤ (kl : Int))
  | _ => true
def plainV : List V → Bool
  | .str k :: _ => decide (k = "text" ∨ k = "copy" ∨ k = "flush")
  | _ => false
def klA (w : Nat) : List (List V) → Nat → Nat
  | [], kl => kl
  | t :: ts, kl => klA w ts (klT w kl t)
def textA : List (List V) → List Nat → List Nat
  | [], _ => []
  | t :: ts, line => textT line t ++ textA ts (line ++ textT line t)
def okA (w : Nat) : List (List V) → Nat → Bool
  | [], _ => true
  | t :: ts, kl => okT kl t && okA w ts (klT w kl t)
theorem klA_app (w : Nat) : ∀ (ts us : List (List V)) (kl : Nat), klA w (ts ++ us) kl = klA w us (klA w ts kl)
  | [], _, _ => rfl
  | t :: ts, us, kl => klA_app w ts us (klT w kl t)
theorem textA_app : ∀ (ts us : List (List V)) (line : List Nat), textA (ts ++ us) line = textA ts line ++ textA us (line ++ textA ts line)
  | [], us, line => by simp [textA]
  | t :: ts, us, line => by
    show textT line t ++ textA (ts ++ us) _ = textT line t ++ textA ts _ ++ textA us (line ++ (textT line t ++ textA ts _))
    rw [textA_app ts us, List.append_assoc, List.append_assoc]
theorem okA_app (w : Nat) : ∀ (ts us : List (List V)) (kl : Nat), okA w (ts ++ us) kl = (okA w ts kl && okA w us (klA w ts kl))
  | [], us, kl => by simp [okA, klA]
  | t :: ts, us, kl => by
    show (okT kl t && okA w (ts ++ us) _) = (okT kl t && okA w ts _ && okA w us (klA w ts _))
    rw [okA_app w ts us, Bool.and_assoc]
theorem plain_any {y : V} : plainV [.str "any", y] = false := by
  show decide (("any" : Str) = "text" ∨ ("any" : Str) = "copy" ∨ ("any" : Str) = "flush") = false
  decide +kernel
theorem textT_len {z : Str} {t : List V} {line : List Nat} (h : tokV z t = true) (hp : plainV t = true) : ((textT line t).length : Int) = sizeV t := by
  obtain ⟨kd, rest, rfl, hk⟩ := tok_inv h
  rcases hk with ⟨rfl, rfl⟩ | ⟨y, rfl, rfl, h1, h2, h3⟩ | ⟨y, rfl, rfl, h1⟩ | ⟨d, n, hkd, rfl, h1, h2, h3, h4⟩
  · rfl
  · rw [sizeV_text]
    show ((cl y).length : Int) = _
    rw [cl_len]
  · rw [plain_any] at hp; cases hp
  · have e : sizeV [.str kd, .int d, .int n] = n := by rcases hkd with rfl | rfl <;> rfl
    rw [e]
    show ((copyN line d.toNat n.toNat).length : Int) = n
    rw [copyN_len]
    omega
theorem klT_le {z : Str} {w kl : Nat} {t : List V} (h : tokV z t = true) (hk : kl ≤ w) : klT w kl t ≤ w := by
  obtain ⟨kd, rest, rfl, hk⟩ := tok_inv h
  rcases hk with ⟨rfl, rfl⟩ | ⟨y, rfl, rfl, h1, h2, h3⟩ | ⟨y, rfl, rfl, h1⟩ | ⟨d, n, hkd, rfl, h1, h2, h3, h4⟩
  · exact Nat.zero_le _
  · exact Nat.min_le_left _ _
  · exact Nat.min_le_left _ _
  · exact Nat.min_le_left _ _
theorem klT_line {z : Str} {w kl : Nat} {t : List V} {line : List Nat} (h : tokV z t = true) (hp : plainV t = true) (hk : kl ≤ line.length) : klT w kl t ≤ (line ++ textT line t).length := by
  obtain ⟨kd, rest, rfl, hk⟩ := tok_inv h
  rw [List.length_append]
  rcases hk with ⟨rfl, rfl⟩ | ⟨y, rfl, rfl, h1, h2, h3⟩ | ⟨y, rfl, rfl, h1⟩ | ⟨d, n, hkd, rfl, h1, h2, h3, h4⟩
  · exact Nat.zero_le _
  · show min w (kl + y.length) ≤ line.length + (cl y).length
    rw [cl_len]
    omega
  · rw [plain_any] at hp; cases hp
  · show min w (kl + n.toNat) ≤ line.length + (copyN line d.toNat n.toNat).length
    rw [copyN_len]
    omega
/-- the last kl signs of a line -/
abbrev tl (line : List Nat) (kl : Nat) : List Nat := line.drop (line.length - kl)
theorem tl_len {line : List Nat} {kl : Nat} (h : kl ≤ line.length) : (tl line kl).length = kl := by rw [List.length_drop]; omega
theorem tl_zero (line : List Nat) : tl line 0 = [] := by simp [tl]
/-- what is kept, with more behind it, cut to the last w -/
theorem tl_app {line x : List Nat} {kl w : Nat} (h : kl ≤ line.length) : (tl line kl ++ x).drop ((tl line kl ++ x).length - w) = tl (line ++ x) (min w (kl + x.length)) := by
  have e : line ++ x = line.take (line.length - kl) ++ (tl line kl ++ x) := by
    rw [← List.append_assoc, List.take_append_drop]
  have hl := tl_len h
  have h2 : (line ++ x).length - min w (kl + x.length) = (line.take (line.length - kl)).length + ((tl line kl ++ x).length - w) := by
    rw [List.length_append, List.length_append, hl, List.length_take]
    omega
  show _ = (line ++ x).drop ((line ++ x).length - min w (kl + x.length))
  have e4 : ∀ (A B : List Nat) (n : Nat), (A ++ B).drop (A.length + n) = B.drop n := fun A B n => by simp [List.drop_append]
  rw [h2, e, e4]
/-- a reader's own fields -/
def rdF (z : Str) (w : Int) (l : Addr) (k : Str) : List (Str × V) := putF "_kept" (.str k) (putF "_written" (.ref l) (putF "_width" (.int w) (putF "_signs" (.str z) [])))
theorem nsW : ¬ (("_signs" : Str) = "_width") := by decide +kernel
theorem nsR : ¬ (("_signs" : Str) = "_written") := by decide +kernel
theorem nsK : ¬ (("_signs" : Str) = "_kept") := by decide +kernel
theorem nwR : ¬ (("_width" : Str) = "_written") := by decide +kernel
theorem nwK : ¬ (("_width" : Str) = "_kept") := by decide +kernel
theorem nrK : ¬ (("_written" : Str) = "_kept") := by decide +kernel
theorem rdF_signs (z : Str) (w : Int) (l : Addr) (k : Str) : (rdF z w l k).lookup ("_signs" : Str) = some (.str z) := by
  unfold rdF
  rw [lookup_putF, if_neg nsK, lookup_putF, if_neg nsR, lookup_putF, if_neg nsW, lookup_putF, if_pos rfl]
theorem rdF_width (z : Str) (w : Int) (l : Addr) (k : Str) : (rdF z w l k).lookup ("_width" : Str) = some (.int w) := by
  unfold rdF
  rw [lookup_putF, if_neg nwK, lookup_putF, if_neg nwR, lookup_putF, if_pos rfl]
theorem rdF_written (z : Str) (w : Int) (l : Addr) (k : Str) : (rdF z w l k).lookup ("_written" : Str) = some (.ref l) := by
  unfold rdF
  rw [lookup_putF, if_neg nrK, lookup_putF, if_pos rfl]
theorem rdF_kept (z : Str) (w : Int) (l : Addr) (k : Str) : (rdF z w l k).lookup ("_kept" : Str) = some (.str k) := by
  unfold rdF
  rw [lookup_putF, if_pos rfl]
theorem rdF_no (z : Str) (w : Int) (l : Addr) (k : Str) {m : Str} (h1 : ¬ m = "_signs") (h2 : ¬ m = "_width") (h3 : ¬ m = "_written") (h4 : ¬ m = "_kept") : (rdF z w l k).lookup m = none := by
  unfold rdF
  rw [lookup_putF, if_neg h4, lookup_putF, if_neg h3, lookup_putF, if_neg h2, lookup_putF, if_neg h1]
  rfl
end KW

/-! Exceptions: raised without arguments, let out by callees, their fields behind a call. -/
namespace KW
open PySem PySem.Spec PyProof.Rows L2
/-- the call lets nothing out: what it would raise is wished impossible -/
theorem passF {P : Program} {w : World} {X : Cx} : Passes (L2.CX P w) X (fun _ _ _ => False) := fun _ _ _ _ _ _ _ c => by
  obtain ⟨a, B, H', cls, d, _, _, _, _, _, _, _, z⟩ := c
  exact z.elim
section
variable {X : Cx} {C : Addr} {bmB : List Value} {B newId initId : String}
/-- X() -/
theorem pmk_own0 {x : Str} {p pos : Pos} (F : ExcBaseFacts B newId initId bmB) (q : PySem.W.excIn X.K C bmB newId = true) (gC : X.mg x = some (.ref C)) (kC : PySem.W.keepIn X.K (.ref C) = true) (r : Raises X (.ref C)) (hg : Gl X x)
    (hdb : (x == ("__debug__" : Str)) = false := by decide) : PMk X (.Call (.Name x p) [] [] pos) (fun _ H Q => Q (.ref C) none H) := by
  intro pins s σ H Q I h
  refine wpAny_Call_Name_kw (ld_glob I hg gC ?_ hdb)
  refine PySem.W.callWith_K0 I.kIn kC ?_
  show wpAny _ _ (call (.ref C) []) _ _ _
  obtain ⟨bm, N, nm, qn, bs, hdct, sn, sub, ab, col, dd, k0, k1, k2, k3, k5, mN, hC, hN, hni, T⟩ := exc_obj I.kIn q
  refine wpAny_call_exc_subT F T hC hN hni (fun h' e hm => ?_) (Nat.zero_le _)
  exact mk_of I hm r h (I.hok.gone hm.new)
end
/-- what raise X(x) asks, by what is wished of the raised one -/
theorem raise1 {H : Hp} {C : Addr} {f : Str} {x : V} {E : XK} (hE : ∀ d, H d = none → E (.ref C) (some d) (upd H d (.xd [(f, x)]))) (a : Addr) (ha : H a = none) :
    ∃ (a' : Addr) (x' : V), ([V.ref a, x] : List V) = [.ref a', x'] ∧ upd H a (exo a C none) a' = some (exo a' C none) ∧ ∀ d, (upd H a (exo a C none)) d = none → d ≠ a' →
      (fun (v : V) (H2 : Hp) => v = V.non ∧ ∃ (d' : Addr) (fs : List (Str × V)), H2 a = some (exo a C (some d')) ∧ H2 d' = some (exd d' fs) ∧ H d' = none ∧ E (.ref C) (some d') (upd (del H2 a) d' (.xd fs))) .non
        (upd (upd (upd H a (exo a C none)) d (exd d [(f, x')])) a' (exo a' C (some d))) := by
  refine ⟨a, x, rfl, upd_same, fun d hd ne => ⟨rfl, d, [(f, x)], upd_same, ?_, ?_, ?_⟩⟩
  · rw [upd_ne ne, upd_same]
  · rw [upd_ne ne] at hd; exact hd
  · have hd' : H d = none := by rw [upd_ne ne] at hd; exact hd
    have e : upd (del (upd (upd (upd H a (exo a C none)) d (exd d [(f, x)])) a (exo a C (some d))) a) d (.xd [(f, x)]) = upd H d (.xd [(f, x)]) := by
      funext b
      by_cases hb : b = d
      · subst hb; rw [upd_same, upd_same]
      · rw [upd_ne hb, upd_ne hb]
        by_cases hba : b = a
        · subst hba; rw [del_same, ha]
        · rw [del_ne hba, upd_ne hba, upd_ne hb, upd_ne hba]
    rw [e]
    exact hE d hd'
theorem raise2 {H : Hp} {C : Addr} {f g : Str} {x y : V} {E : XK} (hE : ∀ d, H d = none → E (.ref C) (some d) (upd H d (.xd [(g, y), (f, x)]))) (a : Addr) (ha : H a = none) :
    ∃ (a' : Addr) (x' y' : V), ([V.ref a, x, y] : List V) = [.ref a', x', y'] ∧ upd H a (exo a C none) a' = some (exo a' C none) ∧ ∀ d, (upd H a (exo a C none)) d = none → d ≠ a' →
      (fun (v : V) (H2 : Hp) => v = V.non ∧ ∃ (d' : Addr) (fs : List (Str × V)), H2 a = some (exo a C (some d')) ∧ H2 d' = some (exd d' fs) ∧ H d' = none ∧ E (.ref C) (some d') (upd (del H2 a) d' (.xd fs))) .non
        (upd (upd (upd (upd H a (exo a C none)) d (exd d [(f, x')])) a' (exo a' C (some d))) d (exd d [(g, y'), (f, x')])) := by
  refine ⟨a, x, y, rfl, upd_same, fun d hd ne => ⟨rfl, d, [(g, y), (f, x)], ?_, upd_same, ?_, ?_⟩⟩
  · rw [upd_ne ne.symm, upd_same]
  · rw [upd_ne ne] at hd; exact hd
  · have hd' : H d = none := by rw [upd_ne ne] at hd; exact hd
    have e : upd (del (upd (upd (upd (upd H a (exo a C none)) d (exd d [(f, x)])) a (exo a C (some d))) d (exd d [(g, y), (f, x)])) a) d (.xd [(g, y), (f, x)]) = upd H d (.xd [(g, y), (f, x)]) := by
      funext b
      by_cases hb : b = d
      · subst hb; rw [upd_same, upd_same]
      · rw [upd_ne hb, upd_ne hb]
        by_cases hba : b = a
        · subst hba; rw [del_same, ha]
        · rw [del_ne hba, upd_ne hb, upd_ne hba, upd_ne hb, upd_ne hba]
    rw [e]
    exact hE d hd'
/-- a put again of a reader's kept signs -/
theorem rdF_put (z : Str) (w : Int) (l : Addr) (k k' : Str) : putF "_kept" (.str k') (rdF z w l k) = rdF z w l k' := by
  have n1 : ¬ (("_signs" : Str) = "_kept") := nsK
  have n2 : ¬ (("_width" : Str) = "_kept") := nwK
  have n3 : ¬ (("_written" : Str) = "_kept") := nrK
  have m1 : ¬ (("_signs" : Str) = "_width") := nsW
  have m2 : ¬ (("_signs" : Str) = "_written") := nsR
  have m3 : ¬ (("_width" : Str) = "_written") := nwR
  simp [rdF, putF, n1, n2, n3, m1, m2, m3]
theorem rdF_len (z : Str) (w : Int) (l : Addr) (k : Str) : (rdF z w l k).length < 1000 := by
  have m1 : ¬ (("_signs" : Str) = "_width") := nsW
  have m2 : ¬ (("_signs" : Str) = "_written") := nsR
  have m3 : ¬ (("_width" : Str) = "_written") := nwR
  have n1 : ¬ (("_signs" : Str) = "_kept") := nsK
  have n2 : ¬ (("_width" : Str) = "_kept") := nwK
  have n3 : ¬ (("_written" : Str) = "_kept") := nrK
  simp [rdF, putF, n1, n2, n3, m1, m2, m3]
theorem sgs_stL (cs : List Nat) : sgs (stL cs) = cs.map fun c => V.str (sg c) := by unfold sgs; rw [cl_stL]
theorem textT_text {line : List Nat} {k y : Str} : textT line [.str k, .str y] = cl y := rfl
theorem textT_copy {line : List Nat} {k : Str} {d n : Int} : textT line [.str k, .int d, .int n] = copyN line d.toNat n.toNat := rfl
/-- a reader: its written signs in a list of its own, the last kl of them kept -/
def ReaderAt (C : Addr) (H : Hp) (a l : Addr) (z : Str) (w : Nat) (line : List Nat) (kl : Nat) : Prop :=
  (∃ dx, H a = some (.ins C dx (rdF z w l (stL (tl line kl))))) ∧ H l = some (.lst (line.map fun c => V.str (sg c))) ∧ SignsOk z ∧ 1 ≤ w ∧ w ≤ 12 ∧ kl ≤ w ∧ kl ≤ line.length
theorem ReaderAt.same {C : Addr} {H H' : Hp} {a l : Addr} {z : Str} {w : Nat} {line : List Nat} {kl : Nat} (s : Same H H') (h : ReaderAt C H a l z w line kl) : ReaderAt C H' a l z w line kl := by
  obtain ⟨⟨dx, h1⟩, h2, r⟩ := h
  exact ⟨⟨dx, s _ _ h1⟩, s _ _ h2, r⟩
theorem ReaderAt.ne {C : Addr} {H : Hp} {a l : Addr} {z : Str} {w : Nat} {line : List Nat} {kl : Nat} (h : ReaderAt C H a l z w line kl) : a ≠ l := by
  obtain ⟨⟨dx, h1⟩, h2, r⟩ := h
  intro e
  subst e
  rw [h1] at h2
  cases h2
/-- a plain token whose copy goes back no further than a width -/
def PlainW (w : Nat) (t : List V) : Prop := plainV t = true ∧ ∀ d n, t = [.str "copy", .int d, .int n] → d ≤ (w : Int)
/-- the copy of a token that goes back too far: its distance, what is kept -/
def badT (kl : Nat) : List V → Option (Int × Nat)
  | [.str _, .int d, .int _] => if d ≤ (kl : Int) then none else some (d, kl)
  | _ => none
def badA (w : Nat) : List (List V) → Nat → Option (Int × Nat)
  | [], _ => none
  | t :: ts, kl => match badT kl t with
    | some b => some b
    | none => badA w ts (klT w kl t)
theorem badT_ok {kl : Nat} {t : List V} : okT kl t = true ↔ badT kl t = none := by
  unfold okT badT
  split
  · rw [decide_eq_true_iff]
    split <;> simp_all
  · simp
theorem badT_copy {z : Str} {kl : Nat} {t : List V} {b : Int × Nat} (hok : tokV z t = true) (hp : plainV t = true) (h : badT kl t = some b) : ∃ n : Int, t = [.str "copy", .int b.1, .int n] ∧ b.2 = kl := by
  obtain ⟨kd, rest, rfl, hk⟩ := tok_inv hok
  rcases hk with ⟨rfl, rfl⟩ | ⟨y, rfl, rfl, h1, h2, h3⟩ | ⟨y, rfl, rfl, h1⟩ | ⟨d, n, hkd, rfl, h1, h2, h3, h4⟩
  · cases h
  · cases h
  · cases h
  · rcases hkd with rfl | rfl
    · have h' : (if d ≤ (kl : Int) then none else some (d, kl)) = some b := h
      split at h'
      · cases h'
      · cases h'
        exact ⟨n, rfl, rfl⟩
    · exact absurd (of_decide_eq_true (show decide (("say" : Str) = "text" ∨ ("say" : Str) = "copy" ∨ ("say" : Str) = "flush") = true from hp)) (by decide +kernel)
theorem badA_app (w : Nat) : ∀ (ts us : List (List V)) (kl : Nat), badA w (ts ++ us) kl = match badA w ts kl with | some b => some b | none => badA w us (klA w ts kl)
  | [], _, _ => rfl
  | t :: ts, us, kl => by
    show (match badT kl t with | some b => some b | none => badA w (ts ++ us) (klT w kl t)) = match (match badT kl t with | some b => some b | none => badA w ts (klT w kl t)) with | some b => some b | none => badA w us (klA w ts (klT w kl t))
    cases badT kl t with
    | some b => rfl
    | none => exact badA_app w ts us _
theorem badA_ok (w : Nat) : ∀ (ts : List (List V)) (kl : Nat), okA w ts kl = true ↔ badA w ts kl = none
  | [], _ => by simp [okA, badA]
  | t :: ts, kl => by
    show (okT kl t && okA w ts (klT w kl t)) = true ↔ (match badT kl t with | some b => some b | none => badA w ts (klT w kl t)) = none
    rw [Bool.and_eq_true, badT_ok, badA_ok w ts]
    cases badT kl t with
    | some b => simp
    | none => simp
theorem textA_len {z : Str} : ∀ (ts : List (List V)) (line : List Nat), (∀ t ∈ ts, tokV z t = true ∧ plainV t = true) → ((textA ts line).length : Int) = tsize ts
  | [], _, _ => rfl
  | t :: ts, line, h => by
    show ((textT line t ++ textA ts _).length : Int) = _
    have h1 := textT_len (line := line) (h t List.mem_cons_self).1 (h t List.mem_cons_self).2
    have h2 := textA_len ts (line ++ textT line t) fun u hu => h u (List.mem_cons_of_mem _ hu)
    rw [List.length_append, tsize_cons]
    omega
theorem klA_le {z : Str} {w : Nat} : ∀ (ts : List (List V)) (kl : Nat), (∀ t ∈ ts, tokV z t = true) → kl ≤ w → klA w ts kl ≤ w
  | [], _, _, h => h
  | t :: ts, kl, h, hk => klA_le ts _ (fun u hu => h u (List.mem_cons_of_mem _ hu)) (klT_le (h t List.mem_cons_self) hk)
theorem klA_line {z : Str} {w : Nat} : ∀ (ts : List (List V)) (kl : Nat) (line : List Nat), (∀ t ∈ ts, tokV z t = true ∧ plainV t = true) → kl ≤ line.length → klA w ts kl ≤ (line ++ textA ts line).length
  | [], _, line, _, h => by
    show _ ≤ (line ++ []).length
    rw [List.append_nil]; exact h
  | t :: ts, kl, line, h, hk => by
    have h1 := klA_line (w := w) ts (klT w kl t) (line ++ textT line t) (fun u hu => h u (List.mem_cons_of_mem _ hu)) (klT_line (h t List.mem_cons_self).1 (h t List.mem_cons_self).2 hk)
    show _ ≤ (line ++ (textT line t ++ textA ts (line ++ textT line t))).length
    rw [← List.append_assoc]
    exact h1
theorem klA_take {w : Nat} {ts : List (List V)} {i : Nat} {t : List V} {kl : Nat} (h : ts[i]? = some t) : klA w (ts.take (i + 1)) kl = klT w (klA w (ts.take i) kl) t := by
  rw [take_succ' h, klA_app]; rfl
theorem textA_take {ts : List (List V)} {i : Nat} {t : List V} {line : List Nat} (h : ts[i]? = some t) : textA (ts.take (i + 1)) line = textA (ts.take i) line ++ textT (line ++ textA (ts.take i) line) t := by
  rw [take_succ' h, textA_app]
  show _ ++ (textT _ t ++ textA [] _) = _
  rw [show textA [] (line ++ textA (ts.take i) line ++ textT (line ++ textA (ts.take i) line) t) = [] from rfl, List.append_nil]
theorem badA_take {w : Nat} {ts : List (List V)} {i : Nat} {t : List V} {kl : Nat} (h : ts[i]? = some t) (hb : badA w (ts.take i) kl = none) : badA w (ts.take (i + 1)) kl = badT (klA w (ts.take i) kl) t := by
  rw [take_succ' h, badA_app, hb]
  show (match badT _ t with | some b => some b | none => none) = _
  cases badT (klA w (ts.take i) kl) t <;> rfl
theorem badA_more {w : Nat} {ts : List (List V)} {i : Nat} {kl : Nat} {b : Int × Nat} (hb : badA w (ts.take i) kl = some b) : badA w ts kl = some b := by
  have e := badA_app w (ts.take i) (ts.drop i) kl
  rw [List.take_append_drop, hb] at e
  exact e
end KW

/-! Streams of blocks: what is read, what is spoilt, from where each sign comes. -/
namespace KW
open PySem L2
/-! ### marks -/
def copyM (line : List Bool) (d : Nat) : Nat → List Bool
  | 0 => []
  | n + 1 => copyM line d n ++ [(line ++ copyM line d n).getD (line.length + n - d) false]
theorem copyM_len (line : List Bool) (d : Nat) : ∀ n, (copyM line d n).length = n
  | 0 => rfl
  | n + 1 => by
    show (copyM line d n ++ [_]).length = _
    rw [List.length_append, copyM_len line d n]
    rfl
theorem getB_left {l m : List Bool} {i : Nat} (h : i < l.length) : (l ++ m).getD i false = l.getD i false := by
  simp [List.getD_eq_getElem?_getD, List.getElem?_append_left h]
theorem getB_right {l m : List Bool} {i : Nat} (h : l.length ≤ i) : (l ++ m).getD i false = m.getD (i - l.length) false := by
  simp [List.getD_eq_getElem?_getD, List.getElem?_append_right h]
theorem copyM_step {M : List Bool} {d : Nat} (h1 : 1 ≤ d) (hM : d ≤ M.length) : ∀ n j, j < n → (copyM M d n).getD j false = (M ++ copyM M d n).getD (M.length + j - d) false
  | 0, j, h => by omega
  | n + 1, j, h => by
    have hl := copyM_len M d n
    show (copyM M d n ++ [_]).getD j false = (M ++ (copyM M d n ++ [_])).getD (M.length + j - d) false
    rw [← List.append_assoc]
    rw [getB_left (l := M ++ copyM M d n) (by rw [List.length_append]; omega)]
    rcases Nat.lt_or_ge j n with h2 | h2
    · rw [getB_left (by omega)]
      exact copyM_step h1 hM n j h2
    · have e : j = n := by omega
      subst e
      rw [getB_right (by omega), hl, Nat.sub_self]
      rfl
def mkL (M : List Bool) (W : List Nat) : List Nat := List.zipWith (fun m c => if m = true then 63 else c) M W
theorem mkL_len {M : List Bool} {W : List Nat} (h : M.length = W.length) : (mkL M W).length = W.length := by
  unfold mkL; rw [List.length_zipWith, h, Nat.min_self]
theorem mkL_app {M N : List Bool} {W X : List Nat} (h : M.length = W.length) : mkL (M ++ N) (W ++ X) = mkL M W ++ mkL N X := by
  unfold mkL; exact List.zipWith_append h
theorem mkL_get {M : List Bool} {W : List Nat} {i : Nat} (h : M.length = W.length) (hi : i < W.length) : (mkL M W).getD i 0 = if M.getD i false = true then 63 else W.getD i 0 := by
  have hm : i < M.length := by omega
  unfold mkL
  simp [List.getD_eq_getElem?_getD, List.getElem?_zipWith, hi, hm]
theorem mkL_copy {M : List Bool} {W : List Nat} {d : Nat} (h : M.length = W.length) (h1 : 1 ≤ d) (h2 : d ≤ W.length) : ∀ n, copyN (mkL M W) d n = mkL (copyM M d n) (copyN W d n)
  | 0 => rfl
  | n + 1 => by
    have ih := mkL_copy h h1 h2 n
    have e1 := copyM_len M d n
    have e2 := copyN_len W d n
    show copyN (mkL M W) d n ++ [(mkL M W ++ copyN (mkL M W) d n).getD ((mkL M W).length + n - d) 0] = mkL (copyM M d n ++ [(M ++ copyM M d n).getD (M.length + n - d) false]) (copyN W d n ++ [(W ++ copyN W d n).getD (W.length + n - d) 0])
    rw [mkL_app (by omega), ih, ← mkL_app h, mkL_len h]
    have hl : (M ++ copyM M d n).length = (W ++ copyN W d n).length := by rw [List.length_append, List.length_append]; omega
    rw [mkL_get hl (by rw [List.length_append]; omega), h]
    rfl
def markT (M : List Bool) : List V → List Bool
  | [.str _, .str y] => List.replicate y.length false
  | [.str _, .int d, .int n] => copyM M d.toNat n.toNat
  | _ => []
def markA : List (List V) → List Bool → List Bool
  | [], _ => []
  | t :: ts, M => markT M t ++ markA ts (M ++ markT M t)
theorem mkL_false : ∀ W : List Nat, mkL (List.replicate W.length false) W = W
  | [] => rfl
  | c :: W => by
    have ih := mkL_false W
    unfold mkL at ih ⊢
    rw [List.length_cons, List.replicate_succ, List.zipWith_cons_cons, ih]
    rfl
theorem mkL_true : ∀ W : List Nat, mkL (List.replicate W.length true) W = List.replicate W.length 63
  | [] => rfl
  | c :: W => by
    have ih := mkL_true W
    unfold mkL at ih ⊢
    rw [List.length_cons, List.replicate_succ, List.zipWith_cons_cons, ih]
    rfl
/-- a stream's token, sound behind so many kept signs -/
structure TokW (z : Str) (w : Nat) (t : List V) : Prop where
  ok : tokV z t = true
  pl : PlainW w t
theorem TokW.cases {z : Str} {w : Nat} {t : List V} (h : TokW z w t) : t = [.str "flush"] ∨ (∃ y : Str, t = [.str "text", .str y] ∧ overB z y = true ∧ 1 ≤ y.length ∧ y.length ≤ 40) ∨
    ∃ d n : Int, t = [.str "copy", .int d, .int n] ∧ 1 ≤ d ∧ d ≤ (w : Int) ∧ 1 ≤ n ∧ n ≤ 40 := by
  obtain ⟨hok, hp, hd⟩ := h
  obtain ⟨kd, rest, rfl, hk⟩ := tok_inv hok
  rcases hk with ⟨rfl, rfl⟩ | ⟨y, rfl, rfl, h1, h2, h3⟩ | ⟨y, rfl, rfl, h1⟩ | ⟨d, n, hkd, rfl, h1, h2, h3, h4⟩
  · exact .inl rfl
  · exact .inr (.inl ⟨y, rfl, h1, by omega, by omega⟩)
  · rw [plain_any] at hp; cases hp
  · rcases hkd with rfl | rfl
    · exact .inr (.inr ⟨d, n, rfl, h1, hd d n rfl, h3, h4⟩)
    · exact absurd (of_decide_eq_true (show decide (("say" : Str) = "text" ∨ ("say" : Str) = "copy" ∨ ("say" : Str) = "flush") = true from hp)) (by decide +kernel)
theorem markT_len {z : Str} {w : Nat} {t : List V} {M : List Bool} {W : List Nat} (h : TokW z w t) : (markT M t).length = (textT W t).length := by
  rcases h.cases with rfl | ⟨y, rfl, _⟩ | ⟨d, n, rfl, _⟩
  · rfl
  · show (List.replicate y.length false).length = (cl y).length
    rw [List.length_replicate, cl_len]
  · show (copyM M _ _).length = (copyN W _ _).length
    rw [copyM_len, copyN_len]
theorem mkL_tok {z : Str} {w kl : Nat} {t : List V} {M : List Bool} {W : List Nat} (h : TokW z w t) (hl : M.length = W.length) (hk : kl ≤ W.length) (hb : badT kl t = none) : textT (mkL M W) t = mkL (markT M t) (textT W t) := by
  have hb' := badT_ok.mpr hb
  rcases h.cases with rfl | ⟨y, rfl, _⟩ | ⟨d, n, rfl, h1, _⟩
  · rfl
  · show cl y = mkL (List.replicate y.length false) (cl y)
    rw [← cl_len y, mkL_false]
  · have hd : d ≤ (kl : Int) := of_decide_eq_true hb'
    exact mkL_copy hl (by omega) (by omega) _
theorem mkL_toks {z : Str} {w : Nat} : ∀ (ts : List (List V)) (kl : Nat) (M : List Bool) (W : List Nat), (∀ t ∈ ts, TokW z w t) → M.length = W.length → kl ≤ W.length → badA w ts kl = none →
    textA ts (mkL M W) = mkL (markA ts M) (textA ts W) ∧ (markA ts M).length = (textA ts W).length
  | [], _, _, _, _, _, _, _ => ⟨rfl, rfl⟩
  | t :: ts, kl, M, W, h, hl, hk, hb => by
    have ht := h t List.mem_cons_self
    have hb0 : badT kl t = none := by
      cases e : badT kl t with
      | none => rfl
      | some b =>
        have : badA w (t :: ts) kl = some b := by show (match badT kl t with | some b => some b | none => _) = _; rw [e]
        rw [this] at hb; cases hb
    have hb1 : badA w ts (klT w kl t) = none := by
      have : badA w (t :: ts) kl = badA w ts (klT w kl t) := by show (match badT kl t with | some b => some b | none => badA w ts (klT w kl t)) = _; rw [hb0]
      rw [this] at hb; exact hb
    have e1 := mkL_tok ht hl hk hb0
    have e2 := markT_len (M := M) (W := W) ht
    obtain ⟨i1, i2⟩ := mkL_toks (w := w) ts (klT w kl t) (M ++ markT M t) (W ++ textT W t) (fun u hu => h u (List.mem_cons_of_mem _ hu)) (by rw [List.length_append, List.length_append]; omega) (klT_line ht.ok ht.pl.1 hk) hb1
    constructor
    · show textT (mkL M W) t ++ textA ts (mkL M W ++ textT (mkL M W) t) = mkL (markT M t ++ markA ts (M ++ markT M t)) (textT W t ++ textA ts (W ++ textT W t))
      rw [mkL_app e2, e1, ← mkL_app hl, i1]
    · show (markT M t ++ markA ts _).length = (textT W t ++ textA ts _).length
      rw [List.length_append, List.length_append, e2, i2]
/-- more kept signs are no worse -/
theorem klT_mono {w kl kl' : Nat} {t : List V} (h : kl ≤ kl') : klT w kl t ≤ klT w kl' t := by
  unfold klT
  split <;> omega
theorem badT_mono {kl kl' : Nat} {t : List V} (h : kl ≤ kl') (hb : badT kl t = none) : badT kl' t = none := by
  rw [← badT_ok] at hb ⊢
  unfold okT at hb ⊢
  split
  · simp at hb ⊢; omega
  · rfl
theorem badA_mono {w : Nat} : ∀ (ts : List (List V)) (kl kl' : Nat), kl ≤ kl' → badA w ts kl = none → badA w ts kl' = none ∧ klA w ts kl ≤ klA w ts kl'
  | [], _, _, h, _ => ⟨rfl, h⟩
  | t :: ts, kl, kl', h, hb => by
    have hb0 : badT kl t = none := by
      cases e : badT kl t with
      | none => rfl
      | some b =>
        have : badA w (t :: ts) kl = some b := by show (match badT kl t with | some b => some b | none => _) = _; rw [e]
        rw [this] at hb; cases hb
    have hb1 : badA w ts (klT w kl t) = none := by
      have : badA w (t :: ts) kl = badA w ts (klT w kl t) := by show (match badT kl t with | some b => some b | none => badA w ts (klT w kl t)) = _; rw [hb0]
      rw [this] at hb; exact hb
    have ih := badA_mono ts (klT w kl t) (klT w kl' t) (klT_mono h) hb1
    have e : badA w (t :: ts) kl' = badA w ts (klT w kl' t) := by show (match badT kl' t with | some b => some b | none => badA w ts (klT w kl' t)) = _; rw [badT_mono h hb0]
    exact ⟨by rw [e]; exact ih.1, ih.2⟩
/-! ### blocks -/
/-- the texts of blocks, read one behind the other -/
def textB : List (List (List V)) → List Nat → List (List Nat)
  | [], _ => []
  | b :: bs, W => textA b W :: textB bs (W ++ textA b W)
def badB (w : Nat) : List (List (List V)) → Nat → Option (Int × Nat)
  | [], _ => none
  | b :: bs, kl => match badA w b kl with
    | some x => some x
    | none => badB w bs (klA w b kl)
def klB (w : Nat) : List (List (List V)) → Nat → Nat
  | [], kl => kl
  | b :: bs, kl => klB w bs (klA w b kl)
/-- the texts where some blocks are lost -/
def lossB (w : Nat) (gone : List Int) : Nat → List (List (List V)) → List Nat → Nat → List (List Nat)
  | _, [], _, _ => []
  | i, b :: bs, L, kl => if (i : Int) ∈ gone then List.replicate (tsize b).toNat 63 :: lossB w gone (i + 1) bs (L ++ List.replicate (tsize b).toNat 63) (min w (kl + (tsize b).toNat))
    else textA b L :: lossB w gone (i + 1) bs (L ++ textA b L) (klA w b kl)
/-- nothing of what is not lost is refused -/
def okLoss (w : Nat) (gone : List Int) : Nat → List (List (List V)) → Nat → Prop
  | _, [], _ => True
  | i, b :: bs, kl => if (i : Int) ∈ gone then okLoss w gone (i + 1) bs (min w (kl + (tsize b).toNat)) else badA w b kl = none ∧ okLoss w gone (i + 1) bs (klA w b kl)
def lossT (gone : List Int) : Nat → List (List (List V)) → List Bool → List Nat → List (List Nat)
  | _, [], _, _ => []
  | i, b :: bs, M, W => mkL (if (i : Int) ∈ gone then List.replicate (textA b W).length true else markA b M) (textA b W) ::
      lossT gone (i + 1) bs (M ++ (if (i : Int) ∈ gone then List.replicate (textA b W).length true else markA b M)) (W ++ textA b W)
theorem klA_grow {z : Str} {w : Nat} : ∀ (ts : List (List V)) (kl : Nat), (∀ t ∈ ts, TokW z w t) → kl ≤ w → (klA w ts kl : Int) ≤ min (w : Int) (kl + tsize ts)
  | [], kl, _, h => by show (kl : Int) ≤ min (w : Int) (kl + 0); omega
  | t :: ts, kl, h, hk => by
    have ht := h t List.mem_cons_self
    have ih := klA_grow ts (klT w kl t) (fun u hu => h u (List.mem_cons_of_mem _ hu)) (klT_le ht.ok hk)
    rw [tsize_cons]
    have e : (klT w kl t : Int) ≤ kl + sizeV t := by
      rcases ht.cases with rfl | ⟨y, rfl, _⟩ | ⟨d, n, rfl, h1, h2, h3, h4⟩
      · show ((0 : Nat) : Int) ≤ kl + 0; omega
      · rw [sizeV_text]; show ((min w (kl + y.length) : Nat) : Int) ≤ _; omega
      · show ((min w (kl + n.toNat) : Nat) : Int) ≤ kl + n; omega
    show (klA w ts (klT w kl t) : Int) ≤ _
    omega
theorem loss_is {z : Str} {w : Nat} {gone : List Int} : ∀ (bs : List (List (List V))) (i kl kl' : Nat) (M : List Bool) (W : List Nat), (∀ b ∈ bs, ∀ t ∈ b, TokW z w t) → M.length = W.length → kl ≤ W.length → kl ≤ kl' → kl' ≤ w → badB w bs kl = none →
    lossB w gone i bs (mkL M W) kl' = lossT gone i bs M W ∧ okLoss w gone i bs kl'
  | [], _, _, _, _, _, _, _, _, _, _, _ => ⟨rfl, trivial⟩
  | b :: bs, i, kl, kl', M, W, h, hl, hk, hkk, hkw, hb => by
    have htb := h b List.mem_cons_self
    have hb0 : badA w b kl = none := by
      cases e : badA w b kl with
      | none => rfl
      | some x =>
        have : badB w (b :: bs) kl = some x := by show (match badA w b kl with | some b => some b | none => _) = _; rw [e]
        rw [this] at hb; cases hb
    have hb1 : badB w bs (klA w b kl) = none := by
      have : badB w (b :: bs) kl = badB w bs (klA w b kl) := by show (match badA w b kl with | some b => some b | none => badB w bs (klA w b kl)) = _; rw [hb0]
      rw [this] at hb; exact hb
    have hlen := textA_len (z := z) b W fun t ht => ⟨(htb t ht).ok, (htb t ht).pl.1⟩
    have hkl := klA_line (z := z) (w := w) b kl W (fun t ht => ⟨(htb t ht).ok, (htb t ht).pl.1⟩) hk
    obtain ⟨m1, m2⟩ := mkL_toks (w := w) b kl M W htb hl hk hb0
    have hgr := klA_grow b kl htb (by omega)
    unfold lossB lossT okLoss
    by_cases hg : (i : Int) ∈ gone
    · simp only [if_pos hg]
      have e0 : (tsize b).toNat = (textA b W).length := by omega
      rw [e0]
      have e1 := mkL_true (textA b W)
      obtain ⟨i1, i2⟩ := loss_is (z := z) (w := w) (gone := gone) bs (i + 1) (klA w b kl) (min w (kl' + (textA b W).length)) (M ++ List.replicate (textA b W).length true) (W ++ textA b W) (fun c hc => h c (List.mem_cons_of_mem _ hc))
        (by rw [List.length_append, List.length_append, List.length_replicate]; omega) hkl (by omega) (Nat.min_le_left _ _) hb1
      refine ⟨?_, i2⟩
      rw [e1, ← i1, mkL_app hl, e1]
    · simp only [if_neg hg]
      obtain ⟨g1, g2⟩ := badA_mono b kl kl' hkk hb0
      have gw := klA_le (z := z) (w := w) b kl' (fun t ht => (htb t ht).ok) hkw
      obtain ⟨i1, i2⟩ := loss_is (z := z) (w := w) (gone := gone) bs (i + 1) (klA w b kl) (klA w b kl') (M ++ markA b M) (W ++ textA b W) (fun c hc => h c (List.mem_cons_of_mem _ hc))
        (by rw [List.length_append, List.length_append]; omega) hkl g2 gw hb1
      refine ⟨?_, g1, i2⟩
      rw [m1, ← i1, mkL_app hl]
/-! ### from where each sign comes -/
def backT (i : Int) (p : Nat) : List V → List (Int × Option Nat)
  | [.str _, .str y] => List.replicate y.length (i, none)
  | [.str _, .int d, .int n] => (List.range n.toNat).map fun k => (i, some (p + k - d.toNat))
  | _ => []
def backA (i : Int) : List (List V) → Nat → List (Int × Option Nat)
  | [], _ => []
  | t :: ts, p => backT i p t ++ backA i ts (p + (backT i p t).length)
def backB : Nat → List (List (List V)) → Nat → List (Int × Option Nat)
  | _, [], _ => []
  | i, b :: bs, p => backA i b p ++ backB (i + 1) bs (p + (backA i b p).length)
/-- the marks of blocks -/
def markB (gone : List Int) : Nat → List (List (List V)) → List Bool → List Bool
  | _, [], _ => []
  | i, b :: bs, M => (if (i : Int) ∈ gone then List.replicate (tsize b).toNat true else markA b M) ++ markB gone (i + 1) bs (M ++ (if (i : Int) ∈ gone then List.replicate (tsize b).toNat true else markA b M))
/-- M's marks from p on are as the origins es tell -/
def Told (gone : List Int) (M : List Bool) (p : Nat) (es : List (Int × Option Nat)) : Prop :=
  ∀ j at_ back, es[j]? = some (at_, back) → M.getD (p + j) false = (decide (at_ ∈ gone) || match back with | some b => M.getD b false | none => false)
theorem Told.app {gone : List Int} {M : List Bool} {p : Nat} {es fs : List (Int × Option Nat)} (h : Told gone M p es) (h' : Told gone M (p + es.length) fs) : Told gone M p (es ++ fs) := by
  intro j a b e
  rcases Nat.lt_or_ge j es.length with hj | hj
  · rw [List.getElem?_append_left hj] at e
    exact h j a b e
  · rw [List.getElem?_append_right hj] at e
    have := h' (j - es.length) a b e
    rw [← this]
    congr 1
    omega
theorem backT_len {z : Str} {w : Nat} {t : List V} {i : Int} {p : Nat} {W : List Nat} (h : TokW z w t) : (backT i p t).length = (textT W t).length := by
  rcases h.cases with rfl | ⟨y, rfl, _⟩ | ⟨d, n, rfl, _⟩
  · rfl
  · show (List.replicate y.length _).length = (cl y).length
    rw [List.length_replicate, cl_len]
  · show ((List.range n.toNat).map _).length = (copyN W _ _).length
    rw [List.length_map, List.length_range, copyN_len]
theorem backA_len {z : Str} {w : Nat} {i : Int} : ∀ (ts : List (List V)) (p : Nat) (W : List Nat), (∀ t ∈ ts, TokW z w t) → (backA i ts p).length = (textA ts W).length
  | [], _, _, _ => rfl
  | t :: ts, p, W, h => by
    show (backT i p t ++ backA i ts _).length = (textT W t ++ textA ts _).length
    rw [List.length_append, List.length_append, backT_len (W := W) (h t List.mem_cons_self), backA_len ts _ (W ++ textT W t) fun u hu => h u (List.mem_cons_of_mem _ hu)]
/-- the marks of a token that is not lost are as its origins tell, whatever comes behind -/
theorem told_tok {z : Str} {w kl : Nat} {t : List V} {gone : List Int} {M N : List Bool} {i : Int} (h : TokW z w t) (hi : i ∉ gone) (hk : kl ≤ M.length) (hb : badT kl t = none) : Told gone (M ++ markT M t ++ N) M.length (backT i M.length t) := by
  have hb' := badT_ok.mpr hb
  have hdec : decide (i ∈ gone) = false := decide_eq_false hi
  rcases h.cases with rfl | ⟨y, rfl, _⟩ | ⟨d, n, rfl, h1, _⟩
  · intro j a b e; cases e
  · intro j a b e
    have e' : (List.replicate y.length ((i, none) : Int × Option Nat))[j]? = some (a, b) := e
    obtain ⟨hj, e2⟩ := List.getElem?_eq_some_iff.mp e'
    rw [List.length_replicate] at hj
    rw [List.getElem_replicate] at e2
    cases e2
    show (M ++ List.replicate y.length false ++ N).getD _ _ = (decide (i ∈ gone) || false)
    rw [hdec, List.append_assoc, getB_right (by omega), getB_left (by rw [List.length_replicate]; omega)]
    simp [List.getD_eq_getElem?_getD, List.getElem?_replicate]
    split <;> rfl
  · have hd : d ≤ (kl : Int) := of_decide_eq_true hb'
    intro j a b e
    have e' : ((List.range n.toNat).map fun k => ((i, some (M.length + k - d.toNat)) : Int × Option Nat))[j]? = some (a, b) := e
    rw [List.getElem?_map] at e'
    rcases Nat.lt_or_ge j n.toNat with hj | hj
    · rw [List.getElem?_range hj] at e'
      cases e'
      have hcl := copyM_len M d.toNat n.toNat
      show (M ++ copyM M d.toNat n.toNat ++ N).getD (M.length + j) false = (decide (i ∈ gone) || (M ++ copyM M d.toNat n.toNat ++ N).getD (M.length + j - d.toNat) false)
      rw [hdec, Bool.false_or]
      rw [getB_left (l := M ++ copyM M d.toNat n.toNat) (by rw [List.length_append]; omega), getB_left (l := M ++ copyM M d.toNat n.toNat) (by rw [List.length_append]; omega)]
      rw [getB_right (by omega), show M.length + j - M.length = j by omega]
      exact copyM_step (by omega) (by omega) _ _ hj
    · rw [List.getElem?_eq_none (by rw [List.length_range]; exact hj)] at e'
      cases e'
theorem told_toks {z : Str} {w : Nat} {gone : List Int} {i : Int} (hi : i ∉ gone) : ∀ (ts : List (List V)) (kl : Nat) (M N : List Bool), (∀ t ∈ ts, TokW z w t) → kl ≤ M.length → badA w ts kl = none →
    Told gone (M ++ markA ts M ++ N) M.length (backA i ts M.length)
  | [], _, _, _, _, _, _ => fun j a b e => by cases e
  | t :: ts, kl, M, N, h, hk, hb => by
    have ht := h t List.mem_cons_self
    have hb0 : badT kl t = none := by
      cases e : badT kl t with
      | none => rfl
      | some b =>
        have : badA w (t :: ts) kl = some b := by show (match badT kl t with | some b => some b | none => _) = _; rw [e]
        rw [this] at hb; cases hb
    have hb1 : badA w ts (klT w kl t) = none := by
      have : badA w (t :: ts) kl = badA w ts (klT w kl t) := by show (match badT kl t with | some b => some b | none => badA w ts (klT w kl t)) = _; rw [hb0]
      rw [this] at hb; exact hb
    have hlW : M.length = (List.replicate M.length 0).length := by rw [List.length_replicate]
    have e2 := markT_len (M := M) (W := List.replicate M.length 0) ht
    have e3 := backT_len (i := i) (p := M.length) (W := List.replicate M.length 0) ht
    have hkl := klT_line (w := w) (line := List.replicate M.length 0) ht.ok ht.pl.1 (by rw [List.length_replicate]; exact hk)
    rw [List.length_append, List.length_replicate] at hkl
    have ih := told_toks (w := w) hi ts (klT w kl t) (M ++ markT M t) N (fun u hu => h u (List.mem_cons_of_mem _ hu)) (by rw [List.length_append]; omega) hb1
    have a1 := told_tok (N := markA ts (M ++ markT M t) ++ N) ht hi hk hb0
    show Told gone (M ++ (markT M t ++ markA ts (M ++ markT M t)) ++ N) M.length (backT i M.length t ++ backA i ts (M.length + (backT i M.length t).length))
    have ea : M ++ (markT M t ++ markA ts (M ++ markT M t)) ++ N = M ++ markT M t ++ markA ts (M ++ markT M t) ++ N := by simp [List.append_assoc]
    refine Told.app ?_ ?_
    · have eb : M ++ (markT M t ++ markA ts (M ++ markT M t)) ++ N = M ++ markT M t ++ (markA ts (M ++ markT M t) ++ N) := by simp [List.append_assoc]
      rw [eb]; exact a1
    · rw [ea]
      rw [List.length_append] at ih
      rw [show (backT i M.length t).length = (markT M t).length by omega]
      exact ih
theorem told_blocks {z : Str} {w : Nat} {gone : List Int} : ∀ (bs : List (List (List V))) (i kl : Nat) (M : List Bool), (∀ b ∈ bs, ∀ t ∈ b, TokW z w t) → kl ≤ M.length → badB w bs kl = none →
    Told gone (M ++ markB gone i bs M) M.length (backB i bs M.length) ∧ (backB i bs M.length).length = (markB gone i bs M).length
  | [], _, _, _, _, _, _ => ⟨(fun j a b e => by cases e), rfl⟩
  | b :: bs, i, kl, M, h, hk, hb => by
    have htb := h b List.mem_cons_self
    have hb0 : badA w b kl = none := by
      cases e : badA w b kl with
      | none => rfl
      | some x =>
        have : badB w (b :: bs) kl = some x := by show (match badA w b kl with | some b => some b | none => _) = _; rw [e]
        rw [this] at hb; cases hb
    have hb1 : badB w bs (klA w b kl) = none := by
      have : badB w (b :: bs) kl = badB w bs (klA w b kl) := by show (match badA w b kl with | some b => some b | none => badB w bs (klA w b kl)) = _; rw [hb0]
      rw [this] at hb; exact hb
    have hlen := textA_len (z := z) b (List.replicate M.length 0) fun t ht => ⟨(htb t ht).ok, (htb t ht).pl.1⟩
    have hbl := backA_len (i := (i : Int)) b M.length (List.replicate M.length 0) htb
    have hkl := klA_line (z := z) (w := w) b kl (List.replicate M.length 0) (fun t ht => ⟨(htb t ht).ok, (htb t ht).pl.1⟩) (by rw [List.length_replicate]; exact hk)
    rw [List.length_append, List.length_replicate] at hkl
    obtain ⟨m1, m2⟩ := mkL_toks (w := w) b kl M (List.replicate M.length 0) htb (by rw [List.length_replicate]) (by rw [List.length_replicate]; exact hk) hb0
    have hX : (if (i : Int) ∈ gone then List.replicate (tsize b).toNat true else markA b M).length = (backA (i : Int) b M.length).length := by
      split
      · rw [List.length_replicate]; omega
      · omega
    obtain ⟨i1, i2⟩ := told_blocks (w := w) (gone := gone) bs (i + 1) (klA w b kl) (M ++ (if (i : Int) ∈ gone then List.replicate (tsize b).toNat true else markA b M)) (fun c hc => h c (List.mem_cons_of_mem _ hc)) (by rw [List.length_append]; omega) hb1
    have eM : M ++ markB gone i (b :: bs) M = M ++ (if (i : Int) ∈ gone then List.replicate (tsize b).toNat true else markA b M) ++ markB gone (i + 1) bs (M ++ (if (i : Int) ∈ gone then List.replicate (tsize b).toNat true else markA b M)) := by
      rw [List.append_assoc]; rfl
    rw [List.length_append, hX] at i1 i2
    constructor
    · rw [eM]
      show Told gone _ M.length (backA i b M.length ++ backB (i + 1) bs (M.length + (backA (i : Int) b M.length).length))
      refine Told.app ?_ i1
      by_cases hg : (i : Int) ∈ gone
      · intro j a bk e
        have ha : a = (i : Int) := by
          have key : ∀ (ts : List (List V)) (p : Nat), ∀ x ∈ backA (i : Int) ts p, x.1 = (i : Int) := by
            intro ts
            induction ts with
            | nil => intro p x hx; cases hx
            | cons t ts ih =>
              intro p x hx
              rcases List.mem_append.mp (show x ∈ backT (i : Int) p t ++ backA (i : Int) ts _ from hx) with hx | hx
              · unfold backT at hx
                split at hx
                · rw [List.eq_of_mem_replicate hx]
                · obtain ⟨k, _, rfl⟩ := List.mem_map.mp hx; rfl
                · cases hx
              · exact ih _ x hx
          exact key b M.length _ (List.mem_of_getElem? e)
        subst ha
        have hj := (List.getElem?_eq_some_iff.mp e).1
        rw [decide_eq_true hg, Bool.true_or, List.append_assoc, getB_right (by omega)]
        simp only [if_pos hg] at hX ⊢
        rw [getB_left (by omega)]
        rw [List.length_replicate] at hX
        have : M.length + j - M.length < (tsize b).toNat := by omega
        rw [List.getD_eq_getElem?_getD, List.getElem?_replicate, if_pos this]
        rfl
      · simp only [if_neg hg]
        exact told_toks hg b kl M _ htb hk hb0
    · show (backA (i : Int) b M.length ++ backB (i + 1) bs (M.length + (backA (i : Int) b M.length).length)).length = (_ ++ markB gone (i + 1) bs _).length
      rw [List.length_append, List.length_append, i2, hX]
/-! ### texts cut at the blocks' ends -/
def splitB : List Nat → List Nat → List (List Nat)
  | [], _ => []
  | s :: ss, L => L.take s :: splitB ss (L.drop s)
def ownr : List Nat → Nat → Nat
  | [], _ => 0
  | s :: ss, k => if k < s then 0 else ownr ss (k - s) + 1
theorem splitB_len : ∀ (ss : List Nat) (L : List Nat), (splitB ss L).length = ss.length
  | [], _ => rfl
  | s :: ss, L => by
    show (L.take s :: splitB ss _).length = _
    rw [List.length_cons, splitB_len ss, List.length_cons]
theorem splitB_snoc : ∀ (ss : List Nat) (l : List Nat) (x : Nat), l.length < ss.sum → ∃ y, (splitB ss l)[ownr ss l.length]? = some y ∧ splitB ss (l ++ [x]) = (splitB ss l).set (ownr ss l.length) (y ++ [x]) ∧ y.length ≤ l.length
  | [], l, x, h => by simp at h
  | s :: ss, l, x, h => by
    rw [List.sum_cons] at h
    unfold ownr
    by_cases hs : l.length < s
    · rw [if_pos hs]
      refine ⟨l.take s, rfl, ?_, by rw [List.length_take]; omega⟩
      show (l ++ [x]).take s :: splitB ss ((l ++ [x]).drop s) = (l.take s ++ [x]) :: splitB ss (l.drop s)
      rw [List.take_of_length_le (l := l ++ [x]) (by rw [List.length_append, List.length_singleton]; omega), List.take_of_length_le (l := l) (by omega), List.drop_of_length_le (l := l ++ [x]) (by rw [List.length_append, List.length_singleton]; omega), List.drop_of_length_le (l := l) (by omega)]
    · rw [if_neg hs]
      have hd : (l.drop s).length = l.length - s := List.length_drop
      obtain ⟨y, e1, e2, e3⟩ := splitB_snoc ss (l.drop s) x (by omega)
      rw [hd] at e1 e2 e3
      refine ⟨y, e1, ?_, by omega⟩
      show (l ++ [x]).take s :: splitB ss ((l ++ [x]).drop s) = l.take s :: (splitB ss (l.drop s)).set (ownr ss (l.length - s)) (y ++ [x])
      rw [List.take_append_of_le_length (by omega), List.drop_append_of_le_length (by omega), e2]
theorem splitB_nil : ∀ ss : List Nat, splitB ss [] = List.replicate ss.length []
  | [] => rfl
  | s :: ss => by
    show ([] : List Nat).take s :: splitB ss (([] : List Nat).drop s) = _
    rw [List.drop_nil, List.take_nil, splitB_nil ss]
    rfl
theorem ownr_lt : ∀ (ss : List Nat) (k : Nat), k < ss.sum → ownr ss k < ss.length
  | [], k, h => by simp at h
  | s :: ss, k, h => by
    rw [List.sum_cons] at h
    unfold ownr
    rw [List.length_cons]
    split
    · omega
    · have := ownr_lt ss (k - s) (by omega)
      omega
theorem splitB_app : ∀ (x L : List Nat) (ss : List Nat), splitB (x.length :: ss) (x ++ L) = x :: splitB ss L := fun x L ss => by
  show (x ++ L).take x.length :: splitB ss ((x ++ L).drop x.length) = _
  rw [List.take_left, List.drop_left]
abbrev sizesB (bs : List (List (List V))) : List Nat := bs.map fun b => (tsize b).toNat
theorem lossT_split {z : Str} {w : Nat} {gone : List Int} : ∀ (bs : List (List (List V))) (i kl : Nat) (M : List Bool) (W : List Nat), (∀ b ∈ bs, ∀ t ∈ b, TokW z w t) → M.length = W.length → kl ≤ W.length → badB w bs kl = none →
    lossT gone i bs M W = splitB (sizesB bs) (mkL (markB gone i bs M) (textB bs W).flatten) ∧ (markB gone i bs M).length = (textB bs W).flatten.length ∧ ((textB bs W).flatten.length = (sizesB bs).sum)
  | [], _, _, _, _, _, _, _, _ => ⟨rfl, rfl, rfl⟩
  | b :: bs, i, kl, M, W, h, hl, hk, hb => by
    have htb := h b List.mem_cons_self
    have hb0 : badA w b kl = none := by
      cases e : badA w b kl with
      | none => rfl
      | some x =>
        have : badB w (b :: bs) kl = some x := by show (match badA w b kl with | some b => some b | none => _) = _; rw [e]
        rw [this] at hb; cases hb
    have hb1 : badB w bs (klA w b kl) = none := by
      have : badB w (b :: bs) kl = badB w bs (klA w b kl) := by show (match badA w b kl with | some b => some b | none => badB w bs (klA w b kl)) = _; rw [hb0]
      rw [this] at hb; exact hb
    have hlen := textA_len (z := z) b W fun t ht => ⟨(htb t ht).ok, (htb t ht).pl.1⟩
    have hkl := klA_line (z := z) (w := w) b kl W (fun t ht => ⟨(htb t ht).ok, (htb t ht).pl.1⟩) hk
    obtain ⟨m1, m2⟩ := mkL_toks (w := w) b kl M W htb hl hk hb0
    have e0 : (tsize b).toNat = (textA b W).length := by omega
    have hX : (if (i : Int) ∈ gone then List.replicate (textA b W).length true else markA b M).length = (textA b W).length := by
      split
      · rw [List.length_replicate]
      · omega
    obtain ⟨i1, i2, i3⟩ := lossT_split (z := z) (w := w) (gone := gone) bs (i + 1) (klA w b kl) (M ++ (if (i : Int) ∈ gone then List.replicate (textA b W).length true else markA b M)) (W ++ textA b W) (fun c hc => h c (List.mem_cons_of_mem _ hc))
      (by rw [List.length_append, List.length_append]; omega) hkl hb1
    have eB : markB gone i (b :: bs) M = (if (i : Int) ∈ gone then List.replicate (textA b W).length true else markA b M) ++ markB gone (i + 1) bs (M ++ (if (i : Int) ∈ gone then List.replicate (textA b W).length true else markA b M)) := by
      rw [← e0]; rfl
    have eT : (textB (b :: bs) W).flatten = textA b W ++ (textB bs (W ++ textA b W)).flatten := rfl
    refine ⟨?_, ?_, ?_⟩
    · rw [eB, eT, mkL_app hX]
      show mkL _ (textA b W) :: lossT gone (i + 1) bs _ _ = splitB ((tsize b).toNat :: sizesB bs) _
      rw [i1, e0, ← splitB_app, mkL_len hX]
    · rw [eB, eT, List.length_append, List.length_append, i2, hX]
    · rw [eT, List.length_append, i3]
      show _ = ((tsize b).toNat :: sizesB bs).sum
      rw [List.sum_cons, e0]
theorem backA_own {i : Int} : ∀ (ts : List (List V)) (p : Nat), ∀ x ∈ backA i ts p, x.1 = i := by
  intro ts
  induction ts with
  | nil => intro p x hx; cases hx
  | cons t ts ih =>
    intro p x hx
    rcases List.mem_append.mp (show x ∈ backT i p t ++ backA i ts _ from hx) with hx | hx
    · unfold backT at hx
      split at hx
      · rw [List.eq_of_mem_replicate hx]
      · obtain ⟨k, _, rfl⟩ := List.mem_map.mp hx; rfl
      · cases hx
    · exact ih _ x hx
theorem back_own {z : Str} {w : Nat} : ∀ (bs : List (List (List V))) (i p k : Nat) (a : Int) (b : Option Nat), (∀ b ∈ bs, ∀ t ∈ b, TokW z w t) → (backB i bs p)[k]? = some (a, b) → a = (i : Int) + (ownr (sizesB bs) k : Nat)
  | [], _, _, _, _, _, _, e => by cases e
  | c :: bs, i, p, k, a, b, h, e => by
    have htb := h c List.mem_cons_self
    have hlen := textA_len (z := z) c [] fun t ht => ⟨(htb t ht).ok, (htb t ht).pl.1⟩
    have hbl := backA_len (i := (i : Int)) c p [] htb
    have e' : (backA (i : Int) c p ++ backB (i + 1) bs (p + (backA (i : Int) c p).length))[k]? = some (a, b) := e
    show a = (i : Int) + (ownr ((tsize c).toNat :: sizesB bs) k : Nat)
    unfold ownr
    by_cases hk : k < (tsize c).toNat
    · rw [if_pos hk]
      rw [List.getElem?_append_left (by omega)] at e'
      have := backA_own c p _ (List.mem_of_getElem? e')
      simpa using this
    · rw [if_neg hk]
      rw [List.getElem?_append_right (by omega)] at e'
      have := back_own bs (i + 1) _ _ a b (fun c' hc => h c' (List.mem_cons_of_mem _ hc)) e'
      rw [this, show k - (backA (i : Int) c p).length = k - (tsize c).toNat by omega]
      omega
theorem back_len {z : Str} {w : Nat} : ∀ (bs : List (List (List V))) (i p : Nat), (∀ b ∈ bs, ∀ t ∈ b, TokW z w t) → (backB i bs p).length = (sizesB bs).sum
  | [], _, _, _ => rfl
  | c :: bs, i, p, h => by
    have htb := h c List.mem_cons_self
    have hlen := textA_len (z := z) c [] fun t ht => ⟨(htb t ht).ok, (htb t ht).pl.1⟩
    have hbl := backA_len (i := (i : Int)) c p [] htb
    show (backA (i : Int) c p ++ backB (i + 1) bs _).length = ((tsize c).toNat :: sizesB bs).sum
    rw [List.length_append, List.sum_cons, back_len bs _ _ fun c' hc => h c' (List.mem_cons_of_mem _ hc)]
    omega
/-! ### blocks on the heap -/
def BlkAt (K : PySem.W.Frag) (H : Hp) (z : Str) (v : V) (ts : List (List V)) : Prop := ∃ (a : Addr) (tvs : List V), v = .ref a ∧ H a = some (.lst tvs) ∧ Toks K H z tvs ts
abbrev Blks (K : PySem.W.Frag) (H : Hp) (z : Str) : List V → List (List (List V)) → Prop := Paired (BlkAt K H z)
theorem BlkAt.same {K : PySem.W.Frag} {H H' : Hp} {z : Str} {v : V} {ts : List (List V)} (s : Same H H') (h : BlkAt K H z v ts) : BlkAt K H' z v ts := by
  obtain ⟨a, tvs, rfl, ha, ht⟩ := h
  exact ⟨a, tvs, rfl, s _ _ ha, ht.same s⟩
theorem Blks.same {K : PySem.W.Frag} {H H' : Hp} {z : Str} {vs : List V} {bs : List (List (List V))} (s : Same H H') (h : Blks K H z vs bs) : Blks K H' z vs bs := paired_mono h fun _ _ x => x.same s
theorem BlkAt.bag {K : PySem.W.Frag} {H H' : Hp} {b c : Addr} {z : Str} {v : V} {ts : List (List V)} (k : KeepB b H H') (hb : BagAt H b c) (h : BlkAt K H z v ts) : BlkAt K H' z v ts := by
  obtain ⟨a, tvs, rfl, ha, ht⟩ := h
  exact ⟨a, tvs, rfl, k _ _ (ne_bag hb ha (toks_no ht)) ha, ht.keep k hb.lst⟩
theorem Blks.bag {K : PySem.W.Frag} {H H' : Hp} {b c : Addr} {z : Str} {vs : List V} {bs : List (List (List V))} (k : KeepB b H H') (hb : BagAt H b c) (h : Blks K H z vs bs) : Blks K H' z vs bs := paired_mono h fun _ _ x => x.bag k hb
theorem blks_no {K : PySem.W.Frag} {H : Hp} {z : Str} {vs : List V} {bs : List (List (List V))} {c : Addr} (h : Blks K H z vs bs) : ∀ p q n : Int, vs ≠ [.int p, .int q, .int n, .ref c] := by
  intro p q n e
  subst e
  cases h with
  | cons h1 _ =>
    obtain ⟨a, tvs, e, _⟩ := h1
    cases e
/-- all but a fresh object's writes keep what stood -/
theorem Same.keep2 {H0 H H' : Hp} {a l : Addr} (s : Same H0 H) (k : Keep2 a l H H') (ha : H0 a = none) (hl : H0 l = none) : Same H0 H' := fun b o e => k b o (fun z => by subst z; rw [ha] at e; cases e) (fun z => by subst z; rw [hl] at e; cases e) (s b o e)
theorem Same.keepB {H0 H H' : Hp} {a : Addr} (s : Same H0 H) (k : KeepB a H H') (ha : H0 a = none) : Same H0 H' := fun b o e => k b o (fun z => by subst z; rw [ha] at e; cases e) (s b o e)
theorem plain_text {y : V} : plainV [.str "text", y] = true := by
  show decide (("text" : Str) = "text" ∨ ("text" : Str) = "copy" ∨ ("text" : Str) = "flush") = true
  decide +kernel
theorem plain_copy {x y : V} : plainV [.str "copy", x, y] = true := by
  show decide (("copy" : Str) = "text" ∨ ("copy" : Str) = "copy" ∨ ("copy" : Str) = "flush") = true
  decide +kernel
theorem plain_flush : plainV [.str "flush"] = true := by
  show decide (("flush" : Str) = "text" ∨ ("flush" : Str) = "copy" ∨ ("flush" : Str) = "flush") = true
  decide +kernel
theorem TokW.flush {z : Str} {w : Nat} : TokW z w [.str "flush"] := ⟨tok_flush, plain_flush, fun d n e => by cases e⟩
theorem TokW.text {z y : Str} {w : Nat} (h1 : overB z y = true) (h2 : 1 ≤ y.length) (h3 : y.length ≤ 40) : TokW z w [.str "text", .str y] := ⟨tok_text h1 h2 h3, plain_text, fun d n e => by cases e⟩
theorem TokW.copy {z : Str} {w : Nat} {d n : Int} (h1 : 1 ≤ d) (h2 : d ≤ (w : Int)) (hw : w ≤ 12) (h3 : 1 ≤ n) (h4 : n ≤ 40) : TokW z w [.str "copy", .int d, .int n] := ⟨tok_copy h1 (by omega) h3 h4, plain_copy, fun d' n' e => by cases e; exact h2⟩
theorem KeepB.fresh {b D : Addr} {H H' : Hp} {o : HO} (k : KeepB b H H') (h : H D = none) : KeepB b H (upd H' D o) := fun a u n e => by
  rw [upd_ne (ne_of_none e h)]; exact k a u n e
theorem Same.fresh {D : Addr} {H H' : Hp} {o : HO} (k : Same H H') (h : H D = none) : Same H (upd H' D o) := fun a u e => by
  rw [upd_ne (ne_of_none e h)]; exact k a u e
theorem badB_snoc (w : Nat) : ∀ (bs : List (List (List V))) (b : List (List V)) (kl : Nat), badB w bs kl = none → badB w (bs ++ [b]) kl = badA w b (klB w bs kl)
  | [], b, kl, _ => by
    show (match badA w b kl with | some x => some x | none => none) = badA w b kl
    cases badA w b kl <;> rfl
  | c :: bs, b, kl, h => by
    have h0 : badA w c kl = none := by
      cases e : badA w c kl with
      | none => rfl
      | some x =>
        have : badB w (c :: bs) kl = some x := by show (match badA w c kl with | some b => some b | none => _) = _; rw [e]
        rw [this] at h; cases h
    have e1 : ∀ ds : List (List (List V)), badB w (c :: ds) kl = badB w ds (klA w c kl) := fun ds => by
      show (match badA w c kl with | some b => some b | none => badB w ds (klA w c kl)) = _
      rw [h0]
    show badB w (c :: (bs ++ [b])) kl = _
    rw [e1] at h ⊢
    exact badB_snoc w bs b _ h
theorem klB_snoc (w : Nat) : ∀ (bs : List (List (List V))) (b : List (List V)) (kl : Nat), klB w (bs ++ [b]) kl = klA w b (klB w bs kl)
  | [], b, kl => rfl
  | c :: bs, b, kl => klB_snoc w bs b (klA w c kl)
theorem klB_le {z : Str} {w : Nat} : ∀ (bs : List (List (List V))) (kl : Nat), (∀ b ∈ bs, ∀ t ∈ b, TokW z w t) → kl ≤ w → klB w bs kl ≤ w
  | [], _, _, h => h
  | c :: bs, kl, h, hk => klB_le bs _ (fun b hb => h b (List.mem_cons_of_mem _ hb)) (klA_le (z := z) c kl (fun t ht => (h c List.mem_cons_self t ht).ok) hk)
/-- a list of blocks put elsewhere -/
theorem Blks.put {K : PySem.W.Frag} {H : Hp} {z : Str} {D : Addr} {xs ys : List V} {vs : List V} {bs : List (List (List V))} (hD : H D = some (.lst xs)) (hv : ∀ v ∈ vs, v ≠ V.ref D) (h : Blks K H z vs bs) : Blks K (upd H D (.lst ys)) z vs bs := by
  induction h with
  | nil => exact .nil
  | cons h1 h2 ih =>
    refine .cons ?_ (ih fun v hv' => hv v (List.mem_cons_of_mem _ hv'))
    obtain ⟨a, tvs, rfl, ha, ht⟩ := h1
    have na : a ≠ D := fun e => hv _ List.mem_cons_self (by rw [e])
    exact ⟨a, tvs, rfl, by rw [upd_ne na]; exact ha, Toks.keep KeepB.put (lst_lst hD) ht⟩
theorem textB_snoc : ∀ (bs : List (List (List V))) (b : List (List V)) (W : List Nat), textB (bs ++ [b]) W = textB bs W ++ [textA b (W ++ (textB bs W).flatten)]
  | [], b, W => by
    show [textA b W] = [] ++ [textA b (W ++ [])]
    rw [List.append_nil]; rfl
  | c :: bs, b, W => by
    show textA c W :: textB (bs ++ [b]) _ = textA c W :: textB bs _ ++ [textA b (W ++ (textA c W ++ (textB bs _).flatten))]
    rw [textB_snoc bs b, List.append_assoc]
    rfl
theorem badB_some {w : Nat} : ∀ (bs : List (List (List V))) (i kl : Nat) (b : List (List V)), bs[i]? = some b → badB w bs kl = none → badA w b (klB w (bs.take i) kl) = none ∧ badB w (bs.take i) kl = none
  | [], _, _, _, h, _ => by cases h
  | c :: bs, i, kl, b, h, hb => by
    have h0 : badA w c kl = none := by
      cases e : badA w c kl with
      | none => rfl
      | some x =>
        have : badB w (c :: bs) kl = some x := by show (match badA w c kl with | some b => some b | none => _) = _; rw [e]
        rw [this] at hb; cases hb
    have e1 : ∀ ds : List (List (List V)), badB w (c :: ds) kl = badB w ds (klA w c kl) := fun ds => by
      show (match badA w c kl with | some b => some b | none => badB w ds (klA w c kl)) = _
      rw [h0]
    cases i with
    | zero => cases h; exact ⟨h0, rfl⟩
    | succ i =>
      rw [e1] at hb
      have ih := badB_some (w := w) bs i (klA w c kl) b h hb
      refine ⟨ih.1, ?_⟩
      show badB w (c :: bs.take i) kl = none
      rw [e1]; exact ih.2
theorem textB_flat_len {z : Str} {w : Nat} : ∀ (bs : List (List (List V))) (W : List Nat), (∀ b ∈ bs, ∀ t ∈ b, TokW z w t) → ((textB bs W).flatten.length : Int) = (bs.map tsize).sum
  | [], _, _ => rfl
  | c :: bs, W, h => by
    have h1 := textA_len (z := z) c W fun t ht => ⟨(h c List.mem_cons_self t ht).ok, (h c List.mem_cons_self t ht).pl.1⟩
    have h2 := textB_flat_len (z := z) (w := w) bs (W ++ textA c W) fun b hb => h b (List.mem_cons_of_mem _ hb)
    show ((textA c W ++ (textB bs _).flatten).length : Int) = (tsize c :: bs.map tsize).sum
    rw [List.length_append, List.sum_cons, ← h2, ← h1]
    omega
theorem sum_le {bs : List (List (List V))} {m : Int} (h : ∀ b ∈ bs, tsize b ≤ m) (hm : 0 ≤ m) : (bs.map tsize).sum ≤ m * bs.length := by
  induction bs with
  | nil => simp
  | cons c bs ih =>
    have h1 := h c List.mem_cons_self
    have h2 := ih fun b hb => h b (List.mem_cons_of_mem _ hb)
    rw [List.map_cons, List.sum_cons, List.length_cons]
    have e : m * ((bs.length + 1 : Nat) : Int) = m * bs.length + m := by
      rw [Int.natCast_add, Int.mul_add]
      show _ + m * 1 = _
      rw [Int.mul_one]
    omega
theorem textB_len : ∀ (bs : List (List (List V))) (W : List Nat), (textB bs W).length = bs.length
  | [], _ => rfl
  | c :: bs, W => by
    show (textB bs _).length + 1 = _
    rw [textB_len bs, List.length_cons]
theorem backA_snoc (i : Int) : ∀ (ts : List (List V)) (t : List V) (p : Nat), backA i (ts ++ [t]) p = backA i ts p ++ backT i (p + (backA i ts p).length) t
  | [], t, p => by
    show backT i p t ++ [] = [] ++ backT i (p + 0) t
    rw [List.append_nil, List.nil_append, Nat.add_zero]
  | u :: ts, t, p => by
    show backT i p u ++ backA i (ts ++ [t]) _ = (backT i p u ++ backA i ts _) ++ _
    rw [backA_snoc i ts t, List.append_assoc]
    congr 3
    show _ = p + (backT i p u ++ backA i ts _).length
    rw [List.length_append, Nat.add_assoc]
theorem backB_snoc : ∀ (bs : List (List (List V))) (b : List (List V)) (i p : Nat), backB i (bs ++ [b]) p = backB i bs p ++ backA ((i + bs.length : Nat) : Int) b (p + (backB i bs p).length)
  | [], b, i, p => by
    show backA i b p ++ [] = [] ++ backA ((i + 0 : Nat) : Int) b (p + 0)
    rw [List.append_nil, List.nil_append, Nat.add_zero, Nat.add_zero]
  | c :: bs, b, i, p => by
    show backA i c p ++ backB (i + 1) (bs ++ [b]) _ = (backA i c p ++ backB (i + 1) bs _) ++ _
    rw [backB_snoc bs b, List.append_assoc]
    have e1 : i + 1 + bs.length = i + (c :: bs).length := by rw [List.length_cons]; omega
    have e2 : p + (backA (i : Int) c p).length + (backB (i + 1) bs (p + (backA (i : Int) c p).length)).length = p + (backB i (c :: bs) p).length := by
      show _ = p + (backA (i : Int) c p ++ backB (i + 1) bs (p + (backA (i : Int) c p).length)).length
      rw [List.length_append, Nat.add_assoc]
    rw [e1, e2]
theorem backT_le {z : Str} {w : Nat} {t : List V} {i : Int} {p : Nat} (h : TokW z w t) : ((backT i p t).length : Int) = sizeV t := by
  rw [backT_len (W := []) h]
  exact textT_len h.ok h.pl.1
theorem badA_cons {w : Nat} {t : List V} {ts : List (List V)} {kl : Nat} (hb : badA w (t :: ts) kl = none) : badT kl t = none ∧ badA w ts (klT w kl t) = none := by
  have hb0 : badT kl t = none := by
    cases e : badT kl t with
    | none => rfl
    | some b =>
      have : badA w (t :: ts) kl = some b := by show (match badT kl t with | some b => some b | none => _) = _; rw [e]
      rw [this] at hb; cases hb
  have : badA w (t :: ts) kl = badA w ts (klT w kl t) := by show (match badT kl t with | some b => some b | none => badA w ts (klT w kl t)) = _; rw [hb0]
  rw [this] at hb
  exact ⟨hb0, hb⟩
theorem badB_cons {w : Nat} {b : List (List V)} {bs : List (List (List V))} {kl : Nat} (hb : badB w (b :: bs) kl = none) : badA w b kl = none ∧ badB w bs (klA w b kl) = none := by
  have hb0 : badA w b kl = none := by
    cases e : badA w b kl with
    | none => rfl
    | some x =>
      have : badB w (b :: bs) kl = some x := by show (match badA w b kl with | some b => some b | none => _) = _; rw [e]
      rw [this] at hb; cases hb
  have : badB w (b :: bs) kl = badB w bs (klA w b kl) := by show (match badA w b kl with | some b => some b | none => badB w bs (klA w b kl)) = _; rw [hb0]
  rw [this] at hb
  exact ⟨hb0, hb⟩
theorem backA_lt {z : Str} {w : Nat} {i : Int} : ∀ (ts : List (List V)) (kl p k : Nat) (a : Int) (b : Nat), (∀ t ∈ ts, TokW z w t) → kl ≤ p → badA w ts kl = none → (backA i ts p)[k]? = some (a, some b) → b < p + k
  | [], _, _, _, _, _, _, _, _, e => by cases e
  | t :: ts, kl, p, k, a, b, h, hk, hb, e => by
    have ht := h t List.mem_cons_self
    obtain ⟨hb0, hb1⟩ := badA_cons hb
    have e' : (backT i p t ++ backA i ts (p + (backT i p t).length))[k]? = some (a, some b) := e
    rcases Nat.lt_or_ge k (backT i p t).length with hlt | hge
    · rw [List.getElem?_append_left hlt] at e'
      rcases ht.cases with rfl | ⟨y, rfl, _⟩ | ⟨d, n, rfl, h1, _⟩
      · cases e'
      · have e2 : (List.replicate y.length ((i, none) : Int × Option Nat))[k]? = some (a, some b) := e'
        obtain ⟨_, e3⟩ := List.getElem?_eq_some_iff.mp e2
        rw [List.getElem_replicate] at e3
        cases e3
      · have hd : d ≤ (kl : Int) := of_decide_eq_true (badT_ok.mpr hb0)
        have e2 : ((List.range n.toNat).map fun k => ((i, some (p + k - d.toNat)) : Int × Option Nat))[k]? = some (a, some b) := e'
        rw [List.getElem?_map] at e2
        have hlt' : k < n.toNat := by
          have : (backT i p [V.str "copy", V.int d, V.int n]).length = n.toNat := by
            show ((List.range n.toNat).map _).length = _
            rw [List.length_map, List.length_range]
          omega
        rw [List.getElem?_range hlt'] at e2
        cases e2
        omega
    · rw [List.getElem?_append_right hge] at e'
      have hkl := klT_line (w := w) (line := List.replicate p 0) ht.ok ht.pl.1 (by rw [List.length_replicate]; exact hk)
      rw [List.length_append, List.length_replicate, ← backT_len (i := i) (p := p) ht] at hkl
      have := backA_lt ts _ _ _ a b (fun u hu => h u (List.mem_cons_of_mem _ hu)) hkl hb1 e'
      omega
theorem back_lt {z : Str} {w : Nat} : ∀ (bs : List (List (List V))) (i kl p k : Nat) (a : Int) (b : Nat), (∀ b ∈ bs, ∀ t ∈ b, TokW z w t) → kl ≤ p → badB w bs kl = none → (backB i bs p)[k]? = some (a, some b) → b < p + k
  | [], _, _, _, _, _, _, _, _, _, e => by cases e
  | c :: bs, i, kl, p, k, a, b, h, hk, hb, e => by
    have hc := h c List.mem_cons_self
    obtain ⟨hb0, hb1⟩ := badB_cons hb
    have e' : (backA (i : Int) c p ++ backB (i + 1) bs (p + (backA (i : Int) c p).length))[k]? = some (a, some b) := e
    rcases Nat.lt_or_ge k (backA (i : Int) c p).length with hlt | hge
    · rw [List.getElem?_append_left hlt] at e'
      exact backA_lt c kl p k a b hc hk hb0 e'
    · rw [List.getElem?_append_right hge] at e'
      have hkl := klA_line (z := z) (w := w) c kl (List.replicate p 0) (fun t ht => ⟨(hc t ht).ok, (hc t ht).pl.1⟩) (by rw [List.length_replicate]; exact hk)
      rw [List.length_append, List.length_replicate, ← backA_len (i := (i : Int)) c p (List.replicate p 0) hc] at hkl
      have := back_lt bs (i + 1) _ _ _ a b (fun u hu => h u (List.mem_cons_of_mem _ hu)) hkl hb1 e'
      omega
/-! ### texts and blocks as plain data -/
def CodesOk (L : List Nat) : Prop := ∀ c ∈ L, c < 0x110000
theorem copyN_codes {line : List Nat} {d : Nat} (h : CodesOk line) : ∀ n, CodesOk (copyN line d n)
  | 0 => fun c hc => nomatch hc
  | n + 1 => fun c hc => by
    rcases List.mem_append.mp (show c ∈ copyN line d n ++ [_] from hc) with hc | hc
    · exact copyN_codes h n c hc
    · rw [List.mem_singleton.mp hc]
      rw [List.getD_eq_getElem?_getD]
      cases e : (line ++ copyN line d n)[line.length + n - d]? with
      | none => show 0 < _; decide
      | some x =>
        rcases List.mem_append.mp (List.mem_of_getElem? e) with hx | hx
        · exact h x hx
        · exact copyN_codes h n x hx
theorem textT_codes {z : Str} {t : List V} {W : List Nat} (hz : SignsOk z) (h : tokV z t = true) (hW : CodesOk W) : CodesOk (textT W t) := by
  obtain ⟨kd, rest, rfl, hk⟩ := tok_inv h
  have hcz := cln_iff.mp (clean_signs hz)
  rcases hk with ⟨rfl, rfl⟩ | ⟨y, rfl, rfl, h1, h2, h3⟩ | ⟨y, rfl, rfl, h1⟩ | ⟨d, n, hkd, rfl, h1, h2, h3, h4⟩
  · exact fun c hc => nomatch hc
  · exact cln_iff.mp (clean_over (clean_signs hz) h1)
  · have ho : overB z y = true := by
      unfold choiceB at h1
      simp only [Bool.and_eq_true] at h1
      exact h1.1.2
    exact cln_iff.mp (clean_over (clean_signs hz) ho)
  · exact copyN_codes hW _
theorem textA_codes {z : Str} (hz : SignsOk z) : ∀ (ts : List (List V)) (W : List Nat), (∀ t ∈ ts, tokV z t = true) → CodesOk W → CodesOk (textA ts W)
  | [], _, _, _ => fun c hc => nomatch hc
  | t :: ts, W, h, hW => fun c hc => by
    have h1 := textT_codes hz (h t List.mem_cons_self) hW
    rcases List.mem_append.mp (show c ∈ textT W t ++ textA ts _ from hc) with hc | hc
    · exact h1 c hc
    · exact textA_codes hz ts (W ++ textT W t) (fun u hu => h u (List.mem_cons_of_mem _ hu)) (fun x hx => (List.mem_append.mp hx).elim (hW x) (h1 x)) c hc
theorem textB_codes {z : Str} (hz : SignsOk z) : ∀ (bs : List (List (List V))) (W : List Nat), (∀ b ∈ bs, ∀ t ∈ b, tokV z t = true) → CodesOk W → ∀ x ∈ textB bs W, CodesOk x
  | [], _, _, _ => fun c hc => nomatch hc
  | b :: bs, W, h, hW => fun x hx => by
    have h1 := textA_codes hz b W (h b List.mem_cons_self) hW
    rcases List.mem_cons.mp (show x ∈ textA b W :: textB bs _ from hx) with rfl | hx
    · exact h1
    · exact textB_codes hz bs _ (fun u hu => h u (List.mem_cons_of_mem _ hu)) (fun y hy => (List.mem_append.mp hy).elim (hW y) (h1 y)) x hx
theorem mkL_codes {M : List Bool} {W : List Nat} (h : CodesOk W) : CodesOk (mkL M W) := by
  intro c hc
  unfold mkL at hc
  obtain ⟨i, hi⟩ := List.getElem?_of_mem hc
  rw [List.getElem?_zipWith] at hi
  cases e1 : M[i]? with
  | none => rw [e1] at hi; cases hi
  | some m =>
    cases e2 : W[i]? with
    | none => rw [e1, e2] at hi; cases hi
    | some w =>
      rw [e1, e2] at hi
      have hi : some (if m = true then 63 else w) = some c := hi
      cases hi
      split
      · decide
      · exact h w (List.mem_of_getElem? e2)
theorem splitB_codes : ∀ (ss : List Nat) (L : List Nat), CodesOk L → ∀ x ∈ splitB ss L, CodesOk x
  | [], _, _ => fun x hx => nomatch hx
  | s :: ss, L, h => fun x hx => by
    rcases List.mem_cons.mp (show x ∈ L.take s :: splitB ss (L.drop s) from hx) with rfl | hx
    · exact fun c hc => h c (List.mem_of_mem_take hc)
    · exact splitB_codes ss _ (fun c hc => h c (List.mem_of_mem_drop hc)) x hx
theorem splitB_le : ∀ (ss : List Nat) (L : List Nat) (m : Nat), (∀ s ∈ ss, s ≤ m) → ∀ x ∈ splitB ss L, x.length ≤ m
  | [], _, _, _ => fun x hx => nomatch hx
  | s :: ss, L, m, h => fun x hx => by
    rcases List.mem_cons.mp (show x ∈ L.take s :: splitB ss (L.drop s) from hx) with rfl | hx
    · rw [List.length_take]; have := h s List.mem_cons_self; omega
    · exact splitB_le ss _ m (fun s' hs' => h s' (List.mem_cons_of_mem _ hs')) x hx
/-- a list of texts as data -/
def txtsD (xs : List (List Nat)) : PyData := .list (xs.map fun x => .str (stL x))
theorem txts_dp {K : PySem.W.Frag} {H : Hp} {l : Addr} {xs : List (List Nat)} (h : H l = some (.lst (xs.map fun x => V.str (stL x)))) : Dp K H (.ref l) (txtsD xs) := by
  refine .lst (SqL.of h) ?_
  have e := dp_flats (K := K) (H := H) (vs := xs.map fun x => V.str (stL x)) (by rw [List.all_map]; exact List.all_eq_true.mpr fun _ _ => rfl)
  rw [List.map_map] at e
  exact e
theorem txts_pl {xs : List (List Nat)} {m : Nat} (h : ∀ x ∈ xs, CodesOk x) (hl : ∀ x ∈ xs, x.length ≤ m) : Pl 1 (xs.length * (m + 1)) (txtsD xs) := by
  have e := (PlAll.of (n := 0) (w := m) (ds := xs.map fun x => .str (stL x)) fun d hd => by
    obtain ⟨x, hx, rfl⟩ := List.mem_map.mp hd
    exact Pl.str (cln_iff.mpr (show Cln (stL x) from fun c hc => by rw [cl_stL] at hc; exact h x hx c hc)) (by rw [stL_len]; exact hl x hx)).list
  rw [List.length_map] at e
  exact e
/-- a list of blocks as data -/
def blksD (bs : List (List (List V))) : PyData := .list (bs.map fun b => .list (b.map tokD))
theorem blks_dps {K : PySem.W.Frag} {H : Hp} {z : Str} : ∀ {vs : List V} {bs : List (List (List V))}, Blks K H z vs bs → DpAll K H vs (bs.map fun b => .list (b.map tokD))
  | _, _, .nil => .nil
  | _, _, .cons h t => by
    obtain ⟨a, tvs, rfl, ha, hk⟩ := h
    exact .cons (.lst (SqL.of ha) hk.dps) (blks_dps t)
theorem blks_dp {K : PySem.W.Frag} {H : Hp} {z : Str} {l : Addr} {vs : List V} {bs : List (List (List V))} (hl : H l = some (.lst vs)) (h : Blks K H z vs bs) : Dp K H (.ref l) (blksD bs) := .lst (SqL.of hl) (blks_dps h)
theorem blks_pl {z : Str} {bs : List (List (List V))} (hz : SignsOk z) (h : ∀ b ∈ bs, (∀ t ∈ b, tokV z t = true) ∧ b.length ≤ 10) (hn : bs.length ≤ 40) : Pl 64 1000000 (blksD bs) := by
  have e := (PlAll.of (n := 2) (w := 1240) (ds := bs.map fun b => .list (b.map tokD)) fun d hd => by
    obtain ⟨b, hb, rfl⟩ := List.mem_map.mp hd
    have e1 := (PlAll.of (n := 1) (w := 3 * 41) (ds := b.map tokD) fun d hd => by
      obtain ⟨t, ht, rfl⟩ := List.mem_map.mp hd
      exact tok_pl hz ((h b hb).1 t ht)).list
    refine e1.mono (Nat.le_refl _) ?_
    rw [List.length_map]
    have := (h b hb).2
    calc b.length * (3 * 41 + 1) ≤ 10 * (3 * 41 + 1) := Nat.mul_le_mul_right _ this
      _ = 1240 := rfl).list
  refine e.mono (by decide) ?_
  rw [List.length_map]
  calc bs.length * (1240 + 1) ≤ 40 * (1240 + 1) := Nat.mul_le_mul_right _ hn
    _ ≤ 1000000 := by decide
/-- the long stream: twelve signs, then copies of them -/
def longB (y : Str) : List (List (List V)) := [[.str "text", .str y]] :: List.replicate 3 (List.replicate 6 [.str "copy", .int 12, .int 40])
theorem longB_ok {z y : Str} (ho : overB z y = true) (hy : y.length = 12) : (∀ x ∈ longB y, (∀ t ∈ x, TokW z 12 t) ∧ x.length ≤ 6 ∧ tsize x ≤ 240) ∧ badB 12 (longB y) 0 = none := by
  have hc : TokW z 12 [.str "copy", .int 12, .int 40] := TokW.copy (by decide) (by decide) (by decide) (by decide) (by decide)
  constructor
  · intro x hx
    rcases List.mem_cons.mp hx with rfl | hx
    · refine ⟨fun t ht => ?_, Nat.le_of_ble_eq_true rfl, ?_⟩
      · rw [List.mem_singleton.mp ht]; exact TokW.text ho (by omega) (by omega)
      · rw [tsize_one, sizeV_text]; omega
    · rw [List.eq_of_mem_replicate hx]
      exact ⟨fun t ht => by rw [List.eq_of_mem_replicate ht]; exact hc, by decide, by decide⟩
  · have h1 : badA 12 [[.str "text", .str y]] 0 = none := rfl
    have h2 : klA 12 [[.str "text", .str y]] 0 = 12 := by
      show min 12 (0 + y.length) = 12
      rw [hy]
      rfl
    have h3 : badB 12 (List.replicate 3 (List.replicate 6 [.str "copy", .int 12, .int 40])) 12 = none := by decide
    show (match badA 12 [[.str "text", .str y]] 0 with | some x => some x | none => badB 12 (List.replicate 3 (List.replicate 6 [.str "copy", .int 12, .int 40])) (klA 12 [[.str "text", .str y]] 0)) = none
    rw [h1, h2]
    exact h3
theorem long_text {z : Str} (hz : SignsOk z) : overB z (cutS (Txt.mul z 6) none (some 12)) = true ∧ (cutS (Txt.mul z 6) none (some 12)).length = 12 := by
  have hl := hz.len
  have e : z = stL (cl z) := (stL_cl z).symm
  have hcl := cl_len z
  have e1 : Txt.mul z 6 = stL (List.replicate 6 (cl z)).flatten := by
    have := mul_st (cs := cl z) (n := 6)
    rw [stL_cl] at this
    exact this
  rw [e1, cut_head (by decide)]
  refine ⟨?_, ?_⟩
  · refine over_of fun c hc => ?_
    have h1 := List.mem_of_mem_take hc
    obtain ⟨l, hl1, hl2⟩ := List.mem_flatten.mp h1
    rw [List.eq_of_mem_replicate hl1] at hl2
    exact hl2
  · rw [stL_len, List.length_take, flat_len]
    show min 12 (6 * (cl z).length) = 12
    omega
end KW

/-! Calls within a try. -/
namespace KW
open PySem PySem.Spec PyProof.Rows L2
/-- how a method's call is taken apart -/
abbrev MethTree (o : Expr) (m : Str) (apos pos : Pos) (pl : Sem Bool) (es : List Expr) (en : Env) : Prop := eval (.Call (.Attribute o m apos) es [] pos) en = (do
  let ov ← eval o en
  standAt apos.atName
  let (fn, slf) ← holding [ov] (getMethod ov m pl)
  callWith pos fn slf (backTo pos (starEach es en)) (backToKw pos (keywordEach [] en)))
/-- its reading: what it lets out is told of the slots as they stand -/
def tMethT (C : Addr) (m : Str) (sp : Sp) (E : L2.St → XK) (ta : TE) (t : TA) : TE := fun σ H Q => ta σ H fun x H1 => ∃ (a dx : Addr) (fs : List (Str × V)), x = .ref a ∧ H1 a = some (.ins C dx fs) ∧ fs.lookup m = none ∧ t σ H1 fun us H2 => sp (x :: us) H2 Q (E σ)
section
variable {X : Cx} {CX : CXT} {k : Nat} {f C : Addr} {fd : FuncData} {ps : List Str} {sp : Sp} {E : L2.St → XK} {m : Str} {pos apos : Pos} {e o : Expr} {es : List Expr} {ta : TE} {t : TA}
/-- o.m(e, ..), what it lets out is caught around it -/
theorem pe_methT {pl : Sem Bool} (ho : PE X o ta) (c : Cls X.K C) (hm : Meth X.K C m f) (F : FnOk X.prog X.w X.K X.mg X.base CX k f fd ps sp) (hr : Room k X.A) (hb : L2.Binds X.K fd ps []) (hx : ∀ σ, PassesAt CX X σ (E σ)) (hes : PA X (e :: es) t) (hst : starEach (e :: es) X.env = (false, eval e X.env) :: starEach es X.env := by rfl) (hpl : (backTo pos (starEach es X.env)).any (·.1) = false := by rfl) (ht : MethTree o m apos pos pl (e :: es) X.env := by rfl) : PE X (.Call (.Attribute o m apos) (e :: es) [] pos) (tMethT C m sp E ta t) := by
  refine ⟨fun pins s σ H Q I h => PySem.W.methodCall_KW (pl := pl) (thn (ho.run pins s σ H _ I h) fun u s1 ⟨x, H1, I1, rx, a, dx, fs, ex, ea, l, q⟩ => ?_) ht⟩
  subst ex
  obtain rfl : u = Value.ref a := rx
  exact getmeth_ok I1 ea c hm l (PySem.W.callWith_K (first := [.ref a]) (h₀ := X.base) I.ok.mod.kin hm.kp (thn (hes.run pos pins s1 σ H1 _ I1 q) fun us s2 ⟨vs, H2, I2, r, q2⟩ => ⟨I2.kIn, run_fnS (us := .ref a :: us) (vs := .ref a :: vs) F hr hb (hx σ) I2 (.cons rfl r) q2⟩) hst hpl)
end
end KW

/-! What blocks ask of what stands ahead of them. -/
namespace KW
open PySem L2
/-- the signs ahead that a token asks for, so many being asked behind it -/
def askT (q : Nat) : List V → Nat
  | [.str _, .str y] => q - y.length
  | [.str _, .int d, .int n] => max (q - n.toNat) d.toNat
  | _ => q
def askA : List (List V) → Nat → Nat
  | [], q => q
  | t :: ts, q => askT (askA ts q) t
def askB : List (List (List V)) → Nat
  | [] => 0
  | b :: bs => askA b (askB bs)
theorem askA_app : ∀ (ts us : List (List V)) (q : Nat), askA (ts ++ us) q = askA ts (askA us q)
  | [], _, _ => rfl
  | t :: ts, us, q => by
    show askT (askA (ts ++ us) q) t = askT (askA ts (askA us q)) t
    rw [askA_app ts us]
theorem klA_mono {w : Nat} : ∀ (ts : List (List V)) (kl kl' : Nat), kl ≤ kl' → klA w ts kl ≤ klA w ts kl'
  | [], _, _, h => h
  | t :: ts, kl, kl', h => klA_mono ts _ _ (klT_mono h)
theorem badA_cons_iff {w : Nat} {t : List V} {ts : List (List V)} {kl : Nat} : badA w (t :: ts) kl = none ↔ badT kl t = none ∧ badA w ts (klT w kl t) = none := by
  refine ⟨badA_cons, fun ⟨h1, h2⟩ => ?_⟩
  show (match badT kl t with | some b => some b | none => badA w ts (klT w kl t)) = none
  rw [h1]
  exact h2
theorem badB_cons_iff {w : Nat} {b : List (List V)} {bs : List (List (List V))} {kl : Nat} : badB w (b :: bs) kl = none ↔ badA w b kl = none ∧ badB w bs (klA w b kl) = none := by
  refine ⟨badB_cons, fun ⟨h1, h2⟩ => ?_⟩
  show (match badA w b kl with | some x => some x | none => badB w bs (klA w b kl)) = none
  rw [h1]
  exact h2
/-- where the whole can be read, less is enough just if it is no less than what is asked -/
theorem ask_ok {z : Str} {w : Nat} : ∀ (ts : List (List V)) (q kl kl' : Nat), (∀ t ∈ ts, TokW z w t) → kl' ≤ kl → kl ≤ w → q ≤ klA w ts kl → badA w ts kl = none →
    askA ts q ≤ kl ∧ (askA ts q ≤ kl' ↔ badA w ts kl' = none ∧ q ≤ klA w ts kl')
  | [], q, kl, kl', _, _, _, hq, _ => ⟨hq, ⟨fun h => ⟨rfl, h⟩, fun h => h.2⟩⟩
  | t :: ts, q, kl, kl', ht, h1, h2, hq, hb => by
    obtain ⟨hb1, hb2⟩ := badA_cons hb
    have htw := ht t List.mem_cons_self
    have ih := ask_ok ts q (klT w kl t) (klT w kl' t) (fun u hu => ht u (List.mem_cons_of_mem _ hu)) (klT_mono h1) (klT_le htw.ok h2) hq hb2
    obtain ⟨i1, i2⟩ := ih
    show askT (askA ts q) t ≤ kl ∧ (askT (askA ts q) t ≤ kl' ↔ badA w (t :: ts) kl' = none ∧ q ≤ klA w ts (klT w kl' t))
    rw [badA_cons_iff, and_assoc, ← i2]
    generalize askA ts q = a at *
    rcases htw.cases with rfl | ⟨y, rfl, _, y1, y2⟩ | ⟨d, n, rfl, d1, d2, n1, n2⟩
    · have e : a ≤ 0 := i1
      refine ⟨Nat.le_trans e (Nat.zero_le _), fun _ => ⟨rfl, e⟩, fun _ => Nat.le_trans e (Nat.zero_le _)⟩
    · have e : a ≤ min w (kl + y.length) := i1
      show a - y.length ≤ kl ∧ (a - y.length ≤ kl' ↔ none = none ∧ a ≤ min w (kl' + y.length))
      refine ⟨by omega, fun h => ⟨rfl, by omega⟩, fun h => by have := h.2; omega⟩
    · have e : a ≤ min w (kl + n.toNat) := i1
      have e1 : d ≤ (kl : Int) := Classical.byContradiction fun hn => by
        have : (if d ≤ (kl : Int) then none else some (d, kl)) = (none : Option (Int × Nat)) := hb1
        rw [if_neg hn] at this
        cases this
      show max (a - n.toNat) d.toNat ≤ kl ∧ (max (a - n.toNat) d.toNat ≤ kl' ↔ (if d ≤ (kl' : Int) then none else some (d, kl')) = none ∧ a ≤ min w (kl' + n.toNat))
      refine ⟨by omega, fun h => ⟨if_pos (by omega), by omega⟩, fun h => ?_⟩
      have h1 : d ≤ (kl' : Int) := Classical.byContradiction fun hn => by
        have := h.1
        rw [if_neg hn] at this
        cases this
      have := h.2
      omega
theorem askB_ok {z : Str} {w : Nat} : ∀ (bs : List (List (List V))) (kl kl' : Nat), (∀ b ∈ bs, ∀ t ∈ b, TokW z w t) → kl' ≤ kl → kl ≤ w → badB w bs kl = none → askB bs ≤ kl ∧ (askB bs ≤ kl' ↔ badB w bs kl' = none)
  | [], _, _, _, _, _, _ => ⟨Nat.zero_le _, ⟨fun _ => rfl, fun _ => Nat.zero_le _⟩⟩
  | b :: bs, kl, kl', ht, h1, h2, hb => by
    obtain ⟨hb1, hb2⟩ := badB_cons hb
    have htb := ht b List.mem_cons_self
    obtain ⟨i1, i2⟩ := askB_ok bs (klA w b kl) (klA w b kl') (fun u hu => ht u (List.mem_cons_of_mem _ hu)) (klA_mono b _ _ h1) (klA_le (z := z) b kl (fun t ht => (htb t ht).ok) h2) hb2
    obtain ⟨j1, j2⟩ := ask_ok b (askB bs) kl kl' htb h1 h2 i1 hb1
    refine ⟨j1, ?_⟩
    show askA b (askB bs) ≤ kl' ↔ _
    rw [j2, badB_cons_iff, i2]
theorem badB_drop {w : Nat} : ∀ (bs : List (List (List V))) (i kl : Nat), badB w bs kl = none → badB w (bs.drop i) (klB w (bs.take i) kl) = none
  | bs, 0, _, h => by cases bs <;> exact h
  | [], _ + 1, _, _ => rfl
  | b :: bs, i + 1, kl, h => badB_drop bs i (klA w b kl) (badB_cons h).2
/-- a suffix can be read alone just if it asks for nothing -/
theorem alone_ok {z : Str} {w : Nat} {bs : List (List (List V))} (ht : ∀ b ∈ bs, ∀ t ∈ b, TokW z w t) (hb : badB w bs 0 = none) (i : Nat) : askB (bs.drop i) = 0 ↔ badB w (bs.drop i) 0 = none := by
  have h := (askB_ok (z := z) (bs.drop i) (klB w (bs.take i) 0) 0 (fun b hb' => ht b (List.mem_of_mem_drop hb')) (Nat.zero_le _) (klB_le (z := z) _ _ (fun b hb' => ht b (List.mem_of_mem_take hb')) (Nat.zero_le _)) (badB_drop bs i 0 hb)).2
  rw [← h]
  omega
theorem askB_drop : ∀ (bs : List (List (List V))) (i : Nat) (b : List (List V)), bs[i]? = some b → askB (bs.drop i) = askA b (askB (bs.drop (i + 1)))
  | [], _, _, h => by cases h
  | c :: bs, 0, b, h => by cases h; rfl
  | c :: bs, i + 1, b, h => askB_drop bs i b h
/-- what stands further ahead than it is read tells nothing -/
theorem textT_front {z : Str} {w kl : Nat} {t : List V} {P W : List Nat} (h : TokW z w t) (hb : badT kl t = none) (hk : kl ≤ W.length) : textT (P ++ W) t = textT W t := by
  rcases h.cases with rfl | ⟨y, rfl, _⟩ | ⟨d, n, rfl, d1, d2, n1, n2⟩
  · rfl
  · rfl
  · have e1 : d ≤ (kl : Int) := Classical.byContradiction fun hn => by
      have : (if d ≤ (kl : Int) then none else some (d, kl)) = (none : Option (Int × Nat)) := hb
      rw [if_neg hn] at this
      cases this
    have e := copyN_tail (line := P ++ W) (d := d.toNat) (n := n.toNat) (k := W.length) (by omega) (by omega) (by rw [List.length_append]; omega)
    rw [List.length_append, Nat.add_sub_cancel, List.drop_left] at e
    exact e.symm
theorem textA_front {z : Str} {w : Nat} : ∀ (ts : List (List V)) (kl : Nat) (P W : List Nat), (∀ t ∈ ts, TokW z w t) → badA w ts kl = none → kl ≤ W.length → textA ts (P ++ W) = textA ts W
  | [], _, _, _, _, _, _ => rfl
  | t :: ts, kl, P, W, h, hb, hk => by
    obtain ⟨b1, b2⟩ := badA_cons hb
    have ht := h t List.mem_cons_self
    show textT (P ++ W) t ++ textA ts ((P ++ W) ++ textT (P ++ W) t) = textT W t ++ textA ts (W ++ textT W t)
    rw [textT_front ht b1 hk, List.append_assoc, textA_front ts _ P (W ++ textT W t) (fun u hu => h u (List.mem_cons_of_mem _ hu)) b2 (klT_line ht.ok ht.pl.1 hk)]
theorem textB_front {z : Str} {w : Nat} : ∀ (bs : List (List (List V))) (kl : Nat) (P W : List Nat), (∀ b ∈ bs, ∀ t ∈ b, TokW z w t) → badB w bs kl = none → kl ≤ W.length → textB bs (P ++ W) = textB bs W
  | [], _, _, _, _, _, _ => rfl
  | b :: bs, kl, P, W, h, hb, hk => by
    obtain ⟨b1, b2⟩ := badB_cons hb
    have ht := h b List.mem_cons_self
    show textA b (P ++ W) :: textB bs ((P ++ W) ++ textA b (P ++ W)) = textA b W :: textB bs (W ++ textA b W)
    rw [textA_front b kl P W ht b1 hk, List.append_assoc, textB_front bs _ P (W ++ textA b W) (fun u hu => h u (List.mem_cons_of_mem _ hu)) b2 (klA_line b kl W (fun t ht' => ⟨(ht t ht').ok, (ht t ht').pl.1⟩) hk)]
theorem textB_drop : ∀ (bs : List (List (List V))) (i : Nat) (W : List Nat), (textB bs W).drop i = textB (bs.drop i) (W ++ (textB (bs.take i) W).flatten)
  | bs, 0, W => by
    show textB bs W = textB bs (W ++ [])
    rw [List.append_nil]
  | [], _ + 1, _ => rfl
  | b :: bs, i + 1, W => by
    show (textB bs (W ++ textA b W)).drop i = textB (bs.drop i) (W ++ (textA b W ++ (textB (bs.take i) (W ++ textA b W)).flatten))
    rw [textB_drop bs i, List.append_assoc]
/-- what is read alone is what the whole says there -/
theorem textB_alone {z : Str} {w : Nat} {bs : List (List (List V))} (ht : ∀ b ∈ bs, ∀ t ∈ b, TokW z w t) {i : Nat} (hb : badB w (bs.drop i) 0 = none) : textB (bs.drop i) [] = (textB bs []).drop i := by
  rw [textB_drop, List.nil_append]
  have h := textB_front (z := z) (bs.drop i) 0 (textB (bs.take i) []).flatten [] (fun b hb' => ht b (List.mem_of_mem_drop hb')) hb (Nat.le_refl _)
  rw [List.append_nil] at h
  exact h.symm
theorem badB_more {w : Nat} : ∀ (bs : List (List (List V))) (i kl : Nat) (b : List (List V)) (x : Int × Nat), badB w (bs.take i) kl = none → bs[i]? = some b → badA w b (klB w (bs.take i) kl) = some x → badB w bs kl = some x
  | [], _, _, _, _, _, h, _ => by cases h
  | c :: bs, 0, kl, b, x, _, h, hx => by
    cases h
    show (match badA w c kl with | some x => some x | none => badB w bs (klA w c kl)) = some x
    rw [show badA w c kl = some x from hx]
  | c :: bs, i + 1, kl, b, x, h0, h, hx => by
    obtain ⟨h1, h2⟩ := badB_cons (b := c) (bs := bs.take i) h0
    show (match badA w c kl with | some x => some x | none => badB w bs (klA w c kl)) = some x
    rw [h1]
    exact badB_more bs i _ b x h2 h hx
theorem textB_take {bs : List (List (List V))} {i : Nat} {b : List (List V)} (h : bs[i]? = some b) : textB (bs.take (i + 1)) [] = textB (bs.take i) [] ++ [textA b (textB (bs.take i) []).flatten] := by
  rw [take_succ' h, textB_snoc, List.nil_append]
theorem textB_len_le {z : Str} {w : Nat} {bs : List (List (List V))} (h : ∀ b ∈ bs, (∀ t ∈ b, TokW z w t) ∧ tsize b ≤ 1000) (hn : bs.length ≤ 40) (i : Nat) : (textB (bs.take i) []).flatten.length ≤ 40000 := by
  have e := textB_flat_len (z := z) (w := w) (bs.take i) [] fun b hb => (h b (List.mem_of_mem_take hb)).1
  have e2 := sum_le (bs := bs.take i) (m := 1000) (fun b hb => (h b (List.mem_of_mem_take hb)).2) (by decide)
  rw [List.length_take] at e2
  omega
theorem klB_line0 {z : Str} {w : Nat} : ∀ (bs : List (List (List V))) (kl : Nat) (W : List Nat), (∀ b ∈ bs, ∀ t ∈ b, TokW z w t) → kl ≤ W.length → klB w bs kl ≤ (W ++ (textB bs W).flatten).length
  | [], kl, W, _, hk => by
    show kl ≤ (W ++ []).length
    rw [List.append_nil]
    exact hk
  | b :: bs, kl, W, h, hk => by
    have ht := h b List.mem_cons_self
    show klB w bs (klA w b kl) ≤ (W ++ (textA b W ++ (textB bs (W ++ textA b W)).flatten)).length
    rw [← List.append_assoc]
    exact klB_line0 bs _ _ (fun c hc => h c (List.mem_cons_of_mem _ hc)) (klA_line b kl W (fun t ht' => ⟨(ht t ht').ok, (ht t ht').pl.1⟩) hk)
theorem klB_line {z : Str} {w : Nat} (bs : List (List (List V))) (h : ∀ b ∈ bs, ∀ t ∈ b, TokW z w t) : klB w bs 0 ≤ (textB bs []).flatten.length := by
  have e := klB_line0 (z := z) (w := w) bs 0 [] h (Nat.le_refl _)
  rw [List.nil_append] at e
  exact e
theorem textB_n : ∀ (bs : List (List (List V))) (W : List Nat), (textB bs W).length = bs.length
  | [], _ => rfl
  | b :: bs, W => congrArg (· + 1) (textB_n bs _)
theorem sl_listK {X : Cx} {K : PySem.W.Frag} (h : X.K = K) : SlR X (rSlL K) := by subst h; exact sl_list
end KW

/-! Dicts that may hold None among their keys. -/
namespace KW
open PySem PySem.Spec PyProof.Rows L2
/-- the pairs of a dict, None among its keys or not -/
def DN (P : Program) (w : World) (a : Addr) (kvs : List (Option Key × V)) : HO := .ext fun h => kvs.length ≤ sizeLine ∧ (a == sysModules) = false ∧ ∃ vs, KV kvs vs ∧ h.DictOf (noneKind P w) a vs
def nkV : Option Key → V
  | none => .non
  | some k => kV k
theorem dn_ok {P : Program} {w : World} {H : Hp} {h : Heap} {a : Addr} {kvs : List (Option Key × V)} {vs : List (Option Key × Value)} (z : kvs.length ≤ sizeLine) (hd : (a == sysModules) = false) (rel : KV kvs vs) (dd : h.DictOf (noneKind P w) a vs) : ObjOk P w H h a (DN P w a kvs) := by
  have D0 := dd
  obtain ⟨o, es, ep, ho, r⟩ := dd
  exact ⟨⟨z, hd, vs, rel, D0⟩, ⟨o, ho⟩, fun h1 h2 p k => by
    obtain ⟨z1, hd1, vs1, rel1, o1, es1, ep1, ho1, r1⟩ := p
    exact ⟨z1, hd1, vs1, rel1, o1, es1, ep1, k _ ho1, r1⟩⟩
theorem dn_get {X : Cx} {pins : List (Addr × Obj)} {σ : L2.St} {H : Hp} {s : Shared} {a : Addr} {kvs : List (Option Key × V)} (I : Inv X pins σ H s) (ha : H a = some (DN X.prog X.w a kvs)) : kvs.length ≤ sizeLine ∧ (a == sysModules) = false ∧ ∃ vs, KV kvs vs ∧ s.heap.DictOf (noneKind X.prog X.w) a vs := by
  have x : ObjOk X.prog X.w H s.heap a (.ext fun h => kvs.length ≤ sizeLine ∧ (a == sysModules) = false ∧ ∃ vs, KV kvs vs ∧ h.DictOf (noneKind X.prog X.w) a vs) := I.hok a _ ha
  exact x.1
theorem nkV_is {P : Program} {w : World} {k : Option Key} {u : Value} (r : RelV (nkV k) u) : (noneKind P w).is k u = true := by
  cases k with
  | none =>
    obtain rfl : u = Value.none := r
    rfl
  | some k => exact kV_is (P := P) (w := w) r
/-- {}, to hold None too -/
def tDNewN (P : Program) (w : World) : TE := fun _ H Q => ∀ p, H p = none → Q (.ref p) (upd H p (DN P w p []))
section
variable {X : Cx} {o i value : Expr} {td ty tv : TE} {pos pos' : Pos}
theorem pe_dnewN : PE X (.Dict [] [] pos) (tDNewN X.prog X.w) := ⟨fun pins s σ H Q I h => by
  have new : ObjOk X.prog X.w (upd H s.heap.objs.size (DN X.prog X.w s.heap.objs.size [])) _ s.heap.objs.size (DN X.prog X.w s.heap.objs.size []) := dn_ok (Nat.zero_le _) (beq_eq_false_iff_ne.mpr (Ne.symm (Nat.ne_of_lt I.big))) .nil (Heap.DictOf.new s.heap)
  exact wpAny_Dict_empty ⟨.ref s.heap.objs.size, _, I.laid (t' := s.toks) (fun _ _ q => Heap.get?_push_of_some _ q) (Nat.le_refl _) new, rfl, h _ (I.hok.fresh (Nat.le_refl _))⟩⟩
/-- y in d -/
def tInDN (P : Program) (w : World) (ty td : TE) : TE := fun σ H Q => ty σ H fun y H1 => td σ H1 fun x H2 => ∃ (a : Addr) (kvs : List (Option Key × V)) (k : Option Key), x = .ref a ∧ H2 a = some (DN P w a kvs) ∧ y = nkV k ∧ Q (.bl (valV kvs k).isSome) H2
theorem pc_inDN (hi : PE X i ty) (ho : PE X o td) : PC X .In i o (tInDN X.prog X.w ty td) := by
  refine ⟨fun pins s σ H Q I h => thn (hi.run pins s σ H _ I h) fun iv s1 ⟨y, H1, I1, ry, q1⟩ => thn (ho.run pins s1 σ H1 _ I1 q1) fun u s2 ⟨x, H2, I2, rx, a, kvs, k, ex, ha, ey, q2⟩ => ?_⟩
  subst ex ey
  obtain rfl : u = Value.ref a := rx
  obtain ⟨z, hd, vs, rel, dd⟩ := dn_get I2 ha
  refine wpAny_in_of (nkV_is ry) hd dd.mapOf ?_
  rw [← (rel.val k).isSome_eq]
  exact ⟨.bl (valV kvs k).isSome, H2, I2.tok _, rfl, q2⟩
/-- d[y] = v -/
def sPutDN (P : Program) (w : World) (td ty tv : TE) : TS := fun D σ H => tv σ H fun v H1 => td σ H1 fun x H2 => ty σ H2 fun y H3 => ∃ (a : Addr) (kvs : List (Option Key × V)) (k : Option Key), x = .ref a ∧ H3 a = some (DN P w a kvs) ∧ y = nkV k ∧ kvs.length < sizeLine ∧ D.nx σ (upd H3 a (DN P w a (putK kvs k v)))
theorem ps_putDN (ho : PE X o td) (hi : PE X i ty) (hv : PE X value tv) (hs : swapsWith value (some (.Subscript o i pos')) pos.line X.env = pure false) : PS X (.Assign [.Subscript o i pos'] value pos) (sPutDN X.prog X.w td ty tv) := by
  refine ⟨fun pins s σ H D I h => wpAny_Assign_Subscript (thn (hv.run pins s σ H _ I h) fun r s1 ⟨v, H1, I1, rv, q1⟩ => thn (ho.run pins s1 σ H1 _ I1 q1) fun u s2 ⟨x, H2, I2, rx, q2⟩ => thn (hi.run pins s2 σ H2 _ I2 q2) fun iv s3 ⟨y, H3, I3, ry, a, kvs, k, ex, ha, ey, hl, q3⟩ => ?_) hs⟩
  subst ex ey
  obtain rfl : u = Value.ref a := rx
  obtain ⟨z, hd, vs, rel, dd⟩ := dn_get I3 ha
  have hz : vs.length ≤ sizeLine := by rw [← rel.length]; exact z
  have hl2 : (putK kvs k v).length ≤ sizeLine := by have := length_putK kvs k v; omega
  refine wpAny_setItem_pairs (hsz := hz) (nkV_is ry) dd fun h' dd' hs => ?_
  have he : ∃ q, h'.get? a = some q := let ⟨q, _, _, hq, _⟩ := dd'; ⟨q, hq⟩
  exact ⟨σ, _, d_write I3 (by rw [ha]; exact True.intro) hs he (dn_ok hl2 hd (rel.put k rv) dd'), q3⟩
end
end KW

/-! set(xs) of ints, told so that it can be sorted. -/
namespace KW
open PySem PySem.Spec PyProof.Rows L2
def seenI (val : Nat → Int) (i : Nat) (k : Int) : Bool := (List.range i).any fun j => decide (val j = k)
theorem seenI_succ (val : Nat → Int) (i : Nat) (k : Int) : seenI val (i + 1) k = (seenI val i k || decide (k = val i)) := by
  unfold seenI
  rw [List.range_succ, List.any_append]
  simp [eq_comm]
theorem filter_two {α : Type} (q : α → Bool) : ∀ l : List α, l.length = (l.filter q).length + (l.filter fun x => !q x).length
  | [] => rfl
  | x :: l => by
    have ih := filter_two q l
    rw [List.filter_cons, List.filter_cons]
    cases q x <;> simp <;> omega
/-- so many unlike ints below M are no more than M -/
theorem nodup_below : ∀ (M : Nat) (l : List Int), l.Nodup → (∀ k ∈ l, 0 ≤ k ∧ k < M) → l.length ≤ M
  | 0, l, _, h => by
    cases l with
    | nil => exact Nat.le_refl _
    | cons x l => have := h x List.mem_cons_self; omega
  | M + 1, l, hn, h => by
    have h1 := nodup_below M (l.filter fun k => decide (k ≠ (M : Int))) (hn.filter _) fun k hk => by
      obtain ⟨h2, h3⟩ := List.mem_filter.mp hk
      have h3 := of_decide_eq_true h3
      have := h k h2
      omega
    have h2 : (l.filter fun k => decide (k = (M : Int))).length ≤ 1 := by
      have e := hn.filter fun k => decide (k = (M : Int))
      generalize hf : l.filter (fun k => decide (k = (M : Int))) = f at e
      have hall : ∀ k ∈ f, k = (M : Int) := fun k hk => by
        rw [← hf] at hk
        exact of_decide_eq_true (List.mem_filter.mp hk).2
      match f, e, hall with
      | [], _, _ => exact Nat.zero_le _
      | [_], _, _ => exact Nat.le_refl _
      | x :: y :: r, e, hall =>
        have hx := hall x List.mem_cons_self
        have hy := hall y (List.mem_cons_of_mem _ List.mem_cons_self)
        exact absurd (show x ∈ y :: r by rw [hx, ← hy]; exact List.mem_cons_self) (List.nodup_cons.mp e).1
    have h3 := filter_two (fun k => decide (k = (M : Int))) l
    have h4 : (l.filter fun k => !decide (k = (M : Int))) = l.filter fun k => decide (k ≠ (M : Int)) := List.filter_congr fun x _ => by simp
    rw [h4] at h3
    omega
theorem setR_le {w : World} {h : Heap} {a : Addr} {S : Int → Bool} {n M : Nat} (R : SetR w h a S n) (hS : ∀ k, S k = true → 0 ≤ k ∧ k < M) : n ≤ M := by
  obtain ⟨o, es, ep, t, ho, hex, hd, g, nd, hm, hb, hf, hn, hr, hl⟩ := R
  have e := nodup_below M _ nd fun k hk => hS k ((hm k).mpr hk)
  rw [List.length_map, Array.length_toList] at e
  omega
section
variable {prog : Program} {w : World} {A : Around} {R : Result → Shared → Prop} {I : Addr} {fp wr : List Addr} {G : Array GenState → Array GenState → Prop} {n : Nat} {P : Nat → Value → Prop} {St : Nat → Shared → Prop}
/-- the loop of set(xs) over a set that can be sorted: all its ints lie below M -/
theorem upd_loopR (W : WalksS prog w A.in1 I fp wr G n P St) (S : Addr) (out : S ∉ fp) (val : Nat → Int) (hval : ∀ i v, P i v → ∃ t, v = .int (val i) t) {M : Nat} (hM : M + 1 < scanBound) (hin : ∀ i, i < n → 0 ≤ val i ∧ val i < M) : ∀ (k i : Nat) (s : Shared) (c : Nat), n - i = k → i ≤ n → St i s → SetR w s.heap S (seenI val i) c →
    (∀ s' c', Moved (S :: wr) G s s' → SetR w s'.heap S (seenI val n) c' → R (.ok (.ret .none)) s') → codeAny (model prog w) A (.builtin "set.update.loop" ⟨[.ref S, .ref I], []⟩) R s := by
  have nw : S ∉ wr := fun h => out (W.sub _ h)
  have wid : ∀ b ∈ wr, b ∈ S :: wr := fun b hb => List.mem_cons_of_mem _ hb
  intro k
  induction k with
  | zero =>
    intro i s c hk hi hst hS q
    have e : i = n := by omega
    subst e
    refine codeAny_builtin PyProof.Rows.F.entry_set_update_loop ?_
    rw [Around.under_plainId PyProof.Rows.F.plain_set_update_loop _]; show wpAny _ A.in1 (pyNext (.ref I) >>= _) _ _ s
    refine wpAny_bind (W.done s _ _ hst fun s1 mv => ?_)
    show wpAny _ A.in1 (ret Value.none) _ _ s1
    exact wpAny_pure (q s1 c (mv.mono wid) (hS.at fun o ho => mv.heap S o nw ho))
  | succ k ih =>
    intro i s c hk hi hst hS q
    have lt : i < n := by omega
    refine codeAny_builtin PyProof.Rows.F.entry_set_update_loop ?_
    rw [Around.under_plainId PyProof.Rows.F.plain_set_update_loop _]; show wpAny _ A.in1 (pyNext (.ref I) >>= _) _ _ s
    refine wpAny_bind (W.item i s _ _ lt hst fun v s1 pv st1 mv => ?_)
    obtain ⟨t, rfl⟩ := hval i v pv
    have S1 : SetR w s1.heap S (seenI val i) c := hS.at fun o ho => mv.heap S o nw ho
    have room : c + 1 < scanBound := by
      have := setR_le S1 (M := M) fun k hk => by
        unfold seenI at hk
        obtain ⟨j, hj, e⟩ := List.any_eq_true.mp hk
        have h1 := hin j (by have := List.mem_range.mp hj; omega)
        have h2 := of_decide_eq_true e
        omega
      omega
    show wpAny _ A.in1 (holding [Value.int (val i) t] (setAdd S (.int (val i) t)) >>= _) _ _ s1
    refine wpAny_bind (wpAny_holding ?_)
    unfold setAdd
    refine wpAny_holding (wpAny_bind ((intKind prog w).pyHash (k := val i) (intKind_is _ _ _ _) ?_))
    refine setR_add_hashed (P := prog) (s := { s1 with toks := s1.toks + 1 }) S1 room fun h2 sb S2 => ?_
    refine wpAny_pure ⟨plainId_quiet PyProof.Rows.F.plain_set_update_loop _, ih (i + 1) _ _ (by omega) lt (W.frame _ s1 _ _ st1 (Nat.le_succ _) fun b hb o e => ?_) (S2.congr fun k => by rw [seenI_succ]) fun s2 c2 mv2 S3 => ?_⟩
    · rw [sb.2 b fun h : b = S => out (by rw [← h]; exact hb)]
      exact e
    · refine q s2 c2 (Moved.trans W.gtrans ((mv.mono wid).then_heap (Nat.le_succ _) fun b o hb e => ?_) mv2) S3
      rw [sb.2 b fun h : b = S => hb (by rw [h]; exact List.mem_cons_self)]
      exact e
end
section
variable {prog : Program} {w : World} {A : Around} {E : Value → Shared → Prop} {s : Shared}
/-- the bare set that set(xs) begins with -/
abbrev bareSet (w : World) : Obj := { cls := .type "set", dict := none, data := .set #[] 0 (.fresh 0 0 (!w.params.followText "set-order")) }
theorem new_led (a : Value) {Q₁ : Value → Shared → Prop} (h : Q₁ (.ref s.heap.objs.size) { s with heap := s.heap.push (bareSet w) }) : codeAny (model prog w) A (.call (.builtin "set.__new__") ⟨[.type "set", a], []⟩) (wants Q₁ E) s := by
  refine codeAny_of_tree (show wpAny _ A.in1 (do checkBuiltinCall "set.__new__" ⟨[.type "set", a], []⟩; again (.builtin "set.__new__" ⟨[.type "set", a], []⟩)) _ _ s from ?_)
  refine wpAny_bind (wpAny_of_eq (PySem.F.newCall_set_1 a) (wpAny_pure ⟨plainId_quiet PySem.F.plain_set_new _, codeAny_builtin PySem.F.entry_set_new ?_⟩))
  rw [Around.under_plainId PySem.F.plain_set_new _]; unfold Builtin.«set.__new__» Builtin.Frozenset.newClass
  have hsub := PySem.sub_set_self
  obtain ⟨hp, g, d, tk, os⟩ := s
  dsimp only
  wp_walk
  refine wpAny_askSetting (wpAny_pure ?_)
  dsimp only
  simp only [newObj]
  exact wpAny_bind (wpAny_alloc (wpAny_pure (wpAny_pure h)))
theorem call_setR {l : Addr} {items : Array Value} {ns : List Int} {M : Nat} {Q : Value → Shared → Prop} (hh : A.handled = none) (hl : s.heap.IsList l items) (hi : PyProof.Rows.IntsAre items.toList ns) (hM : M + 1 < scanBound) (hin : ∀ i, i < items.size → 0 ≤ ns.getD i 0 ∧ ns.getD i 0 < M)
    (h : ∀ (h' : Heap) (tk c : Nat), SetR w h' s.heap.objs.size (seenI (fun i => ns.getD i 0) items.size) c → (∀ b o, b < s.heap.objs.size → s.heap.get? b = some o → h'.get? b = some o) → Q (.ref s.heap.objs.size) { s with heap := h', toks := tk }) : wpAny (model prog w) A (call (.type "set") [.ref l]) Q E s := by
  obtain ⟨c0, tl, hmro⟩ := PySem.F.called_set.mro
  have hmade := PySem.F.called_set.made; have hsub := PySem.F.called_set.sub
  refine wpAny_call (codeAny_of_tree (show wpAny _ _ (callAny (.type "set") _) _ _ _ from wpAny_pure ⟨Code.quiet_builtin _ (by decide +kernel), codeAny_builtin PySem.F.entry_type_call ?_⟩))
  rw [Around.under_plain (weight_type_call_type "set" [.ref l] []) rfl]
  have h1 := PySem.F.called_set.notType; have h2 := PySem.F.called_set.canCreate; have hct := PySem.F.typeCall_set_1 (.ref l)
  repeat (any_goals (first | assumption | wp_step))
  refine codeAny_mono (new_led (.ref l) (E := E) (Q₁ := fun obj s₁ => obj = .ref s.heap.objs.size ∧ s₁ = { s with heap := s.heap.push (bareSet w) }) ⟨rfl, rfl⟩) fun r s₁ hr => ?_
  cases r with
  | error e => exact hr
  | ok fl =>
    cases fl with
    | ret obj =>
      obtain ⟨rfl, rfl⟩ := hr
      have hS : (s.heap.push (bareSet w)).get? s.heap.objs.size = some (bareSet w) := Heap.get?_push_size _ rfl
      have hT : Shared.TypeIs { s with heap := s.heap.push (bareSet w) } (.ref s.heap.objs.size) "set" := ⟨_, hS, rfl⟩
      have hli := PySem.F.called_set.init.lookup; have hbi := PySem.F.called_set.init.bind (.ref s.heap.objs.size)
      repeat (any_goals (first | assumption | wp_step))
      refine codeAny_mono (codeAny_call_builtin (R := wants (fun r s₂ => r = .none ∧ ∃ (h' : Heap) (tk c : Nat), s₂ = { s with heap := h', toks := tk } ∧ SetR w h' s.heap.objs.size (seenI (fun i => ns.getD i 0) items.size) c ∧ ∀ b o, b < s.heap.objs.size → s.heap.get? b = some o → h'.get? b = some o) E) PySem.F.called_set.init.plain PySem.F.entry_set_init (PySem.check_set_init_1 hT ?_)) fun r₂ s₂ hr₂ => ?_
      · obtain ⟨ol, hol, hcl, nl, hdl⟩ := hl
        obtain ⟨ocls, odict, odata, oslots⟩ := ol
        dsimp only at hcl hdl
        subst hcl hdl
        have hol1 : (s.heap.push (bareSet w)).get? l = some { cls := .type "list", dict := odict, data := .seq items nl, slots := oslots } := Heap.get?_push_of_some _ hol
        have hl1 : (s.heap.push (bareSet w)).IsList l items := ⟨_, hol1, rfl, nl, rfl⟩
        have n1 := PySem.F.sub_list_set; have n2 := PySem.F.sub_list_frozenset
        have n3 : (Value.type "list" == Value.type "dict") = false := by decide
        have hol' := hol1
        unfold bareSet at hol'
        unfold Builtin.«set.__init__» noKeywords Builtin.Frozenset.updateFrom; generalize hPI : pyIter = PI
        wp_walk
        subst hPI
        refine wpAny_pyIter_list hl1 (wpAny_bind (wpAny_runValue ?_))
        have hlS : l < s.heap.objs.size := Heap.lt_size hol
        have apart : l ≠ (s.heap.push (bareSet w)).objs.size := by rw [Heap.size_push]; exact Nat.ne_of_lt (Nat.lt_succ_of_lt hlS)
        have away : s.heap.objs.size ∉ [(s.heap.push (bareSet w)).objs.size, l] := by
          rw [Heap.size_push]
          intro hm
          rcases List.mem_cons.mp hm with e | hm
          · omega
          · exact Nat.ne_of_gt hlS (List.mem_singleton.mp hm)
        refine upd_loopR ((Walks.list (show A.in1.in1.in1.handled = none by simp [hh]) _ l apart items).toS) s.heap.objs.size away (fun i => ns.getD i 0) (fun i v hv => PyProof.Rows.IntsAre.int_at hi i v (by rw [Array.getElem?_toList]; exact hv)) hM hin (items.size - 0) 0 _ 0 (by omega) (Nat.zero_le _) ⟨⟨_, Heap.get?_push_size _ rfl, rfl, rfl⟩, hl1.push _⟩ ?fresh ?rest
        case fresh => exact ((setR_fresh (h := s.heap) w).at fun o e => Heap.get?_push_of_some _ e).congr fun k => rfl
        case rest =>
          intro s3 c3 mv S3
          obtain ⟨h3, g3, d3, tk3, os3⟩ := s3
          obtain rfl : g3 = s.gens := mv.gens
          obtain rfl : d3 = s.drawn := mv.drawn
          obtain rfl : os3 = s.os := mv.os
          refine wpAny_pure (show wpAny _ _ (ret Value.none) _ _ _ from wpAny_pure ⟨rfl, h3, tk3, c3, rfl, S3, fun b o hb e => ?_⟩)
          refine mv.heap b o (fun hm => ?_) (Heap.get?_push_of_some _ (Heap.get?_push_of_some _ e))
          rcases List.mem_cons.mp hm with e | hm
          · exact Nat.ne_of_lt hb e
          · have e := List.mem_singleton.mp hm
            rw [Heap.size_push] at e
            exact Nat.ne_of_lt (Nat.lt_succ_of_lt hb) e
      · cases r₂ with
        | error e => exact hr₂
        | ok fl₂ =>
          cases fl₂ with
          | ret r =>
            obtain ⟨rfl, h', tk, c, rfl, hS', hk'⟩ := hr₂
            repeat (any_goals (first | assumption | wp_step))
            exact h _ _ _ hS' hk'
          | _ => exact hr₂.elim
    | _ => exact hr.elim
end
theorem seenI_is (ns : List Int) (k : Int) : seenI (fun i => ns.getD i 0) ns.length k = decide (k ∈ ns) := by
  unfold seenI
  rw [Bool.eq_iff_iff, List.any_eq_true, decide_eq_true_iff]
  constructor
  · rintro ⟨j, hj, e⟩
    have hj := List.mem_range.mp hj
    have e := of_decide_eq_true e
    rw [← e]
    show ns.getD j 0 ∈ ns
    rw [List.getD_eq_getElem?_getD, List.getElem?_eq_getElem hj]
    exact List.getElem_mem hj
  · intro h
    obtain ⟨j, hj, e⟩ := List.mem_iff_getElem.mp h
    refine ⟨j, List.mem_range.mpr hj, decide_eq_true ?_⟩
    show ns.getD j 0 = k
    rw [List.getD_eq_getElem?_getD, List.getElem?_eq_getElem hj]
    exact e
section
variable {X : Cx}
/-- set(xs), all of them below M: it can be asked and sorted -/
def rSetO (K : PySem.W.Frag) (w : World) : List V → Hp → VK → Prop := fun xs H Q => ∃ (a : Addr) (ns : List Int) (M : Nat), xs = [.ref a] ∧ SqL K H a (ns.map V.int) ∧ M ≤ 4000 ∧ (∀ k ∈ ns, 0 ≤ k ∧ k < M) ∧ ∀ (p : Addr) (n : Nat), n ≤ M → H p = none → Q (.ref p) (upd H p (SetO w p (fun k => decide (k ∈ ns)) n))
theorem call_setO (hc : X.calm = true) : CallR X (.type "set") (rSetO X.K X.w) := by
  intro pins s σ H xs us Q I r h
  obtain ⟨a, ns, M, rfl, ha, hM, hin, q⟩ := h
  obtain ⟨u, rfl, rx⟩ := vals1 r
  obtain rfl : u = Value.ref a := rx
  obtain ⟨its, r', pl, hz⟩ := I.list ha
  have hsz : its.toArray.size = ns.length := by
    have := r'.length
    rw [List.length_map] at this
    rw [List.size_toArray]; omega
  refine call_setR (ns := ns) (M := M) (I.ok.hd hc) pl.isList (ints_of_vals r') (by unfold scanBound; omega) (fun i hi => ?_) fun h' tk c R k => ?_
  · rw [hsz] at hi
    show 0 ≤ ns.getD i 0 ∧ ns.getD i 0 < (M : Int)
    rw [List.getD_eq_getElem?_getD, List.getElem?_eq_getElem hi]
    exact hin _ (List.getElem_mem hi)
  · rw [hsz] at R
    have R1 := R.congr (S' := fun k => decide (k ∈ ns)) fun k => (seenI_is ns k).symm
    exact ⟨.ref s.heap.objs.size, _, I.laid (fun b o e => k b o (Heap.lt_size e) e) (Nat.le_refl _) (setO_new R1), rfl, q _ c (setR_le R1 fun k hk => hin k (of_decide_eq_true hk)) (I.hok.fresh (Nat.le_refl _))⟩
end
end KW

/-! The signs that a block's signs were copied from, and from whom. -/
namespace KW
open PySem L2
/-- where a sign was copied from, as it is told -/
def srcV (e : Int × Option Nat) : V := match e.2 with | some b => .int b | none => .non
/-- p is a sign of block ix, or one that such a sign was copied from, however often -/
inductive Rch (E : List (Int × Option Nat)) (ix : Int) : Nat → Prop
  | own {p : Nat} {b : Option Nat} (h : E[p]? = some (ix, b)) : Rch E ix p
  | back {p q : Nat} {a : Int} (r : Rch E ix p) (h : E[p]? = some (a, some q)) : Rch E ix q
/-- the blocks that block ix needs -/
def Needs (E : List (Int × Option Nat)) (ix k : Int) : Prop := k = ix ∨ ∃ (p : Nat) (b : Option Nat), Rch E ix p ∧ E[p]? = some (k, b)
theorem Rch.lt {E : List (Int × Option Nat)} {ix : Int} (hb : ∀ (p : Nat) (a : Int) (q : Nat), E[p]? = some (a, some q) → q < p) {p : Nat} (r : Rch E ix p) : p < E.length := by
  induction r with
  | own h => exact (List.getElem?_eq_some_iff.mp h).1
  | back r h ih => exact Nat.lt_trans (hb _ _ _ h) (List.getElem?_eq_some_iff.mp h).1
/-- a sign is reached just if its block is ix or a later reached sign was copied from it -/
theorem rch_iff {E : List (Int × Option Nat)} {ix : Int} (hb : ∀ (p : Nat) (a : Int) (q : Nat), E[p]? = some (a, some q) → q < p) {p : Nat} {a : Int} {b : Option Nat} (h : E[p]? = some (a, b)) : Rch E ix p ↔ a = ix ∨ ∃ (p' : Nat) (a' : Int), p + 1 ≤ p' ∧ Rch E ix p' ∧ E[p']? = some (a', some p) := by
  constructor
  · intro r
    cases r with
    | own h' =>
      rw [h] at h'
      exact .inl (congrArg Prod.fst (Option.some.inj h'))
    | back r h' => exact .inr ⟨_, _, hb _ _ _ h', r, h'⟩
  · rintro (rfl | ⟨p', a', _, r, h'⟩)
    · exact .own h
    · exact .back r h'
/-- marks: a sign is lost if its block is, or if what it was copied from is -/
def Marks (E : List (Int × Option Nat)) (gone : List Int) (M : List Bool) : Prop := ∀ (p : Nat) (a : Int) (b : Option Nat), E[p]? = some (a, b) → (M.getD p false = true ↔ a ∈ gone ∨ ∃ q, b = some q ∧ M.getD q false = true)
theorem marks_none {E : List (Int × Option Nat)} {gone : List Int} {M : List Bool} {ix : Int} (hm : Marks E gone M) (hb : ∀ (p : Nat) (a : Int) (q : Nat), E[p]? = some (a, some q) → q < p) (hg : ∀ k ∈ gone, ¬ Needs E ix k) : ∀ (n p : Nat), p < n → Rch E ix p → M.getD p false = false
  | 0, _, h, _ => absurd h (Nat.not_lt_zero _)
  | n + 1, p, hp, r => by
    have hl := r.lt hb
    obtain ⟨⟨a, b⟩, he⟩ : ∃ e, E[p]? = some e := ⟨_, List.getElem?_eq_getElem hl⟩
    cases hM : M.getD p false with
    | false => rfl
    | true =>
      rcases (hm p a b he).mp hM with h | ⟨q, rfl, hq⟩
      · exact absurd (.inr ⟨p, b, r, he⟩) (hg a h)
      · have h1 := marks_none hm hb hg n q (by have := hb p a q he; omega) (.back r he)
        rw [h1] at hq
        cases hq
theorem marks_some {E : List (Int × Option Nat)} {gone : List Int} {M : List Bool} {ix : Int} (hm : Marks E gone M) {q : Nat} (r : Rch E ix q) (hq : M.getD q false = true) : ∃ (p : Nat) (b : Option Nat), E[p]? = some (ix, b) ∧ M.getD p false = true := by
  induction r with
  | own h => exact ⟨_, _, h, hq⟩
  | back r h ih => exact ih ((hm _ _ _ h).mpr (.inr ⟨_, rfl, hq⟩))
end KW

/-! What is lost of one block. -/
namespace KW
open PySem L2
theorem splitB_ext : ∀ (ss : List Nat) (L L' : List Nat) (j : Nat), L.length = L'.length → (∀ p, p < ss.sum → ownr ss p = j → L[p]? = L'[p]?) → (splitB ss L)[j]? = (splitB ss L')[j]?
  | [], _, _, _, _, _ => rfl
  | s :: ss, L, L', 0, hl, h => by
    show some (L.take s) = some (L'.take s)
    congr 1
    refine List.ext_getElem? fun p => ?_
    rw [List.getElem?_take, List.getElem?_take]
    by_cases hp : p < s
    · rw [if_pos hp, if_pos hp]
      exact h p (by rw [List.sum_cons]; omega) (by unfold ownr; rw [if_pos hp])
    · rw [if_neg hp, if_neg hp]
  | s :: ss, L, L', j + 1, hl, h => by
    show (splitB ss (L.drop s))[j]? = (splitB ss (L'.drop s))[j]?
    refine splitB_ext ss _ _ j (by rw [List.length_drop, List.length_drop, hl]) fun p hp ho => ?_
    rw [List.getElem?_drop, List.getElem?_drop]
    refine h (s + p) (by rw [List.sum_cons]; omega) ?_
    unfold ownr
    rw [if_neg (by omega), Nat.add_sub_cancel_left, ho]
theorem splitB_mem : ∀ (ss : List Nat) (L : List Nat) (p x : Nat), p < ss.sum → L[p]? = some x → ∃ g, (splitB ss L)[ownr ss p]? = some g ∧ x ∈ g
  | [], _, _, _, h, _ => by simp at h
  | s :: ss, L, p, x, h, hx => by
    rw [List.sum_cons] at h
    unfold ownr
    by_cases hp : p < s
    · rw [if_pos hp]
      refine ⟨L.take s, rfl, List.mem_of_getElem? (i := p) ?_⟩
      rw [List.getElem?_take, if_pos hp]
      exact hx
    · rw [if_neg hp]
      exact splitB_mem ss (L.drop s) (p - s) x (by omega) (by rw [List.getElem?_drop, show s + (p - s) = p from by omega]; exact hx)
theorem splitB_flat {z : Str} {w : Nat} : ∀ (bs : List (List (List V))) (W : List Nat), (∀ b ∈ bs, ∀ t ∈ b, TokW z w t) → splitB (sizesB bs) (textB bs W).flatten = textB bs W
  | [], _, _ => rfl
  | b :: bs, W, h => by
    have ht := h b List.mem_cons_self
    have e := textA_len (z := z) b W fun t ht' => ⟨(ht t ht').ok, (ht t ht').pl.1⟩
    show splitB ((tsize b).toNat :: sizesB bs) (textA b W ++ (textB bs (W ++ textA b W)).flatten) = _
    rw [show (tsize b).toNat = (textA b W).length from by omega, splitB_app, splitB_flat bs _ fun c hc => h c (List.mem_cons_of_mem _ hc)]
    rfl
theorem ownr_there : ∀ (ss : List Nat) (j s : Nat), ss[j]? = some s → 0 < s → ∃ p, p < ss.sum ∧ ownr ss p = j
  | [], _, _, h, _ => by cases h
  | s :: ss, 0, t, h, h0 => by
    cases h
    exact ⟨0, by rw [List.sum_cons]; omega, by unfold ownr; rw [if_pos h0]⟩
  | s :: ss, j + 1, t, h, h0 => by
    obtain ⟨p, h1, h2⟩ := ownr_there ss j t h h0
    refine ⟨s + p, by rw [List.sum_cons]; omega, ?_⟩
    unfold ownr
    rw [if_neg (by omega), Nat.add_sub_cancel_left, h2]
section
variable {z : Str} {w : Nat} {bs : List (List (List V))}
theorem marks_of (h : ∀ b ∈ bs, ∀ t ∈ b, TokW z w t) (hb : badB w bs 0 = none) (gone : List Int) : Marks (backB 0 bs 0) gone (markB gone 0 bs []) := by
  have t := (told_blocks (z := z) (gone := gone) bs 0 0 [] h (Nat.le_refl _) hb).1
  intro p a b e
  have e1 := t p a b e
  rw [List.nil_append, List.length_nil, Nat.zero_add] at e1
  rw [e1, Bool.or_eq_true, decide_eq_true_iff]
  refine or_congr Iff.rfl ?_
  cases b with
  | none => exact ⟨fun h => (nomatch h), fun ⟨q, h, _⟩ => (nomatch h)⟩
  | some q => exact ⟨fun h => ⟨q, rfl, h⟩, fun ⟨q', h, h'⟩ => by cases h; exact h'⟩
theorem back_below (h : ∀ b ∈ bs, ∀ t ∈ b, TokW z w t) (hb : badB w bs 0 = none) : ∀ (p : Nat) (a : Int) (q : Nat), (backB 0 bs 0)[p]? = some (a, some q) → q < p := fun p a q e => by
  have := back_lt bs 0 0 0 p a q h (Nat.le_refl _) hb e
  omega
/-- what stands at p, and who wrote it -/
theorem back_there (h : ∀ b ∈ bs, ∀ t ∈ b, TokW z w t) {p : Nat} (hp : p < (sizesB bs).sum) : ∃ b, (backB 0 bs 0)[p]? = some (((ownr (sizesB bs) p : Nat) : Int), b) := by
  obtain ⟨⟨a, b⟩, e⟩ : ∃ e, (backB 0 bs 0)[p]? = some e := ⟨_, List.getElem?_eq_getElem (by rw [back_len bs 0 0 h]; exact hp)⟩
  have e1 := back_own bs 0 0 p a b h e
  refine ⟨b, ?_⟩
  rw [e, e1]
  simp
/-- the blocks that ix doesn't need may be lost -/
theorem loss_none (h : ∀ b ∈ bs, ∀ t ∈ b, TokW z w t) (hb : badB w bs 0 = none) {gone : List Int} {ix : Nat} (hg : ∀ k ∈ gone, ¬ Needs (backB 0 bs 0) ix k) : (lossT gone 0 bs [] [])[ix]? = (textB bs [])[ix]? := by
  obtain ⟨e, e2, e3⟩ := lossT_split (gone := gone) bs 0 0 [] [] h rfl (Nat.le_refl _) hb
  rw [e]
  conv => rhs; rw [← splitB_flat (z := z) (w := w) bs [] h]
  refine splitB_ext _ _ _ ix (mkL_len e2) fun p hp ho => ?_
  obtain ⟨b, hat⟩ := back_there h hp
  rw [ho] at hat
  have hm := marks_none (marks_of h hb gone) (back_below h hb) hg (p + 1) p (Nat.lt_succ_self p) (Rch.own hat)
  have hpl : p < (textB bs []).flatten.length := by rw [e3]; exact hp
  have hml : p < (mkL (markB gone 0 bs []) (textB bs []).flatten).length := by rw [mkL_len e2]; exact hpl
  have hg2 := mkL_get e2 hpl
  rw [hm, if_neg Bool.false_ne_true, List.getD_eq_getElem?_getD, List.getD_eq_getElem?_getD, List.getElem?_eq_getElem hml, List.getElem?_eq_getElem hpl] at hg2
  rw [List.getElem?_eq_getElem hml, List.getElem?_eq_getElem hpl]
  exact congrArg some hg2
/-- of a block that ix needs no sign may be missed, where ix has signs -/
theorem loss_some (h : ∀ b ∈ bs, ∀ t ∈ b, TokW z w t) (hb : badB w bs 0 = none) {ix : Nat} {b : List (List V)} (hix : bs[ix]? = some b) (h0 : 0 < tsize b) {k : Int} (hk : Needs (backB 0 bs 0) ix k) : ∃ g, (lossT [k] 0 bs [] [])[ix]? = some g ∧ 63 ∈ g := by
  obtain ⟨e, e2, e3⟩ := lossT_split (gone := [k]) bs 0 0 [] [] h rfl (Nat.le_refl _) hb
  have hmk := marks_of h hb [k]
  have there : ∃ (p : Nat) (c : Option Nat), (backB 0 bs 0)[p]? = some ((ix : Int), c) ∧ (markB [k] 0 bs []).getD p false = true := by
    rcases hk with rfl | ⟨q, c, r, hq⟩
    · obtain ⟨p, hp, ho⟩ := ownr_there (sizesB bs) ix (tsize b).toNat (by rw [List.getElem?_map, hix]; rfl) (by omega)
      obtain ⟨c, hat⟩ := back_there h hp
      rw [ho] at hat
      exact ⟨p, c, hat, (hmk p _ c hat).mpr (.inl (List.mem_singleton.mpr rfl))⟩
    · exact marks_some hmk r ((hmk q _ c hq).mpr (.inl (List.mem_singleton.mpr rfl)))
  obtain ⟨p, c, hat, hM⟩ := there
  have hp : p < (sizesB bs).sum := by rw [← back_len bs 0 0 h]; exact (List.getElem?_eq_some_iff.mp hat).1
  have ho : ownr (sizesB bs) p = ix := by
    have := back_own bs 0 0 p _ c h hat
    omega
  have hpl : p < (textB bs []).flatten.length := by rw [e3]; exact hp
  have hml : p < (mkL (markB [k] 0 bs []) (textB bs []).flatten).length := by rw [mkL_len e2]; exact hpl
  have hg2 := mkL_get e2 hpl
  rw [hM, if_pos rfl, List.getD_eq_getElem?_getD, List.getElem?_eq_getElem hml] at hg2
  obtain ⟨g, h1, h2⟩ := splitB_mem (sizesB bs) (mkL (markB [k] 0 bs []) (textB bs []).flatten) p 63 hp (by rw [List.getElem?_eq_getElem hml]; exact congrArg some hg2)
  rw [ho] at h1
  exact ⟨g, by rw [e]; exact h1, h2⟩
end
end KW

/-! A reader over plain tokens, told by places and by where the flushes stand; what is needed ahead. -/
namespace KW
open PySem L2
/-- a place of plain tokens -/
def PlainP (w : Nat) (p : List V) : Prop := (∃ c : Nat, p = [.str "sign", .str (sg c)]) ∨ ∃ d : Int, p = [.str "copy", .int d] ∧ 1 ≤ d ∧ d ≤ (w : Int)
def stepR (w : Nat) (p : List V) (line : List Nat) (kl : Nat) : Option (List Nat × Nat) :=
  match p with
  | [.str _, .str y] => some (line ++ cl y, min w (kl + 1))
  | [.str _, .int d] => if d ≤ (kl : Int) then some (line ++ [line.getD (line.length - d.toNat) 0], min w (kl + 1)) else none
  | _ => none
def readP (w : Nat) (f : Int → Bool) : List (List V) → List Nat → Nat → Int → Option (List Nat × Nat)
  | [], line, kl, i => some (line, if f i = true then 0 else kl)
  | p :: ps, line, kl, i => match stepR w p line (if f i = true then 0 else kl) with
    | none => none
    | some s => readP w f ps s.1 s.2 (i + 1)
def readT (w : Nat) : List (List V) → List Nat → Nat → Option (List Nat × Nat)
  | [], line, kl => some (line, kl)
  | t :: ts, line, kl => match badT kl t with
    | some _ => none
    | none => readT w ts (line ++ textT line t) (klT w kl t)
theorem readT_is {w : Nat} : ∀ (ts : List (List V)) (line : List Nat) (kl : Nat), readT w ts line kl = if badA w ts kl = none then some (line ++ textA ts line, klA w ts kl) else none
  | [], line, kl => by
    show some (line, kl) = if (none : Option (Int × Nat)) = none then some (line ++ [], kl) else none
    rw [if_pos rfl, List.append_nil]
  | t :: ts, line, kl => by
    unfold readT badA
    cases badT kl t with
    | some b => rw [if_neg (by intro e; cases e)]
    | none =>
      show readT w ts _ _ = if badA w ts _ = none then some (line ++ (textT line t ++ textA ts (line ++ textT line t)), klA w ts (klT w kl t)) else none
      rw [readT_is ts, List.append_assoc]
theorem readP_ext {w : Nat} {f g : Int → Bool} : ∀ (ps : List (List V)) (line : List Nat) (kl : Nat) (i : Int), (∀ k, i ≤ k → f k = g k) → readP w f ps line kl i = readP w g ps line kl i
  | [], line, kl, i, h => by unfold readP; rw [h i (Int.le_refl _)]
  | p :: ps, line, kl, i, h => by
    unfold readP
    rw [h i (Int.le_refl _)]
    cases stepR w p line (if g i = true then 0 else kl) with
    | none => rfl
    | some s => exact readP_ext ps _ _ (i + 1) fun k hk => h k (by omega)
theorem readP_here {w : Nat} {f g : Int → Bool} {ps : List (List V)} {line : List Nat} {kl kl' : Nat} {i : Int} (h : ∀ k, i < k → f k = g k) (e : (if f i = true then 0 else kl) = (if g i = true then 0 else kl')) : readP w f ps line kl i = readP w g ps line kl' i := by
  cases ps with
  | nil => unfold readP; rw [e]
  | cons p ps =>
    unfold readP
    rw [e]
    cases stepR w p line (if g i = true then 0 else kl') with
    | none => rfl
    | some s => exact readP_ext ps _ _ (i + 1) fun k hk => h k (by omega)
theorem cl_sg {c : Nat} : cl (sg c) = [c] := rfl
theorem readP_signs {w : Nat} {f : Int → Bool} {ps : List (List V)} : ∀ (cs : List Nat) (line : List Nat) (kl : Nat) (i : Int), kl ≤ w → (∀ k, i ≤ k → k < i + cs.length → f k = false) →
    readP w f ((cs.map fun c => [V.str "sign", V.str (sg c)]) ++ ps) line kl i = readP w f ps (line ++ cs) (min w (kl + cs.length)) (i + cs.length)
  | [], line, kl, i, hk, _ => by
    show readP w f ps line kl i = readP w f ps (line ++ []) (min w (kl + 0)) (i + ((0 : Nat) : Int))
    rw [List.append_nil, show i + ((0 : Nat) : Int) = i by omega, show min w (kl + 0) = kl by omega]
  | c :: cs, line, kl, i, hk, hf => by
    have h0 : f i = false := hf i (Int.le_refl _) (by rw [List.length_cons]; omega)
    have e : (if f i = true then 0 else kl) = kl := by rw [h0]; rfl
    show (match stepR w [V.str "sign", V.str (sg c)] line (if f i = true then 0 else kl) with | none => none | some s => readP w f ((cs.map fun c => [V.str "sign", V.str (sg c)]) ++ ps) s.1 s.2 (i + 1)) = _
    rw [e]
    show readP w f ((cs.map fun c => [V.str "sign", V.str (sg c)]) ++ ps) (line ++ cl (sg c)) (min w (kl + 1)) (i + 1) = _
    rw [readP_signs cs _ _ (i + 1) (Nat.min_le_left _ _) (fun k h1 h2 => hf k (by omega) (by rw [List.length_cons]; omega)), cl_sg, List.append_assoc, List.length_cons]
    rw [show i + 1 + (cs.length : Int) = i + ((cs.length + 1 : Nat) : Int) by omega, show min w (min w (kl + 1) + cs.length) = min w (kl + (cs.length + 1)) by omega]
    rfl
theorem copyN_cons {line : List Nat} {d : Nat} : ∀ n, copyN line d (n + 1) = line.getD (line.length - d) 0 :: copyN (line ++ [line.getD (line.length - d) 0]) d n
  | 0 => by
    show [] ++ [(line ++ []).getD (line.length + 0 - d) 0] = _
    rw [List.append_nil]
    rfl
  | n + 1 => by
    obtain ⟨x, hx⟩ : ∃ x, x = line.getD (line.length - d) 0 := ⟨_, rfl⟩
    have ih := copyN_cons (line := line) (d := d) n
    rw [← hx] at ih ⊢
    show copyN line d (n + 1) ++ [(line ++ copyN line d (n + 1)).getD (line.length + (n + 1) - d) 0] = x :: (copyN (line ++ [x]) d n ++ [((line ++ [x]) ++ copyN (line ++ [x]) d n).getD ((line ++ [x]).length + n - d) 0])
    rw [ih, List.cons_append, List.append_assoc, List.length_append, List.length_singleton, show line.length + 1 + n - d = line.length + (n + 1) - d by omega]
    rfl
theorem readP_copies {w : Nat} {f : Int → Bool} {ps : List (List V)} {d : Int} (h1 : 1 ≤ d) (hw : d ≤ (w : Int)) : ∀ (n : Nat) (line : List Nat) (kl : Nat) (i : Int), kl ≤ w → d ≤ (kl : Int) → (∀ k, i ≤ k → k < i + n → f k = false) →
    readP w f (List.replicate n [V.str "copy", V.int d] ++ ps) line kl i = readP w f ps (line ++ copyN line d.toNat n) (min w (kl + n)) (i + n)
  | 0, line, kl, i, hk, _, _ => by
    show readP w f ps line kl i = readP w f ps (line ++ []) (min w (kl + 0)) (i + ((0 : Nat) : Int))
    rw [List.append_nil, show i + ((0 : Nat) : Int) = i by omega, show min w (kl + 0) = kl by omega]
  | n + 1, line, kl, i, hk, hd, hf => by
    have h0 : f i = false := hf i (Int.le_refl _) (by omega)
    have e : (if f i = true then 0 else kl) = kl := by rw [h0]; rfl
    show (match stepR w [V.str "copy", V.int d] line (if f i = true then 0 else kl) with | none => none | some s => readP w f (List.replicate n [V.str "copy", V.int d] ++ ps) s.1 s.2 (i + 1)) = _
    rw [e]
    show (match (if d ≤ (kl : Int) then some (line ++ [line.getD (line.length - d.toNat) 0], min w (kl + 1)) else none) with | none => none | some s => readP w f (List.replicate n [V.str "copy", V.int d] ++ ps) s.1 s.2 (i + 1)) = _
    rw [if_pos hd]
    show readP w f (List.replicate n [V.str "copy", V.int d] ++ ps) (line ++ [line.getD (line.length - d.toNat) 0]) (min w (kl + 1)) (i + 1) = _
    rw [readP_copies h1 hw n _ _ (i + 1) (Nat.min_le_left _ _) (by omega) (fun k h1 h2 => hf k (by omega) (by omega)), copyN_cons, List.append_assoc]
    rw [show i + 1 + (n : Int) = i + ((n + 1 : Nat) : Int) by omega, show min w (min w (kl + 1) + n) = min w (kl + (n + 1)) by omega]
    rfl
open Classical in
theorem read_places {z : Str} {w : Nat} : ∀ (ts : List (List V)) (line : List Nat) (kl : Nat) (i : Int), (∀ t ∈ ts, TokW z w t) → kl ≤ w → readT w ts line kl = readP w (fun k => decide (flAt ts (k - i))) (placesL ts) line kl i
  | [], line, kl, i, _, _ => by
    have e : decide (flAt [] (i - i)) = false := decide_eq_false fun h => h
    show some (line, kl) = some (line, if decide (flAt [] (i - i)) = true then 0 else kl)
    rw [e]
    rfl
  | t :: ts, line, kl, i, h, hk => by
    have ht := h t List.mem_cons_self
    have hr : ∀ u ∈ ts, TokW z w u := fun u hu => h u (List.mem_cons_of_mem _ hu)
    have hro : ∀ u ∈ ts, tokV z u = true := fun u hu => (hr u hu).ok
    have hneg : ∀ k, k < 0 → ¬ flAt ts k := fun k hk hc => by
      have := flAt_nn ts k hro hc
      omega
    have hpl : placesL (t :: ts) = placeT t ++ placesL ts := rfl
    rw [hpl]
    rcases ht.cases with rfl | ⟨y, rfl, hy, y1, y2⟩ | ⟨d, n, rfl, d1, d2, n1, n2⟩
    · show readT w ts (line ++ []) 0 = readP w _ (placesL ts) line kl i
      rw [List.append_nil, read_places ts line 0 i hr (Nat.zero_le _)]
      refine readP_here (fun k hk => decide_eq_decide.mpr ?_) ?_
      · show flAt ts (k - i) ↔ (k - i = 0 ∨ flAt ts (k - i))
        constructor
        · exact .inr
        · rintro (h1 | h1)
          · omega
          · exact h1
      · have e2 : decide (flAt ([.str "flush"] :: ts) (i - i)) = true := decide_eq_true (Or.inl (by omega) : i - i = 0 ∨ flAt ts (i - i))
        simp only [e2, if_true]
        split <;> rfl
    · have hsz : sizeV [.str "text", .str y] = y.length := sizeV_text y
      have hcl := cl_len y
      show readT w ts (line ++ cl y) (min w (kl + y.length)) = _
      rw [place_text, readP_signs (cl y) line kl i hk, hcl, read_places ts _ _ (i + y.length) hr (Nat.min_le_left _ _)]
      · refine readP_ext _ _ _ _ fun k _ => decide_eq_decide.mpr ?_
        rw [flAt_two, hsz, show k - (i + (y.length : Int)) = k - i - (y.length : Int) by omega]
      · intro k h1 h2
        refine decide_eq_false ?_
        rw [flAt_two, hsz]
        exact hneg _ (by omega)
    · have hsz : sizeV [.str "copy", .int d, .int n] = n := rfl
      have hpt : placeT [.str "copy", .int d, .int n] = List.replicate n.toNat [.str "copy", .int d] := rfl
      have hno : ∀ k, i ≤ k → k < i + (n.toNat : Int) → decide (flAt ([.str "copy", .int d, .int n] :: ts) (k - i)) = false := fun k _ h2 => by
        refine decide_eq_false ?_
        rw [flAt_two, hsz]
        exact hneg _ (by omega)
      rw [hpt]
      show (match (if d ≤ (kl : Int) then none else some (d, kl)) with | some _ => none | none => readT w ts (line ++ copyN line d.toNat n.toNat) (min w (kl + n.toNat))) = _
      by_cases hd : d ≤ (kl : Int)
      · rw [if_pos hd]
        show readT w ts (line ++ copyN line d.toNat n.toNat) (min w (kl + n.toNat)) = _
        rw [readP_copies d1 d2 n.toNat line kl i hk hd hno, read_places ts _ _ (i + n.toNat) hr (Nat.min_le_left _ _)]
        refine readP_ext _ _ _ _ fun k _ => decide_eq_decide.mpr ?_
        rw [flAt_two, hsz, show k - (i + (n.toNat : Int)) = k - i - n by omega]
      · rw [if_neg hd]
        show none = _
        obtain ⟨m, hm⟩ : ∃ m, n.toNat = m + 1 := ⟨n.toNat - 1, by omega⟩
        have h0 := hno i (Int.le_refl _) (by omega)
        rw [hm, List.replicate_succ, List.cons_append]
        show none = (match stepR w [V.str "copy", V.int d] line (if decide (flAt ([.str "copy", .int d, .int n] :: ts) (i - i)) = true then 0 else kl) with | none => none | some s => readP w _ (List.replicate m [V.str "copy", V.int d] ++ placesL ts) s.1 s.2 (i + 1))
        rw [h0]
        show none = (match (if d ≤ (kl : Int) then some (line ++ [line.getD (line.length - d.toNat) 0], min w (kl + 1)) else none) with | none => none | some s => readP w _ (List.replicate m [V.str "copy", V.int d] ++ placesL ts) s.1 s.2 (i + 1))
        rw [if_neg hd]
/-- tokens with the same places and flushes are read alike -/
theorem read_of {z : Str} {w : Nat} {ts us : List (List V)} {line : List Nat} {kl : Nat} (h : ∀ t ∈ ts, TokW z w t) (h' : ∀ t ∈ us, TokW z w t) (hk : kl ≤ w) (hp : placesL us = placesL ts) (hf : ∀ m, m ∈ flushA us 0 [] ↔ m ∈ flushA ts 0 []) : readT w us line kl = readT w ts line kl := by
  rw [read_places us line kl 0 h' hk, read_places ts line kl 0 h hk, hp]
  refine readP_ext _ _ _ _ fun k _ => decide_eq_decide.mpr ?_
  rw [Int.sub_zero, ← mem_flush0 (fun t ht => (h t ht).ok), ← mem_flush0 (fun t ht => (h' t ht).ok)]
  exact hf k
theorem plainP_of {z : Str} {w : Nat} {ts : List (List V)} (h : ∀ t ∈ ts, TokW z w t) : ∀ p ∈ placesL ts, PlainP w p := by
  intro p hp
  unfold placesL at hp
  obtain ⟨t, ht, hp⟩ := List.mem_flatMap.mp hp
  rcases (h t ht).cases with rfl | ⟨y, rfl, hy, y1, y2⟩ | ⟨d, n, rfl, d1, d2, n1, n2⟩
  · exact nomatch (show p ∈ ([] : List (List V)) from hp)
  · rw [place_text] at hp
    obtain ⟨c, _, rfl⟩ := List.mem_map.mp hp
    exact .inl ⟨c, rfl⟩
  · have hp : p ∈ List.replicate n.toNat [V.str "copy", V.int d] := hp
    rw [List.eq_of_mem_replicate hp]
    exact .inr ⟨d, rfl, d1, d2⟩
theorem tokW_of {z : Str} {w : Nat} {us : List (List V)} (h : ∀ t ∈ us, tokV z t = true) (hp : ∀ p ∈ placesL us, PlainP w p) : ∀ t ∈ us, TokW z w t := by
  intro t ht
  have hok := h t ht
  have hin : ∀ p ∈ placeT t, PlainP w p := fun p hpt => hp p (List.mem_flatMap.mpr ⟨t, ht, hpt⟩)
  obtain ⟨kd, rest, rfl, hk⟩ := tok_inv hok
  rcases hk with ⟨rfl, rfl⟩ | ⟨y, rfl, rfl, h1, h2, h3⟩ | ⟨y, rfl, rfl, h1⟩ | ⟨d, n, hkd, rfl, h1, h2, h3, h4⟩
  · exact TokW.flush
  · exact TokW.text h1 (by omega) (by omega)
  · rw [place_any] at hin
    rcases hin _ (List.mem_singleton.mpr rfl) with ⟨c, e⟩ | ⟨d, e, _⟩
    · injection e with e _
      injection e with e
      exact absurd e (by decide +kernel)
    · injection e with _ e
      injection e with e _
      cases e
  · have hm : [V.str kd, V.int d] ∈ placeT [V.str kd, V.int d, V.int n] := by
      show _ ∈ List.replicate n.toNat [V.str kd, V.int d]
      exact List.mem_replicate.mpr ⟨by omega, rfl⟩
    rcases hin _ hm with ⟨c, e⟩ | ⟨d', e, e1, e2⟩
    · injection e with _ e
      injection e with e _
      cases e
    · injection e with ea eb
      injection ea with ea
      injection eb with eb _
      injection eb with eb
      subst ea eb
      exact ⟨hok, plain_copy, fun d' n' e' => by cases e'; exact e2⟩
theorem needsP_mono {f : Int → Bool} : ∀ (ps : List (List V)) (fl : Option Int) (m i : Int), needsP f ps fl m i = .non ∨ ∃ n, needsP f ps fl m i = .int n ∧ m ≤ n
  | [], fl, m, i => .inr ⟨m, rfl, Int.le_refl _⟩
  | p :: ps, fl, m, i => by
    unfold needsP
    cases e : stepP p (if f i = true then some i else fl) m i with
    | none => exact .inl rfl
    | some m' =>
      have hm : m ≤ m' := by
        unfold stepP at e
        split at e
        · split at e
          · split at e
            · cases e
              split <;> omega
            · split at e
              · cases e
              · cases e; omega
          · cases e; omega
        · cases e; omega
      rcases needsP_mono ps (if f i = true then some i else fl) m' (i + 1) with h | ⟨n, h1, h2⟩
      · exact .inl h
      · exact .inr ⟨n, h1, by omega⟩
/-- what is kept behind so many signs, and behind a flush -/
def KeptAt (w kl0 kl : Nat) (i : Int) : Option Int → Prop
  | none => (kl : Int) = min (w : Int) (kl0 + i)
  | some x => (kl : Int) = min (w : Int) (i - x)
/-- a reader that keeps so many signs is refused just where more is needed -/
theorem read_needs {w : Nat} {f : Int → Bool} {kl0 : Nat} (hk0 : kl0 ≤ w) : ∀ (ps : List (List V)) (fl : Option Int) (m i : Int) (line : List Nat) (kl : Nat), (∀ p ∈ ps, PlainP w p) → 0 ≤ i → m ≤ (kl0 : Int) →
    KeptAt w kl0 kl i fl →
    (readP w f ps line kl i = none ↔ (needsP f ps fl m i = .non ∨ ∃ n, needsP f ps fl m i = .int n ∧ (kl0 : Int) < n))
  | [], fl, m, i, line, kl, _, _, hm, _ => by
    show some _ = none ↔ (V.int m = .non ∨ ∃ n, V.int m = .int n ∧ (kl0 : Int) < n)
    constructor
    · intro e; cases e
    · rintro (e | ⟨n, e, h⟩)
      · cases e
      · cases e
        omega
  | p :: ps, fl, m, i, line, kl, hp, hi, hm, hkl => by
    have hr : ∀ q ∈ ps, PlainP w q := fun q hq => hp q (List.mem_cons_of_mem _ hq)
    unfold readP needsP
    have hkl' : KeptAt w kl0 (if f i = true then 0 else kl) i (if f i = true then some i else fl) := by
      by_cases hf : f i = true
      · rw [if_pos hf, if_pos hf]
        show ((0 : Nat) : Int) = min (w : Int) (i - i)
        omega
      · rw [if_neg hf, if_neg hf]
        exact hkl
    generalize (if f i = true then some i else fl) = fl' at hkl'
    generalize (if f i = true then 0 else kl) = kl' at hkl'
    have nx : KeptAt w kl0 (min w (kl' + 1)) (i + 1) fl' := by
      cases fl' with
      | none =>
        have hkl' : (kl' : Int) = min (w : Int) (kl0 + i) := hkl'
        show ((min w (kl' + 1) : Nat) : Int) = min (w : Int) (kl0 + (i + 1))
        omega
      | some x =>
        have hkl' : (kl' : Int) = min (w : Int) (i - x) := hkl'
        show ((min w (kl' + 1) : Nat) : Int) = min (w : Int) ((i + 1) - x)
        omega
    rcases hp p List.mem_cons_self with ⟨c, rfl⟩ | ⟨d, rfl, d1, d2⟩
    · have e1 : stepP [V.str "sign", V.str (sg c)] fl' m i = some m := rfl
      rw [e1]
      exact read_needs hk0 ps fl' m (i + 1) _ _ hr (by omega) hm nx
    · have e2 : stepR w [V.str "copy", V.int d] line kl' = if d ≤ (kl' : Int) then some (line ++ [line.getD (line.length - d.toNat) 0], min w (kl' + 1)) else none := rfl
      rw [e2]
      cases fl' with
      | none =>
        have hkl' : (kl' : Int) = min (w : Int) (kl0 + i) := hkl'
        have e1 : stepP [V.str "copy", V.int d] none m i = some (if d - i > m then d - i else m) := by
          simp only [stepP, if_true]
          try (split <;> rfl)
        rw [e1]
        by_cases hd : d ≤ (kl' : Int)
        · rw [if_pos hd]
          exact read_needs hk0 ps none _ (i + 1) _ _ hr (by omega) (by split <;> omega) nx
        · rw [if_neg hd]
          have hn : d - i > m := by omega
          rw [if_pos hn]
          show none = none ↔ _
          refine ⟨fun _ => ?_, fun _ => rfl⟩
          rcases needsP_mono (f := f) ps none (d - i) (i + 1) with h | ⟨n, h1, h2⟩
          · exact .inl h
          · exact .inr ⟨n, h1, by omega⟩
      | some x =>
        have hkl' : (kl' : Int) = min (w : Int) (i - x) := hkl'
        have e1 : stepP [V.str "copy", V.int d] (some x) m i = if i - x < d then none else some m := by
          simp only [stepP, if_true]
        rw [e1]
        by_cases hd : d ≤ (kl' : Int)
        · rw [if_pos hd, if_neg (by omega)]
          exact read_needs hk0 ps (some x) m (i + 1) _ _ hr (by omega) hm nx
        · rw [if_neg hd, if_pos (by omega)]
          exact ⟨fun _ => .inl rfl, fun _ => rfl⟩
/-- the same, of tokens -/
theorem bad_needs {z : Str} {w : Nat} {ts : List (List V)} {kl : Nat} (h : ∀ t ∈ ts, TokW z w t) (hk : kl ≤ w) : badA w ts kl ≠ none ↔ (needsL ts none 0 0 = .non ∨ ∃ n, needsL ts none 0 0 = .int n ∧ (kl : Int) < n) := by
  classical
  have e := readT_is (w := w) ts [] kl
  rw [read_places ts [] kl 0 h hk] at e
  rw [needs_places ts (fun t ht => (h t ht).ok), ← read_needs hk (placesL ts) none 0 0 [] kl (plainP_of h) (by decide) (by omega) (by show (kl : Int) = min (w : Int) (kl + 0); omega), e]
  constructor
  · intro hb; rw [if_neg hb]
  · intro hn hb; rw [if_pos hb] at hn; cases hn
/-- each copied sign is the one so far back, each sign its own -/
theorem read_right {w : Nat} {f : Int → Bool} : ∀ (ps : List (List V)) (line : List Nat) (kl : Nat) (i : Int) (L : List Nat) (k : Nat), (∀ p ∈ ps, PlainP w p) → kl ≤ line.length → readP w f ps line kl i = some (L, k) →
    L.length = line.length + ps.length ∧ (∀ j, j < line.length → L[j]? = line[j]?) ∧ ∀ (j : Nat) (p : List V), ps[j]? = some p → ∃ c, L[line.length + j]? = some c ∧ ((p = [.str "sign", .str (sg c)]) ∨ ∃ d : Int, p = [.str "copy", .int d] ∧ 1 ≤ d ∧ d ≤ ((line.length + j : Nat) : Int) ∧ L[line.length + j - d.toNat]? = some c)
  | [], line, kl, i, L, k, _, _, e => by
    cases e
    exact ⟨rfl, fun _ _ => rfl, fun j p h => nomatch h⟩
  | p :: ps, line, kl, i, L, k, hp, hkl, e => by
    have hr : ∀ q ∈ ps, PlainP w q := fun q hq => hp q (List.mem_cons_of_mem _ hq)
    unfold readP at e
    have hkl' : (if f i = true then 0 else kl) ≤ line.length := by split <;> omega
    generalize (if f i = true then 0 else kl) = kl' at e hkl'
    have main : ∀ c, readP w f ps (line ++ [c]) (min w (kl' + 1)) (i + 1) = some (L, k) → ((p = [.str "sign", .str (sg c)]) ∨ ∃ d : Int, p = [.str "copy", .int d] ∧ 1 ≤ d ∧ d ≤ ((line.length : Nat) : Int) ∧ line[line.length - d.toNat]? = some c) →
        L.length = line.length + (p :: ps).length ∧ (∀ j, j < line.length → L[j]? = line[j]?) ∧ ∀ (j : Nat) (q : List V), (p :: ps)[j]? = some q → ∃ c, L[line.length + j]? = some c ∧ ((q = [.str "sign", .str (sg c)]) ∨ ∃ d : Int, q = [.str "copy", .int d] ∧ 1 ≤ d ∧ d ≤ ((line.length + j : Nat) : Int) ∧ L[line.length + j - d.toNat]? = some c) := by
      intro c e1 hc
      have hl1 : (line ++ [c]).length = line.length + 1 := by rw [List.length_append]; rfl
      obtain ⟨h1, h2, h3⟩ := read_right ps (line ++ [c]) (min w (kl' + 1)) (i + 1) L k hr (by rw [hl1]; omega) e1
      rw [hl1] at h1 h2 h3
      refine ⟨by rw [h1, List.length_cons]; omega, fun j hj => by rw [h2 j (by omega), List.getElem?_append_left hj], fun j q hq => ?_⟩
      cases j with
      | zero =>
        cases hq
        have hLc : L[line.length]? = some c := by
          rw [h2 line.length (by omega), List.getElem?_append_right (Nat.le_refl _), Nat.sub_self]
          rfl
        refine ⟨c, hLc, ?_⟩
        rcases hc with h | ⟨d, h, hd1, hd2, hd3⟩
        · exact .inl h
        · refine .inr ⟨d, h, hd1, hd2, ?_⟩
          show L[line.length - d.toNat]? = some c
          rw [h2 _ (by omega), List.getElem?_append_left (by omega), hd3]
      | succ j =>
        have hq : ps[j]? = some q := hq
        have := h3 j q hq
        rw [show line.length + 1 + j = line.length + (j + 1) by omega] at this
        exact this
    rcases hp p List.mem_cons_self with ⟨c, rfl⟩ | ⟨d, rfl, d1, d2⟩
    · exact main c e (.inl rfl)
    · have e2 : stepR w [V.str "copy", V.int d] line kl' = if d ≤ (kl' : Int) then some (line ++ [line.getD (line.length - d.toNat) 0], min w (kl' + 1)) else none := rfl
      rw [e2] at e
      by_cases hd : d ≤ (kl' : Int)
      · rw [if_pos hd] at e
        refine main _ e (.inr ⟨d, rfl, d1, by omega, ?_⟩)
        rw [List.getD_eq_getElem?_getD, List.getElem?_eq_getElem (by omega)]
        rfl
      · rw [if_neg hd] at e
        cases e
end KW

/-! A piece read part by part. -/
namespace KW
open PySem L2
theorem chunk_in {len n : Int} {i : Nat} (n0 : 1 ≤ n) (hi : (i : Int) < (len + n - 1) / n) : 0 ≤ (i : Int) * n ∧ (i : Int) * n < len := by
  have h2 : ((i : Int) + 1) * n ≤ len + n - 1 := (Int.le_ediv_iff_mul_le (by omega)).mp (by omega)
  rw [Int.add_mul, Int.one_mul] at h2
  exact ⟨Int.mul_nonneg (by omega) (by omega), by omega⟩
def chunkT (ts : List (List V)) (n : Int) (i : Nat) : List (List V) := partT ts (i * n) (if tsize ts < i * n + n then tsize ts else i * n + n)
/-- the first so many parts, one behind the other -/
def chunksT (ts : List (List V)) (n : Int) (i : Nat) : List (List (List V)) := (List.range i).map (chunkT ts n)
theorem chunks_upto {z : Str} {ts : List (List V)} {n : Int} (h : ∀ t ∈ ts, tokV z t = true) (hs0 : 1 ≤ tsize ts) (hs : tsize ts ≤ 40) (n0 : 1 ≤ n) : ∀ i : Nat, (i : Int) ≤ (tsize ts + n - 1) / n →
    ∃ e : Int, (e = if tsize ts < i * n then tsize ts else i * n) ∧ 0 ≤ e ∧ e ≤ tsize ts ∧ (∀ t ∈ (chunksT ts n i).flatten, tokV z t = true) ∧ placesL (chunksT ts n i).flatten = (placesL ts).take e.toNat ∧ tsize (chunksT ts n i).flatten = e ∧
      ∀ m, m ∈ flushA (chunksT ts n i).flatten 0 [] ↔ (m ∈ flushA ts 0 [] ∧ (m < e ∨ (m = e ∧ e = tsize ts)))
  | 0, _ => by
    refine ⟨0, ?_, Int.le_refl _, by omega, (fun t ht => nomatch ht), rfl, rfl, fun m => ?_⟩
    · show (0 : Int) = if tsize ts < ((0 : Nat) : Int) * n then tsize ts else ((0 : Nat) : Int) * n
      rw [show ((0 : Nat) : Int) * n = 0 from Int.zero_mul n, if_neg (by omega)]
    · show m ∈ ([] : List Int) ↔ _
      constructor
      · intro e; cases e
      · rintro ⟨h1, h2⟩
        have := flushA_in ts z 0 [] h (by decide) (fun _ h => nomatch h) m h1
        omega
  | i + 1, hi => by
    obtain ⟨e, he, e0, e1, hok, hpl, hsz, hfl⟩ := chunks_upto h hs0 hs n0 i (by omega)
    obtain ⟨i0, i1⟩ := chunk_in (len := tsize ts) (i := i) n0 (by omega)
    rw [if_neg (by omega)] at he
    have hm : ((i + 1 : Nat) : Int) * n = i * n + n := by
      rw [Int.natCast_add, Int.add_mul]
      show _ + 1 * n = _
      rw [Int.one_mul]
    obtain ⟨e', he'⟩ : ∃ e' : Int, e' = if tsize ts < i * n + n then tsize ts else i * n + n := ⟨_, rfl⟩
    have hlt : e < e' ∧ e' ≤ tsize ts := by rw [he', he]; split <;> omega
    have hct : chunkT ts n i = partT ts e e' := by unfold chunkT; rw [← he', ← he]
    have g := part_grown h hs e0 hlt.1 hlt.2
    have pf := fun m => part_flush (m := m) h hs e0 hlt.1 hlt.2
    have ps := part_size h hs e0 hlt.1 hlt.2
    have hfl2 : (chunksT ts n (i + 1)).flatten = (chunksT ts n i).flatten ++ partT ts e e' := by
      unfold chunksT
      rw [List.range_succ, List.map_append, List.flatten_append, ← hct]
      simp
    have hlen := places_len h
    refine ⟨e', by rw [hm]; exact he', by omega, hlt.2, ?_, ?_, ?_, fun m => ?_⟩
    · intro t ht
      rw [hfl2] at ht
      rcases List.mem_append.mp ht with h1 | h1
      · exact hok t h1
      · exact g.ok t h1
    · rw [hfl2, places_app, hpl, g.places, show e'.toNat = e.toNat + (e' - e).toNat by omega, List.take_add]
    · rw [hfl2, tsize_app, hsz, ps]; omega
    · rw [hfl2, mem_flush_app hok g.ok, hsz, hfl, pf, show m - e + e = m by omega]
      constructor
      · rintro (⟨h1, h2⟩ | ⟨h1, h2, h3⟩)
        · exact ⟨h1, by omega⟩
        · exact ⟨h1, h3⟩
      · rintro ⟨h1, h2⟩
        by_cases hm : m < e
        · exact .inl ⟨h1, .inl hm⟩
        · exact .inr ⟨h1, by omega, h2⟩
theorem chunks_read {z : Str} {w : Nat} {ts : List (List V)} {n : Int} {N : Nat} {line : List Nat} {kl : Nat} (h : ∀ t ∈ ts, TokW z w t) (hs0 : 1 ≤ tsize ts) (hs : tsize ts ≤ 40) (n0 : 1 ≤ n) (hN : (N : Int) = (tsize ts + n - 1) / n) (hk : kl ≤ w) :
    (∀ us ∈ chunksT ts n N, (∀ t ∈ us, TokW z w t)) ∧ tsize (chunksT ts n N).flatten = tsize ts ∧ (if badA w (chunksT ts n N).flatten kl = none then V.str (stL (textA (chunksT ts n N).flatten line)) else V.non) = (if badA w ts kl = none then V.str (stL (textA ts line)) else V.non) := by
  have hok : ∀ t ∈ ts, tokV z t = true := fun t ht => (h t ht).ok
  obtain ⟨e, he, e0, e1, hok', hpl, hsz, hfl⟩ := chunks_upto hok hs0 hs n0 N (by omega)
  have hlen := places_len hok
  have h1 : tsize ts ≤ N * n := by
    have a1 := Int.mul_ediv_add_emod (tsize ts + n - 1) n
    have a2 := Int.emod_lt_of_pos (tsize ts + n - 1) (show 0 < n by omega)
    rw [← hN, Int.mul_comm] at a1
    omega
  have ee : e = tsize ts := by
    rw [he]
    split <;> omega
  subst ee
  rw [show (tsize ts).toNat = (placesL ts).length by omega, List.take_length] at hpl
  have hTW : ∀ t ∈ (chunksT ts n N).flatten, TokW z w t := tokW_of hok' (by rw [hpl]; exact plainP_of h)
  refine ⟨fun us hu t ht => hTW t (List.mem_flatten.mpr ⟨us, hu, ht⟩), hsz, ?_⟩
  have q := read_of (line := line) (kl := kl) h hTW hk hpl fun m => by
    rw [hfl]
    constructor
    · exact fun h => h.1
    · intro hm
      have := flushA_in ts z 0 [] hok (by decide) (fun _ h => nomatch h) m hm
      exact ⟨hm, by omega⟩
  rw [readT_is, readT_is] at q
  split at q
  · rename_i hb
    split at q
    · rename_i hb2
      rw [if_pos hb, if_pos hb2]
      injection q with q
      have q2 := congrArg Prod.fst q
      have q2 : line ++ textA (chunksT ts n N).flatten line = line ++ textA ts line := q2
      rw [List.append_cancel_left q2]
    · cases q
  · rename_i hb
    split at q
    · cases q
    · rename_i hb2
      rw [if_neg hb, if_neg hb2]
end KW

namespace KW
open PySem L2
def top (i : Nat) : Stmt := PySem.Challenge.pw_windowcuts_k00_whole_pieces_need_what_re.main.body.getD i (.Pass ⟨0, 0, 0, 0⟩)
abbrev s_ascends : Stmt := top 18
abbrev N_ascends : List Str := ["text", "one", "other"]
theorem sc_ascends : FnScope N_ascends ["text"] (defScope s_ascends) := ⟨rfl, rfl, rfl, by decide +kernel, rfl, by decide +kernel, by decide +kernel⟩
abbrev s_is_text : Stmt := top 15
abbrev N_is_text : List Str := ["signs", "thing", "sign"]
theorem sc_is_text : FnScope N_is_text ["signs", "thing"] (defScope s_is_text) := ⟨rfl, rfl, rfl, by decide +kernel, rfl, by decide +kernel, by decide +kernel⟩
abbrev s_is_choice : Stmt := top 16
abbrev N_is_choice : List Str := ["signs", "thing"]
theorem sc_is_choice : FnScope N_is_choice ["signs", "thing"] (defScope s_is_choice) := ⟨rfl, rfl, rfl, by decide +kernel, rfl, by decide +kernel, by decide +kernel⟩
abbrev s_is_integer : Stmt := top 11
abbrev N_is_integer : List Str := ["thing"]
theorem sc_is_integer : FnScope N_is_integer ["thing"] (defScope s_is_integer) := ⟨rfl, rfl, rfl, by decide +kernel, rfl, by decide +kernel, by decide +kernel⟩
abbrev s_is_within : Stmt := top 12
abbrev N_is_within : List Str := ["thing", "least", "most"]
theorem sc_is_within : FnScope N_is_within ["thing", "least", "most"] (defScope s_is_within) := ⟨rfl, rfl, rfl, by decide +kernel, rfl, by decide +kernel, by decide +kernel⟩
abbrev s_is_distance : Stmt := top 24
abbrev N_is_distance : List Str := ["thing"]
theorem sc_is_distance : FnScope N_is_distance ["thing"] (defScope s_is_distance) := ⟨rfl, rfl, rfl, by decide +kernel, rfl, by decide +kernel, by decide +kernel⟩
abbrev s_is_token : Stmt := top 22
abbrev N_is_token : List Str := ["signs", "thing", "kind"]
theorem sc_is_token : FnScope N_is_token ["signs", "thing"] (defScope s_is_token) := ⟨rfl, rfl, rfl, by decide +kernel, rfl, by decide +kernel, by decide +kernel⟩
abbrev s_size : Stmt := top 25
abbrev N_size : List Str := ["token", "kind"]
theorem sc_size : FnScope N_size ["token"] (defScope s_size) := ⟨rfl, rfl, rfl, by decide +kernel, rfl, by decide +kernel, by decide +kernel⟩
abbrev s_are_tokens : Stmt := top 30
abbrev N_are_tokens : List Str := ["signs", "thing", "token"]
theorem sc_are_tokens : FnScope N_are_tokens ["signs", "thing"] (defScope s_are_tokens) := ⟨rfl, rfl, rfl, by decide +kernel, rfl, by decide +kernel, by decide +kernel⟩
abbrev s_places_of : Stmt := top 31
abbrev N_places_of : List Str := ["tokens", "places", "token", "kind", "sign"]
theorem sc_places_of : FnScope N_places_of ["tokens"] (defScope s_places_of) := ⟨rfl, rfl, rfl, by decide +kernel, rfl, by decide +kernel, by decide +kernel⟩
abbrev s_are_letters : Stmt := top 17
abbrev N_are_letters : List Str := ["text", "letter"]
theorem sc_are_letters : FnScope N_are_letters ["text"] (defScope s_are_letters) := ⟨rfl, rfl, rfl, by decide +kernel, rfl, by decide +kernel, by decide +kernel⟩
abbrev s_is_signs : Stmt := top 13
abbrev N_is_signs : List Str := ["thing"]
theorem sc_is_signs : FnScope N_is_signs ["thing"] (defScope s_is_signs) := ⟨rfl, rfl, rfl, by decide +kernel, rfl, by decide +kernel, by decide +kernel⟩
abbrev s_Piece_init : Stmt := inClass (top 29) 1
abbrev N_Piece_init : List Str := ["self", "signs", "tokens"]
theorem sc_Piece_init : FnScope N_Piece_init ["self", "signs", "tokens"] (defScope s_Piece_init) := ⟨rfl, rfl, rfl, by decide +kernel, rfl, by decide +kernel, by decide +kernel⟩
abbrev s_Piece_flushes : Stmt := inClass (top 29) 6
abbrev N_Piece_flushes : List Str := ["self", "found", "written", "token"]
theorem sc_Piece_flushes : FnScope N_Piece_flushes ["self"] (defScope s_Piece_flushes) := ⟨rfl, rfl, rfl, by decide +kernel, rfl, by decide +kernel, by decide +kernel⟩
abbrev s_go_together : Stmt := top 34
abbrev N_go_together : List Str := ["one", "other"]
theorem sc_go_together : FnScope N_go_together ["one", "other"] (defScope s_go_together) := ⟨rfl, rfl, rfl, by decide +kernel, rfl, by decide +kernel, by decide +kernel⟩
abbrev s_joined : Stmt := top 35
abbrev N_joined : List Str := ["one", "other", "kind", "distance", "many"]
theorem sc_joined : FnScope N_joined ["one", "other"] (defScope s_joined) := ⟨rfl, rfl, rfl, by decide +kernel, rfl, by decide +kernel, by decide +kernel⟩
abbrev s_token_of : Stmt := top 33
abbrev N_token_of : List Str := ["place", "kind", "told"]
theorem sc_token_of : FnScope N_token_of ["place"] (defScope s_token_of) := ⟨rfl, rfl, rfl, by decide +kernel, rfl, by decide +kernel, by decide +kernel⟩
abbrev s_merged_tokens : Stmt := top 32
abbrev N_merged_tokens : List Str := ["places", "flushes", "cuts", "tokens", "at", "place", "token", "number"]
theorem sc_merged_tokens : FnScope N_merged_tokens ["places", "flushes"] (defScope s_merged_tokens) := ⟨rfl, rfl, rfl, by decide +kernel, rfl, by decide +kernel, by decide +kernel⟩
abbrev s_Piece_part : Stmt := inClass (top 29) 9
abbrev N_Piece_part : List Str := ["self", "begin", "end", "whole", "numbers", "kept", "number"]
theorem sc_Piece_part : FnScope N_Piece_part ["self", "begin", "end"] (defScope s_Piece_part) := ⟨rfl, rfl, rfl, by decide +kernel, rfl, by decide +kernel, by decide +kernel⟩
abbrev s_Piece_floordiv : Stmt := inClass (top 29) 14
abbrev N_Piece_floordiv : List Str := ["self", "other", "whole", "begin"]
theorem sc_Piece_floordiv : FnScope N_Piece_floordiv ["self", "other"] (defScope s_Piece_floordiv) := ⟨rfl, rfl, rfl, by decide +kernel, rfl, by decide +kernel, by decide +kernel⟩
abbrev s_Piece_len : Stmt := inClass (top 29) 16
abbrev N_Piece_len : List Str := ["self"]
theorem sc_Piece_len : FnScope N_Piece_len ["self"] (defScope s_Piece_len) := ⟨rfl, rfl, rfl, by decide +kernel, rfl, by decide +kernel, by decide +kernel⟩
abbrev s_Piece_needs : Stmt := inClass (top 29) 10
abbrev N_Piece_needs : List Str := ["self", "flush", "most", "written", "token"]
theorem sc_Piece_needs : FnScope N_Piece_needs ["self"] (defScope s_Piece_needs) := ⟨rfl, rfl, rfl, by decide +kernel, rfl, by decide +kernel, by decide +kernel⟩
abbrev s_Reader_kept : Stmt := inClass (top 27) 6
abbrev N_Reader_kept : List Str := ["self"]
theorem sc_Reader_kept : FnScope N_Reader_kept ["self"] (defScope s_Reader_kept) := ⟨rfl, rfl, rfl, by decide +kernel, rfl, by decide +kernel, by decide +kernel⟩
abbrev s_Reader_written : Stmt := inClass (top 27) 5
abbrev N_Reader_written : List Str := ["self"]
theorem sc_Reader_written : FnScope N_Reader_written ["self"] (defScope s_Reader_written) := ⟨rfl, rfl, rfl, by decide +kernel, rfl, by decide +kernel, by decide +kernel⟩
abbrev s_law_bag : Stmt := top 37
abbrev N_law_bag : List Str := ["_law_script", "_law_cell"]
theorem sc_law_bag : FnScope N_law_bag ["_law_script"] (defScope s_law_bag) := ⟨rfl, rfl, rfl, by decide +kernel, rfl, by decide +kernel, by decide +kernel⟩
abbrev s_law_places : Stmt := top 44
abbrev N_law_places : List Str := ["_law_tokens", "_law_found", "_law_token", "_law_sign"]
theorem sc_law_places : FnScope N_law_places ["_law_tokens"] (defScope s_law_places) := ⟨rfl, rfl, rfl, by decide +kernel, rfl, by decide +kernel, by decide +kernel⟩
abbrev s_law_copied_right : Stmt := top 49
abbrev N_law_copied_right : List Str := ["_law_text", "_law_begin", "_law_tokens", "_law_at", "_law_kind", "_law_told_here"]
theorem sc_law_copied_right : FnScope N_law_copied_right ["_law_text", "_law_begin", "_law_tokens"] (defScope s_law_copied_right) := ⟨rfl, rfl, rfl, by decide +kernel, rfl, by decide +kernel, by decide +kernel⟩
abbrev s_law_take : Stmt := top 38
abbrev N_law_take : List Str := ["_law_bag_here", "_law_many", "_law_cell", "_law_mixed", "_law_drawn", "_law_early", "_law_second"]
theorem sc_law_take : FnScope N_law_take ["_law_bag_here", "_law_many"] (defScope s_law_take) := ⟨rfl, rfl, rfl, by decide +kernel, rfl, by decide +kernel, by decide +kernel⟩
abbrev s_law_choice : Stmt := top 41
abbrev N_law_choice : List Str := ["_law_bag_here", "_law_signs_here", "_law_found", "_law_sign"]
theorem sc_law_choice : FnScope N_law_choice ["_law_bag_here", "_law_signs_here"] (defScope s_law_choice) := ⟨rfl, rfl, rfl, by decide +kernel, rfl, by decide +kernel, by decide +kernel⟩
abbrev s_law_word : Stmt := top 40
abbrev N_law_word : List Str := ["_law_bag_here", "_law_signs_here", "_law_many", "_law_k"]
theorem sc_law_word : FnScope N_law_word ["_law_bag_here", "_law_signs_here", "_law_many"] (defScope s_law_word) := ⟨rfl, rfl, rfl, by decide +kernel, rfl, by decide +kernel, by decide +kernel⟩
abbrev s_law_free_token : Stmt := top 45
abbrev N_law_free_token : List Str := ["_law_bag_here", "_law_signs_here", "_law_room", "_law_way", "_law_many", "_law_far"]
theorem sc_law_free_token : FnScope N_law_free_token ["_law_bag_here", "_law_signs_here", "_law_room"] (defScope s_law_free_token) := ⟨rfl, rfl, rfl, by decide +kernel, rfl, by decide +kernel, by decide +kernel⟩
abbrev s_law_size : Stmt := top 42
abbrev N_law_size : List Str := ["_law_token"]
theorem sc_law_size : FnScope N_law_size ["_law_token"] (defScope s_law_size) := ⟨rfl, rfl, rfl, by decide +kernel, rfl, by decide +kernel, by decide +kernel⟩
abbrev s_law_wide : Stmt := top 43
abbrev N_law_wide : List Str := ["_law_tokens", "_law_token"]
theorem sc_law_wide : FnScope N_law_wide ["_law_tokens"] (defScope s_law_wide) := ⟨rfl, rfl, rfl, by decide +kernel, rfl, by decide +kernel, by decide +kernel⟩
abbrev s_law_free_tokens : Stmt := top 46
abbrev N_law_free_tokens : List Str := ["_law_bag_here", "_law_signs_here", "_law_most", "_law_found", "_law_k"]
theorem sc_law_free_tokens : FnScope N_law_free_tokens ["_law_bag_here", "_law_signs_here", "_law_most"] (defScope s_law_free_tokens) := ⟨rfl, rfl, rfl, by decide +kernel, rfl, by decide +kernel, by decide +kernel⟩
abbrev s_Piece_tokens : Stmt := inClass (top 29) 4
abbrev N_Piece_tokens : List Str := ["self"]
theorem sc_Piece_tokens : FnScope N_Piece_tokens ["self"] (defScope s_Piece_tokens) := ⟨rfl, rfl, rfl, by decide +kernel, rfl, by decide +kernel, by decide +kernel⟩
abbrev s_is_width : Stmt := top 14
abbrev N_is_width : List Str := ["thing"]
theorem sc_is_width : FnScope N_is_width ["thing"] (defScope s_is_width) := ⟨rfl, rfl, rfl, by decide +kernel, rfl, by decide +kernel, by decide +kernel⟩
abbrev s_Reader_init : Stmt := inClass (top 27) 0
abbrev N_Reader_init : List Str := ["self", "signs", "width"]
theorem sc_Reader_init : FnScope N_Reader_init ["self", "signs", "width"] (defScope s_Reader_init) := ⟨rfl, rfl, rfl, by decide +kernel, rfl, by decide +kernel, by decide +kernel⟩
abbrev s_Reader_copied : Stmt := inClass (top 27) 7
abbrev N_Reader_copied : List Str := ["self", "other"]
theorem sc_Reader_copied : FnScope N_Reader_copied ["self"] (defScope s_Reader_copied) := ⟨rfl, rfl, rfl, by decide +kernel, rfl, by decide +kernel, by decide +kernel⟩
abbrev s_Readerput : Stmt := inClass (top 27) 9
abbrev N_Readerput : List Str := ["self", "text", "kept"]
theorem sc_Readerput : FnScope N_Readerput ["self", "text", "kept"] (defScope s_Readerput) := ⟨rfl, rfl, rfl, by decide +kernel, rfl, by decide +kernel, by decide +kernel⟩
abbrev s_Short_init : Stmt := inClass (top 7) 0
abbrev N_Short_init : List Str := ["self", "distance", "ahead"]
theorem sc_Short_init : FnScope N_Short_init ["self", "distance", "ahead"] (defScope s_Short_init) := ⟨rfl, rfl, rfl, by decide +kernel, rfl, by decide +kernel, by decide +kernel⟩
abbrev s_Readercopy : Stmt := inClass (top 27) 11
abbrev N_Readercopy : List Str := ["self", "distance", "many", "kept", "ring"]
theorem sc_Readercopy : FnScope N_Readercopy ["self", "distance", "many", "kept"] (defScope s_Readercopy) := ⟨rfl, rfl, rfl, by decide +kernel, rfl, by decide +kernel, by decide +kernel⟩
abbrev s_Readerlast : Stmt := inClass (top 27) 12
abbrev N_Readerlast : List Str := ["self", "line"]
theorem sc_Readerlast : FnScope N_Readerlast ["self", "line"] (defScope s_Readerlast) := ⟨rfl, rfl, rfl, by decide +kernel, rfl, by decide +kernel, by decide +kernel⟩
abbrev s_is_plain : Stmt := top 23
abbrev N_is_plain : List Str := ["signs", "thing"]
theorem sc_is_plain : FnScope N_is_plain ["signs", "thing"] (defScope s_is_plain) := ⟨rfl, rfl, rfl, by decide +kernel, rfl, by decide +kernel, by decide +kernel⟩
abbrev s_Readertold : Stmt := inClass (top 27) 10
abbrev N_Readertold : List Str := ["self", "token", "kept", "text"]
theorem sc_Readertold : FnScope N_Readertold ["self", "token", "kept"] (defScope s_Readertold) := ⟨rfl, rfl, rfl, by decide +kernel, rfl, by decide +kernel, by decide +kernel⟩
abbrev s_Reader_read_all : Stmt := inClass (top 27) 3
abbrev N_Reader_read_all : List Str := ["self", "tokens", "texts", "kept", "token", "text"]
theorem sc_Reader_read_all : FnScope N_Reader_read_all ["self", "tokens"] (defScope s_Reader_read_all) := ⟨rfl, rfl, rfl, by decide +kernel, rfl, by decide +kernel, by decide +kernel⟩
abbrev s_law_told : Stmt := top 48
abbrev N_law_told : List Str := ["_law_reader_here", "_law_tokens", "_law_other", "e"]
theorem sc_law_told : FnScope N_law_told ["_law_reader_here", "_law_tokens"] (defScope s_law_told) := ⟨rfl, rfl, rfl, by decide +kernel, rfl, by decide +kernel, by decide +kernel⟩
abbrev s_law_in_parts : Stmt := top 50
abbrev N_law_in_parts : List Str := ["_law_reader_here", "_law_pieces", "_law_other", "_law_found", "_law_piece", "_law_told_here"]
theorem sc_law_in_parts : FnScope N_law_in_parts ["_law_reader_here", "_law_pieces"] (defScope s_law_in_parts) := ⟨rfl, rfl, rfl, by decide +kernel, rfl, by decide +kernel, by decide +kernel⟩
abbrev s_law_plain : Stmt := top 47
abbrev N_law_plain : List Str := ["_law_bag_here", "_law_signs_here", "_law_tokens", "_law_width", "_law_found", "_law_token"]
theorem sc_law_plain : FnScope N_law_plain ["_law_bag_here", "_law_signs_here", "_law_tokens", "_law_width"] (defScope s_law_plain) := ⟨rfl, rfl, rfl, by decide +kernel, rfl, by decide +kernel, by decide +kernel⟩
abbrev s_Reader_read : Stmt := inClass (top 27) 1
abbrev N_Reader_read : List Str := ["self", "token", "text", "kept"]
theorem sc_Reader_read : FnScope N_Reader_read ["self", "token"] (defScope s_Reader_read) := ⟨rfl, rfl, rfl, by decide +kernel, rfl, by decide +kernel, by decide +kernel⟩
abbrev s_law_reader : Stmt := top 51
abbrev N_law_reader : List Str := ["_law_bag_here", "_law_signs_here", "_law_width", "_law_reader_here", "_law_k"]
theorem sc_law_reader : FnScope N_law_reader ["_law_bag_here", "_law_signs_here", "_law_width"] (defScope s_law_reader) := ⟨rfl, rfl, rfl, by decide +kernel, rfl, by decide +kernel, by decide +kernel⟩
abbrev s_law_signs : Stmt := top 39
abbrev N_law_signs : List Str := ["_law_bag_here"]
theorem sc_law_signs : FnScope N_law_signs ["_law_bag_here"] (defScope s_law_signs) := ⟨rfl, rfl, rfl, by decide +kernel, rfl, by decide +kernel, by decide +kernel⟩
abbrev s_law : Stmt := top 52
abbrev N_law : List Str := ["_law_script", "_law_bag_here", "_law_turn", "_law_signs_here", "_law_width", "_law_tokens", "_law_piece", "_law_again", "_law_reader_here", "_law_told_here", "_law_ahead", "_law_is_refused", "_law_parts"]
theorem sc_law : FnScope N_law ["_law_script"] (defScope s_law) := ⟨rfl, rfl, rfl, by decide +kernel, rfl, by decide +kernel, by decide +kernel⟩
structure Txt (K : PySem.W.Frag) (mg : Str → Option Value) where
  f_ascends : Addr
  d_ascends : FuncData
  F_ascends : Fun K "_ascends" "_ascends" s_ascends f_ascends d_ascends
  b_ascends : Binds K d_ascends ["text"] []
  m_ascends : mg "_ascends" = some (.ref f_ascends)
  f_is_text : Addr
  d_is_text : FuncData
  F_is_text : Fun K "is_text" "is_text" s_is_text f_is_text d_is_text
  b_is_text : Binds K d_is_text ["signs", "thing"] []
  m_is_text : mg "is_text" = some (.ref f_is_text)
  f_is_choice : Addr
  d_is_choice : FuncData
  F_is_choice : Fun K "is_choice" "is_choice" s_is_choice f_is_choice d_is_choice
  b_is_choice : Binds K d_is_choice ["signs", "thing"] []
  m_is_choice : mg "is_choice" = some (.ref f_is_choice)
  f_is_integer : Addr
  d_is_integer : FuncData
  F_is_integer : Fun K "is_integer" "is_integer" s_is_integer f_is_integer d_is_integer
  b_is_integer : Binds K d_is_integer ["thing"] []
  m_is_integer : mg "is_integer" = some (.ref f_is_integer)
  f_is_within : Addr
  d_is_within : FuncData
  F_is_within : Fun K "is_within" "is_within" s_is_within f_is_within d_is_within
  b_is_within : Binds K d_is_within ["thing", "least", "most"] []
  m_is_within : mg "is_within" = some (.ref f_is_within)
  f_is_distance : Addr
  d_is_distance : FuncData
  F_is_distance : Fun K "is_distance" "is_distance" s_is_distance f_is_distance d_is_distance
  b_is_distance : Binds K d_is_distance ["thing"] []
  m_is_distance : mg "is_distance" = some (.ref f_is_distance)
  f_is_token : Addr
  d_is_token : FuncData
  F_is_token : Fun K "is_token" "is_token" s_is_token f_is_token d_is_token
  b_is_token : Binds K d_is_token ["signs", "thing"] []
  m_is_token : mg "is_token" = some (.ref f_is_token)
  f_size : Addr
  d_size : FuncData
  F_size : Fun K "size" "size" s_size f_size d_size
  b_size : Binds K d_size ["token"] []
  m_size : mg "size" = some (.ref f_size)
  f_are_tokens : Addr
  d_are_tokens : FuncData
  F_are_tokens : Fun K "_are_tokens" "_are_tokens" s_are_tokens f_are_tokens d_are_tokens
  b_are_tokens : Binds K d_are_tokens ["signs", "thing"] []
  m_are_tokens : mg "_are_tokens" = some (.ref f_are_tokens)
  f_places_of : Addr
  d_places_of : FuncData
  F_places_of : Fun K "_places_of" "_places_of" s_places_of f_places_of d_places_of
  b_places_of : Binds K d_places_of ["tokens"] []
  m_places_of : mg "_places_of" = some (.ref f_places_of)
  f_are_letters : Addr
  d_are_letters : FuncData
  F_are_letters : Fun K "_are_letters" "_are_letters" s_are_letters f_are_letters d_are_letters
  b_are_letters : Binds K d_are_letters ["text"] []
  m_are_letters : mg "_are_letters" = some (.ref f_are_letters)
  f_is_signs : Addr
  d_is_signs : FuncData
  F_is_signs : Fun K "is_signs" "is_signs" s_is_signs f_is_signs d_is_signs
  b_is_signs : Binds K d_is_signs ["thing"] []
  m_is_signs : mg "is_signs" = some (.ref f_is_signs)
  f_Piece_init : Addr
  d_Piece_init : FuncData
  F_Piece_init : Fun K "__init__" "Piece.__init__" s_Piece_init f_Piece_init d_Piece_init
  b_Piece_init : Binds K d_Piece_init ["self", "signs", "tokens"] []
  f_Piece_flushes : Addr
  d_Piece_flushes : FuncData
  F_Piece_flushes : Fun K "flushes" "Piece.flushes" s_Piece_flushes f_Piece_flushes d_Piece_flushes
  b_Piece_flushes : Binds K d_Piece_flushes ["self"] []
  f_go_together : Addr
  d_go_together : FuncData
  F_go_together : Fun K "_go_together" "_go_together" s_go_together f_go_together d_go_together
  b_go_together : Binds K d_go_together ["one", "other"] []
  m_go_together : mg "_go_together" = some (.ref f_go_together)
  f_joined : Addr
  d_joined : FuncData
  F_joined : Fun K "_joined" "_joined" s_joined f_joined d_joined
  b_joined : Binds K d_joined ["one", "other"] []
  m_joined : mg "_joined" = some (.ref f_joined)
  f_token_of : Addr
  d_token_of : FuncData
  F_token_of : Fun K "_token_of" "_token_of" s_token_of f_token_of d_token_of
  b_token_of : Binds K d_token_of ["place"] []
  m_token_of : mg "_token_of" = some (.ref f_token_of)
  f_merged_tokens : Addr
  d_merged_tokens : FuncData
  F_merged_tokens : Fun K "_merged_tokens" "_merged_tokens" s_merged_tokens f_merged_tokens d_merged_tokens
  b_merged_tokens : Binds K d_merged_tokens ["places", "flushes"] []
  m_merged_tokens : mg "_merged_tokens" = some (.ref f_merged_tokens)
  f_Piece_part : Addr
  d_Piece_part : FuncData
  F_Piece_part : Fun K "part" "Piece.part" s_Piece_part f_Piece_part d_Piece_part
  b_Piece_part : Binds K d_Piece_part ["self", "begin", "end"] []
  f_Piece_floordiv : Addr
  d_Piece_floordiv : FuncData
  F_Piece_floordiv : Fun K "__floordiv__" "Piece.__floordiv__" s_Piece_floordiv f_Piece_floordiv d_Piece_floordiv
  b_Piece_floordiv : Binds K d_Piece_floordiv ["self", "other"] []
  f_Piece_len : Addr
  d_Piece_len : FuncData
  F_Piece_len : Fun K "__len__" "Piece.__len__" s_Piece_len f_Piece_len d_Piece_len
  b_Piece_len : Binds K d_Piece_len ["self"] []
  f_Piece_needs : Addr
  d_Piece_needs : FuncData
  F_Piece_needs : Fun K "needs" "Piece.needs" s_Piece_needs f_Piece_needs d_Piece_needs
  b_Piece_needs : Binds K d_Piece_needs ["self"] []
  f_Reader_kept : Addr
  d_Reader_kept : FuncData
  F_Reader_kept : Fun K "kept" "Reader.kept" s_Reader_kept f_Reader_kept d_Reader_kept
  b_Reader_kept : Binds K d_Reader_kept ["self"] []
  f_Reader_written : Addr
  d_Reader_written : FuncData
  F_Reader_written : Fun K "written" "Reader.written" s_Reader_written f_Reader_written d_Reader_written
  b_Reader_written : Binds K d_Reader_written ["self"] []
  f_law_bag : Addr
  d_law_bag : FuncData
  F_law_bag : Fun K "_law_bag" "_law_bag" s_law_bag f_law_bag d_law_bag
  b_law_bag : Binds K d_law_bag ["_law_script"] []
  m_law_bag : mg "_law_bag" = some (.ref f_law_bag)
  f_law_places : Addr
  d_law_places : FuncData
  F_law_places : Fun K "_law_places" "_law_places" s_law_places f_law_places d_law_places
  b_law_places : Binds K d_law_places ["_law_tokens"] []
  m_law_places : mg "_law_places" = some (.ref f_law_places)
  f_law_copied_right : Addr
  d_law_copied_right : FuncData
  F_law_copied_right : Fun K "_law_copied_right" "_law_copied_right" s_law_copied_right f_law_copied_right d_law_copied_right
  b_law_copied_right : Binds K d_law_copied_right ["_law_text", "_law_begin", "_law_tokens"] []
  m_law_copied_right : mg "_law_copied_right" = some (.ref f_law_copied_right)
  f_law_take : Addr
  d_law_take : FuncData
  F_law_take : Fun K "_law_take" "_law_take" s_law_take f_law_take d_law_take
  b_law_take : Binds K d_law_take ["_law_bag_here", "_law_many"] []
  m_law_take : mg "_law_take" = some (.ref f_law_take)
  f_law_choice : Addr
  d_law_choice : FuncData
  F_law_choice : Fun K "_law_choice" "_law_choice" s_law_choice f_law_choice d_law_choice
  b_law_choice : Binds K d_law_choice ["_law_bag_here", "_law_signs_here"] []
  m_law_choice : mg "_law_choice" = some (.ref f_law_choice)
  f_law_word : Addr
  d_law_word : FuncData
  F_law_word : Fun K "_law_word" "_law_word" s_law_word f_law_word d_law_word
  b_law_word : Binds K d_law_word ["_law_bag_here", "_law_signs_here", "_law_many"] []
  m_law_word : mg "_law_word" = some (.ref f_law_word)
  f_law_free_token : Addr
  d_law_free_token : FuncData
  F_law_free_token : Fun K "_law_free_token" "_law_free_token" s_law_free_token f_law_free_token d_law_free_token
  b_law_free_token : Binds K d_law_free_token ["_law_bag_here", "_law_signs_here", "_law_room"] []
  m_law_free_token : mg "_law_free_token" = some (.ref f_law_free_token)
  f_law_size : Addr
  d_law_size : FuncData
  F_law_size : Fun K "_law_size" "_law_size" s_law_size f_law_size d_law_size
  b_law_size : Binds K d_law_size ["_law_token"] []
  m_law_size : mg "_law_size" = some (.ref f_law_size)
  f_law_wide : Addr
  d_law_wide : FuncData
  F_law_wide : Fun K "_law_wide" "_law_wide" s_law_wide f_law_wide d_law_wide
  b_law_wide : Binds K d_law_wide ["_law_tokens"] []
  m_law_wide : mg "_law_wide" = some (.ref f_law_wide)
  f_law_free_tokens : Addr
  d_law_free_tokens : FuncData
  F_law_free_tokens : Fun K "_law_free_tokens" "_law_free_tokens" s_law_free_tokens f_law_free_tokens d_law_free_tokens
  b_law_free_tokens : Binds K d_law_free_tokens ["_law_bag_here", "_law_signs_here", "_law_most"] []
  m_law_free_tokens : mg "_law_free_tokens" = some (.ref f_law_free_tokens)
  f_Piece_tokens : Addr
  d_Piece_tokens : FuncData
  F_Piece_tokens : Fun K "tokens" "Piece.tokens" s_Piece_tokens f_Piece_tokens d_Piece_tokens
  b_Piece_tokens : Binds K d_Piece_tokens ["self"] []
  f_is_width : Addr
  d_is_width : FuncData
  F_is_width : Fun K "is_width" "is_width" s_is_width f_is_width d_is_width
  b_is_width : Binds K d_is_width ["thing"] []
  m_is_width : mg "is_width" = some (.ref f_is_width)
  f_Reader_init : Addr
  d_Reader_init : FuncData
  F_Reader_init : Fun K "__init__" "Reader.__init__" s_Reader_init f_Reader_init d_Reader_init
  b_Reader_init : Binds K d_Reader_init ["self", "signs", "width"] []
  f_Reader_copied : Addr
  d_Reader_copied : FuncData
  F_Reader_copied : Fun K "copied" "Reader.copied" s_Reader_copied f_Reader_copied d_Reader_copied
  b_Reader_copied : Binds K d_Reader_copied ["self"] []
  f_Readerput : Addr
  d_Readerput : FuncData
  F_Readerput : Fun K "_put" "Reader._put" s_Readerput f_Readerput d_Readerput
  b_Readerput : Binds K d_Readerput ["self", "text", "kept"] []
  f_Short_init : Addr
  d_Short_init : FuncData
  F_Short_init : Fun K "__init__" "Short.__init__" s_Short_init f_Short_init d_Short_init
  b_Short_init : Binds K d_Short_init ["self", "distance", "ahead"] []
  f_Readercopy : Addr
  d_Readercopy : FuncData
  F_Readercopy : Fun K "_copy" "Reader._copy" s_Readercopy f_Readercopy d_Readercopy
  b_Readercopy : Binds K d_Readercopy ["self", "distance", "many", "kept"] []
  f_Readerlast : Addr
  d_Readerlast : FuncData
  F_Readerlast : Fun K "_last" "Reader._last" s_Readerlast f_Readerlast d_Readerlast
  b_Readerlast : Binds K d_Readerlast ["self", "line"] []
  f_is_plain : Addr
  d_is_plain : FuncData
  F_is_plain : Fun K "is_plain" "is_plain" s_is_plain f_is_plain d_is_plain
  b_is_plain : Binds K d_is_plain ["signs", "thing"] []
  m_is_plain : mg "is_plain" = some (.ref f_is_plain)
  f_Readertold : Addr
  d_Readertold : FuncData
  F_Readertold : Fun K "_told" "Reader._told" s_Readertold f_Readertold d_Readertold
  b_Readertold : Binds K d_Readertold ["self", "token", "kept"] []
  f_Reader_read_all : Addr
  d_Reader_read_all : FuncData
  F_Reader_read_all : Fun K "read_all" "Reader.read_all" s_Reader_read_all f_Reader_read_all d_Reader_read_all
  b_Reader_read_all : Binds K d_Reader_read_all ["self", "tokens"] []
  f_law_told : Addr
  d_law_told : FuncData
  F_law_told : Fun K "_law_told" "_law_told" s_law_told f_law_told d_law_told
  b_law_told : Binds K d_law_told ["_law_reader_here", "_law_tokens"] []
  m_law_told : mg "_law_told" = some (.ref f_law_told)
  f_law_in_parts : Addr
  d_law_in_parts : FuncData
  F_law_in_parts : Fun K "_law_in_parts" "_law_in_parts" s_law_in_parts f_law_in_parts d_law_in_parts
  b_law_in_parts : Binds K d_law_in_parts ["_law_reader_here", "_law_pieces"] []
  m_law_in_parts : mg "_law_in_parts" = some (.ref f_law_in_parts)
  f_law_plain : Addr
  d_law_plain : FuncData
  F_law_plain : Fun K "_law_plain" "_law_plain" s_law_plain f_law_plain d_law_plain
  b_law_plain : Binds K d_law_plain ["_law_bag_here", "_law_signs_here", "_law_tokens", "_law_width"] []
  m_law_plain : mg "_law_plain" = some (.ref f_law_plain)
  f_Reader_read : Addr
  d_Reader_read : FuncData
  F_Reader_read : Fun K "read" "Reader.read" s_Reader_read f_Reader_read d_Reader_read
  b_Reader_read : Binds K d_Reader_read ["self", "token"] []
  f_law_reader : Addr
  d_law_reader : FuncData
  F_law_reader : Fun K "_law_reader" "_law_reader" s_law_reader f_law_reader d_law_reader
  b_law_reader : Binds K d_law_reader ["_law_bag_here", "_law_signs_here", "_law_width"] []
  m_law_reader : mg "_law_reader" = some (.ref f_law_reader)
  f_law_signs : Addr
  d_law_signs : FuncData
  F_law_signs : Fun K "_law_signs" "_law_signs" s_law_signs f_law_signs d_law_signs
  b_law_signs : Binds K d_law_signs ["_law_bag_here"] []
  m_law_signs : mg "_law_signs" = some (.ref f_law_signs)
  f_law : Addr
  d_law : FuncData
  F_law : Fun K "law" "law" s_law f_law d_law
  b_law : Binds K d_law ["_law_script"] []
  m_law : mg "law" = some (.ref f_law)
  c_NoToken : Addr
  m_NoToken : mg "NoToken" = some (.ref c_NoToken)
  c_Short : Addr
  m_Short : mg "Short" = some (.ref c_Short)
  ox_Short : OexC K c_Short
  oi_Short : PySem.W.findIn K (.ref c_Short) "__init__" = some (some (.ref f_Short_init))
  ot_Short : PySem.W.typeIn K (.ref f_Short_init) = some (.type "function")
  nf_Short_distance : PySem.W.findIn K (.ref c_Short) "distance" = some none
  nf_Short_ahead : PySem.W.findIn K (.ref c_Short) "ahead" = some none
  xo_NoToken : PySem.W.excIn K c_NoToken PySem.HandSPX.veTail "ValueError.__new__" = true
  xk_NoToken : PySem.W.keepIn K (.ref c_NoToken) = true
  xb_NoToken : PySem.W.subIn K (.ref c_NoToken) (.type "BaseException") = some true
  xt_NoToken : PySem.W.typeIn K (.ref c_NoToken) = some (.type "type")
  te_NoToken_Short : PySem.W.exmOne K (.ref c_NoToken) (.ref c_Short) = some false
  te_Short_Short : PySem.W.exmOne K (.ref c_Short) (.ref c_Short) = some true
  c_Piece : Addr
  m_Piece : mg "Piece" = some (.ref c_Piece)
  cl_Piece : Cls K c_Piece
  mk_Piece : Mk K c_Piece f_Piece_init
  mt_Piece_flushes : Meth K c_Piece "flushes" f_Piece_flushes
  mt_Piece_part : Meth K c_Piece "part" f_Piece_part
  op_Piece_floordiv : OwnOp K c_Piece f_Piece_floordiv "floordiv"
  mt_Piece_len : Meth K c_Piece "__len__" f_Piece_len
  mt_Piece_needs : Meth K c_Piece "needs" f_Piece_needs
  mt_Piece_tokens : Meth K c_Piece "tokens" f_Piece_tokens
  cr_Piece : ClX.CRead K c_Piece (.type "type")
  u_Piece_MOST : Value
  cv_Piece_MOST : ClX.CVal K c_Piece (.type "type") "MOST" (.int 40) u_Piece_MOST
  ic_Piece : PySem.W.isClsIn K c_Piece = true
  it_Piece : PySem.W.typeIn K (.ref c_Piece) = some (.type "type")
  ca_Piece : PySem.W.findIn K (.ref c_Piece) "__class__" = some (some (.builtin "object.__class__"))
  cg_Piece : PySem.W.specialIn K (.builtin "object.__class__") "__get__" = some (some (.builtin "getset_descriptor.__get__"))
  ct_Piece : PySem.W.takesIn K (.builtin "object.__class__") = some true
  mro_Piece : PySem.W.mroIn K c_Piece (.type "object") = some true
  ne_Piece : PySem.W.findIn K (.ref c_Piece) "__ne__" = some (some (.builtin "object.__ne__"))
  na_Piece_copy : NoAttr K c_Piece "_copy"
  na_Piece_kept : NoAttr K c_Piece "_kept"
  na_Piece_last : NoAttr K c_Piece "_last"
  na_Piece_places : NoAttr K c_Piece "_places"
  na_Piece_put : NoAttr K c_Piece "_put"
  na_Piece_signs : NoAttr K c_Piece "_signs"
  na_Piece_tokens : NoAttr K c_Piece "_tokens"
  na_Piece_told : NoAttr K c_Piece "_told"
  na_Piece_width : NoAttr K c_Piece "_width"
  na_Piece_written : NoAttr K c_Piece "_written"
  c_Reader : Addr
  m_Reader : mg "Reader" = some (.ref c_Reader)
  cl_Reader : Cls K c_Reader
  mt_Reader_kept : Meth K c_Reader "kept" f_Reader_kept
  mt_Reader_written : Meth K c_Reader "written" f_Reader_written
  mk_Reader : Mk K c_Reader f_Reader_init
  mt_Reader_copied : Meth K c_Reader "copied" f_Reader_copied
  mt_Readerput : Meth K c_Reader "_put" f_Readerput
  mt_Readercopy : Meth K c_Reader "_copy" f_Readercopy
  mt_Readerlast : Meth K c_Reader "_last" f_Readerlast
  mt_Readertold : Meth K c_Reader "_told" f_Readertold
  mt_Reader_read_all : Meth K c_Reader "read_all" f_Reader_read_all
  mt_Reader_read : Meth K c_Reader "read" f_Reader_read
  ic_Reader : PySem.W.isClsIn K c_Reader = true
  it_Reader : PySem.W.typeIn K (.ref c_Reader) = some (.type "type")
  ca_Reader : PySem.W.findIn K (.ref c_Reader) "__class__" = some (some (.builtin "object.__class__"))
  cg_Reader : PySem.W.specialIn K (.builtin "object.__class__") "__get__" = some (some (.builtin "getset_descriptor.__get__"))
  ct_Reader : PySem.W.takesIn K (.builtin "object.__class__") = some true
  mro_Reader : PySem.W.mroIn K c_Reader (.type "object") = some true
  ne_Reader : PySem.W.findIn K (.ref c_Reader) "__ne__" = some (some (.builtin "object.__ne__"))
  na_Reader_kept : NoAttr K c_Reader "_kept"
  na_Reader_places : NoAttr K c_Reader "_places"
  na_Reader_signs : NoAttr K c_Reader "_signs"
  na_Reader_tokens : NoAttr K c_Reader "_tokens"
  na_Reader_width : NoAttr K c_Reader "_width"
  na_Reader_written : NoAttr K c_Reader "_written"
  n_abs : mg "abs" = none
  n_all : mg "all" = none
  n_bool : mg "bool" = none
  n_enumerate : mg "enumerate" = none
  n_int : mg "int" = none
  n_isinstance : mg "isinstance" = none
  n_len : mg "len" = none
  n_list : mg "list" = none
  n_max : mg "max" = none
  n_min : mg "min" = none
  n_range : mg "range" = none
  n_sorted : mg "sorted" = none
  n_str : mg "str" = none
  n_sum : mg "sum" = none
  n_tuple : mg "tuple" = none
  n_zip : mg "zip" = none
  t_MOST_DISTANCE : Tok
  m_MOST_DISTANCE : mg "MOST_DISTANCE" = some (.int 12 t_MOST_DISTANCE)
  t_MOST_SIGNS : Tok
  m_MOST_SIGNS : mg "MOST_SIGNS" = some (.int 6 t_MOST_SIGNS)
  t_MOST_SIZE : Tok
  m_MOST_SIZE : mg "MOST_SIZE" = some (.int 40 t_MOST_SIZE)
  t_MOST_WIDTH : Tok
  m_MOST_WIDTH : mg "MOST_WIDTH" = some (.int 12 t_MOST_WIDTH)
section
local macro_rules | `(tactic| walk_at "ne") => `(tactic| first
  | assumption
  | (apply Ne.symm; assumption)
  | exact ne_of_none (by walk_at "at") (by assumption)
  | exact (ne_of_none (by walk_at "at") (by assumption)).symm)
local macro_rules | `(tactic| walk_at "at") => `(tactic| first
  | assumption
  | exact upd_same
  | (rw [upd_ne (by walk_at "ne")]; walk_at "at"))
local macro_rules | `(tactic| walk_at "sq") => `(tactic| first
  | assumption
  | exact SqT.of (by with_unfolding_all walk_at "at"))
local macro_rules | `(tactic| walk_at "kn") => `(tactic| first | (with_reducible refine iteNeF ?_) | (refine iteNeT (by decide +kernel) ?_))
local macro_rules | `(tactic| walk_at "keep") => `(tactic| first
  | exact KeepB.refl _ _
  | assumption
  | (refine KeepB.trans ?_ KeepB.put; walk_at "keep")
  | (refine KeepB.trans ?_ (KeepB.new (by assumption)); walk_at "keep"))
local macro_rules | `(tactic| walk_at "num") => `(tactic| first | omega | (dsimp only; omega) | (refine szl ?_; omega) | exact szl (Nat.le_of_ble_eq_true rfl) | (refine szt ?_; omega) | decide)
local macro_rules | `(tactic| walk_at "r1") => `(tactic| first
  | (with_reducible refine iteT ?_)
  | (with_reducible refine iteF ?_)
  | (with_reducible refine gCons_go ?_)
  | (with_reducible refine gNil_go ?_)
  | (with_reducible refine gName_go ?_)
  | ((with_reducible refine' gTup_go ?ha ?hl ?_); (case ha => walk_at "sq"); (case hl => rfl))
  | ((fail_if_success (with_reducible refine iteK ?_ ?_)); first
  | refine ⟨_, rfl, ?_⟩
  | refine ⟨_, _, rfl, rfl, ?_⟩
  | refine And.intro rfl ?_
  | refine ⟨_, _, _, _, rfl, rfl, by assumption, rfl, ?_⟩
  | refine ⟨_, _, _, _, rfl, rfl, SqL.of (by walk_at "at"), rfl, ?_⟩
  | refine ⟨_, _, _, _, rfl, rfl, SqT.of (by walk_at "at"), rfl, ?_⟩
  | refine ⟨_, _, _, _, rfl, rfl, (by walk_at "at"), rfl, ?_⟩
  | refine ⟨_, _, rfl, .inl ⟨_, by assumption, rfl⟩, ?_⟩
  | refine ⟨_, _, rfl, .inr ⟨_, by assumption, rfl⟩, ?_⟩
  | refine ⟨_, _, rfl, .inl ⟨_, SqL.of (by walk_at "at"), rfl⟩, ?_⟩
  | refine ⟨_, _, rfl, .inr ⟨_, SqT.of (by walk_at "at"), rfl⟩, ?_⟩
  | refine ⟨_, _, rfl, ⟨(by walk_at "num"), rfl⟩, ?_⟩
  | refine And.intro (Or.inl ⟨rfl, _, SqL.of (by walk_at "at")⟩) ?_
  | refine .inl ⟨_, rfl, ?_⟩
  | refine And.intro (by walk_at "num") ?_
  | refine And.intro (show CMul _ _ by first | exact .inl ⟨by omega, by omega⟩ | exact .inr ⟨by omega, by omega⟩) ?_
  | refine And.intro (show CDiv _ _ from ⟨by omega, by omega⟩) ?_))
local macro_rules | `(tactic| walk_at "kk") => `(tactic| first | (with_reducible refine iteStY ?_) | ((refine iteStN (by decide +kernel) ?_); walk_at "rd"; (with_reducible refine iteStY ?_)))
local macro_rules | `(tactic| walk_at "kd") => `(tactic| first | (refine iteKY (by first | rfl | assumption | (simp; done) | (simp; omega)) ?_) | (refine iteKN (by first | rfl | assumption | (simp; done) | (simp; omega)) ?_))
local macro_rules | `(tactic| walk_at "ks") => `(tactic| first | (with_reducible refine iteStY ?_) | (refine iteStN (by decide +kernel) ?_) | (refine iteStNS (by decide +kernel) ?_))
local macro_rules | `(tactic| walk_at "rd") => `(tactic| repeat (walk_at "r1"))
local macro_rules | `(tactic| walk_at "kp0") => `(tactic| first
  | assumption
  | exact upd_same
  | ((refine upd_new (by assumption) ?_); walk_at "kp0")
  | ((refine same_get (by assumption) ?_); walk_at "kp0"))
local macro_rules | `(tactic| walk_at "bg") => `(tactic| first
  | assumption
  | ((refine bag_upd ?_ (by assumption)); walk_at "bg")
  | ((refine bag_same ?_ (by assumption)); walk_at "bg")
  | ((refine bag_put ?_ (by assumption) (by assumption)); walk_at "bg"))
local macro_rules | `(tactic| walk_at "lno") => `(tactic| first
  | exact .inl (by assumption)
  | exact lst_lst (by walk_at "kp0")
  | exact lno0 (by assumption) (by walk_at "bg")
  | exact ins_lst (by walk_at "kp0"))
local macro_rules | `(tactic| walk_at "nb") => `(tactic| first
  | (with_unfolding_all exact trivial)
  | exact notBag_ints _
  | exact notBag_toks (by assumption)
  | exact notBag_plcs (by assumption))
local macro_rules | `(tactic| walk_at "nk") => `(tactic| first
  | assumption
  | (apply Ne.symm; assumption)
  | (refine none_ne (by assumption) ?_; walk_at "kp0")
  | (refine none_ne' (by assumption) ?_; walk_at "kp0")
  | exact neb0 (by assumption) (by assumption) (by walk_at "bg")
  | exact neb0' (by assumption) (by assumption) (by walk_at "bg")
  | exact nec0 (by assumption) (by assumption) (by walk_at "bg")
  | exact nec0' (by assumption) (by assumption) (by walk_at "bg"))
local macro_rules | `(tactic| walk_at "kp") => `(tactic| first
  | assumption
  | exact upd_same
  | ((refine upd_new (by assumption) ?_); walk_at "kp")
  | ((refine upd_get (by walk_at "nk") ?_); walk_at "kp")
  | ((refine same_get (by assumption) ?_); walk_at "kp")
  | ((refine bag_get0 (by assumption) (by assumption) (by walk_at "bg") (by walk_at "nb") ?_); walk_at "kp")
  | ((refine keep_get (by assumption) (by walk_at "nk") ?_); walk_at "kp")
  | ((refine bag_upd ?_ (by assumption)); walk_at "bg")
  | ((refine bag_same ?_ (by assumption)); walk_at "bg")
  | ((refine bag_put ?_ (by walk_at "nk") (by walk_at "nk")); walk_at "bg")
  | ((refine SqL.of ?_); walk_at "kp")
  | ((refine SqT.of ?_); walk_at "kp")
  | ((refine Toks.same (by assumption) ?_); walk_at "kp")
  | ((refine Toks.same (same_new (by assumption)) ?_); walk_at "kp")
  | ((refine Toks.bag0 (by assumption) (by assumption) (by walk_at "bg") ?_); walk_at "kp")
  | ((refine Toks.keep (by assumption) (by walk_at "lno") ?_); walk_at "kp")
  | ((refine Toks.put (by walk_at "kp0") ?_); walk_at "kp")
  | ((refine Plcs.same (by assumption) ?_); walk_at "kp")
  | ((refine Plcs.same (same_new (by assumption)) ?_); walk_at "kp")
  | ((refine Plcs.bag0 (by assumption) (by assumption) (by walk_at "bg") ?_); walk_at "kp")
  | ((refine Plcs.keep (by assumption) (by walk_at "lno") ?_); walk_at "kp")
  | ((refine Plcs.put (by walk_at "kp0") ?_); walk_at "kp")
  | ((refine TokAt.same (by assumption) ?_); walk_at "kp")
  | ((refine TokAt.same (same_new (by assumption)) ?_); walk_at "kp")
  | ((refine TokAt.bag0 (by assumption) (by assumption) (by walk_at "bg") ?_); walk_at "kp")
  | ((refine TokAt.put (by walk_at "kp0") ?_); walk_at "kp")
  | ((refine TupAt.same (by assumption) ?_); walk_at "kp")
  | ((refine TupAt.same (same_new (by assumption)) ?_); walk_at "kp")
  | ((refine TupAt.bag0 (by assumption) (by assumption) (by walk_at "bg") ?_); walk_at "kp")
  | ((refine TupAt.put (by walk_at "kp0") ?_); walk_at "kp")
  | ((refine PieceAt.same (by assumption) ?_); walk_at "kp")
  | ((refine PieceAt.same (same_new (by assumption)) ?_); walk_at "kp")
  | ((refine PieceAt.bag0 (by assumption) (by assumption) (by walk_at "bg") ?_); walk_at "kp")
  | ((refine TellAt.same (by assumption) ?_); walk_at "kp")
  | ((refine TellAt.same (same_new (by assumption)) ?_); walk_at "kp")
  | ((refine TellAt.bag0 (by assumption) (by assumption) (by assumption) (by walk_at "bg") ?_); walk_at "kp")
  | ((refine SqL.same' (by assumption) ?_); walk_at "kp")
  | ((refine SqL.same' (same_new (by assumption)) ?_); walk_at "kp")
  | ((refine sqT_same (by assumption) ?_); walk_at "kp")
  | ((refine sqT_same (same_new (by assumption)) ?_); walk_at "kp"))
local macro_rules | `(tactic| walk_at "sm") => `(tactic| first
  | exact Same.refl _
  | assumption
  | ((refine Same.trans ?_ (by assumption)); walk_at "sm")
  | ((refine Same.trans ?_ (same_new (by assumption))); walk_at "sm"))
local macro_rules | `(tactic| walk_at "kb") => `(tactic| first
  | exact KeepB.refl _ _
  | assumption
  | exact KeepB.of_same (by assumption)
  | ((refine KeepB.trans ?_ KeepB.put); walk_at "kb")
  | ((refine KeepB.trans ?_ (KeepB.new (by assumption))); walk_at "kb")
  | ((refine KeepB.trans ?_ (by assumption : KeepB _ _ _)); walk_at "kb")
  | ((refine KeepB.trans ?_ (KeepB.of_same (by assumption))); walk_at "kb"))
local macro_rules | `(tactic| walk_at "fr") => `(tactic| first
  | assumption
  | (refine free_same ?_ (by assumption); walk_at "fr")
  | exact free_upd (by assumption)
  | exact free_upd (free_upd (by assumption))
  | exact free_upd (free_upd (free_upd (by assumption))))
section
variable {P : Program} {w : World} {K : PySem.W.Frag} {mg : Str → Option Value} {base : Heap}
def sp_ascends : Sp := fun vs H Q _ => ∃ z : Str, vs = [.str z] ∧ z.length ≤ 1000 ∧ ∀ H', Same H H' → Q (.bl (ascB (cl z))) H'
theorem ok_ascends (T : Txt K mg) : FnOk P w K mg base CX0 1 T.f_ascends T.d_ascends ["text"] sp_ascends := by
  have nd := sc_ascends.nd
  refine T.F_ascends.ok sc_ascends (fun vs H Q E h => ?_) (fun cdv A outer s H vs Q E hr h => ?_)
  · obtain ⟨z, rfl, _⟩ := h
    rfl
  · obtain ⟨z, rfl, hz, k⟩ := h
    refine ⟨_, (pss_one (ps_ret (pe_callB (id := "all") (cr_all rfl) (by rfl) T.n_all (by decide +kernel) (pa_cons (pe_lc (own := [("one", 1), ("other", 2)]) (g := gTup K 2 (gCons (gName 1) (gCons (gName 2) (gNil)))) (by rfl) nd (pi_zipS (by rfl) T.n_zip (pa_cons (pv 0) (pa_cons (pe_slice sl_str (pv 0) (po_some pe_int) po_none) pa_nil))) (blkOk_by (own := [("one", 1), ("other", 2)]) (N := N_ascends) (sc := defScope s_ascends) (by decide +kernel)) (fun _ _ _ _ _ => (pg_tup rfl (pgs_cons (pg_name (i := 1) nd rfl (Or.inl rfl)) (pgs_cons (pg_name (i := 2) nd rfl (Or.inl rfl)) pgs_nil)))) (fun _ _ _ _ _ => pts_nil) (fun _ _ _ _ _ => (pe_cmpR op_lt_str (pv 1) (pv 2) (nomark _)))) pa_nil)))), ?_⟩
    walk_at "rd"
    refine ⟨_, _, rfl, ?_⟩
    intro D hD
    have ht : (cl (cutS z (some 1) none)) = (cl z).tail := cut1 z
    have hl : ((cl z).zip (cl z).tail).length = min z.cps.size (cutS z (some 1) none).cps.size := by
      rw [List.length_zip, ← ht]; rfl
    have hlz : (cl z).length = z.length := cl_len z
    refine lc_it walk_zipS (Acc ((cl z).zip (cl z).tail) (fun p => .bl (decide (p.1 < p.2))) H D) (Acc.start _ _ _ _) (fun _ _ _ _ => trivial) ?_ ?_
    · rintro i _ H2 _ hi ka ⟨Tp, x, y, rfl, hT, rfl, hx, hy⟩
      obtain ⟨c, hc, rfl⟩ := Option.map_eq_some_iff.mp hx
      obtain ⟨d, hd, rfl⟩ := Option.map_eq_some_iff.mp hy
      refine ⟨_, _, rfl, SqT.of upd_same, rfl, _, _, rfl, ?_⟩
      refine ⟨_, _, rfl, ?_⟩
      walk_at "rd"
      have hz2 : ((cl z).zip (cl z).tail)[i]? = some (c, d) := by
        rw [List.getElem?_zip_eq_some]
        exact ⟨cl_get hc, by rw [← ht]; exact cl_get hd⟩
      refine ka.step (KeepB.new hT) (upd_ne (ne_of_none ka.2 hT)) hz2 (by rw [List.length_zip]; omega) ?_
      rw [one_lt]
    · rw [← hl]
      intro H2 ka
      refine ⟨_, ((cl z).zip (cl z).tail).map fun p => decide (p.1 < p.2), rfl, SqL.of (by rw [List.map_map]; exact Acc.all ka), ?_⟩
      rw [asc_zip]
      exact k _ (ka.same hD)
def sp_is_text (K : PySem.W.Frag) : Sp := fun vs H Q _ => ∃ (z : Str) (x : V) (n : String), vs = [.str z, x] ∧ Ty7 K H x n ∧ z.length ≤ 1000 ∧
  (∀ y, x = .str y → y.length ≤ 1000 ∧ ∀ H', Same H H' → Q (.bl ((cl y).all fun c => decide (c ∈ cl z))) H') ∧ (n ≠ "str" → Q (.bl false) H)
theorem ok_is_text (T : Txt K mg) : FnOk P w K mg base CX0 1 T.f_is_text T.d_is_text ["signs", "thing"] (sp_is_text K) := by
  have nd := sc_is_text.nd
  refine T.F_is_text.ok sc_is_text (fun vs H Q E h => ?_) (fun cdv A outer s H vs Q E hr h => ?_)
  · obtain ⟨z, x, n, rfl, _⟩ := h
    rfl
  · obtain ⟨z, x, n, rfl, hx, hz, k1, k2⟩ := h
    refine ⟨_, (pss_one (ps_ret (pe_and (pe_callB (id := "isinstance") (call_isiK' (K := K) rfl) (by rfl) T.n_isinstance (by decide +kernel) (pa_cons (pv 1) (pa_cons (pe_bltn (v := .ty "str") (by rfl) T.n_str (by decide +kernel) rfl) pa_nil))) (pe_one (pe_callB (id := "all") (cr_all rfl) (by rfl) T.n_all (by decide +kernel) (pa_cons (pe_lc (own := [("sign", 2)]) (g := gName 2) (by rfl) nd (pi_str (pv 1)) (blkOk_by (own := [("sign", 2)]) (N := N_is_text) (sc := defScope s_is_text) (by decide +kernel)) (fun _ _ _ _ _ => (pg_name (i := 2) nd rfl (Or.inl rfl))) (fun _ _ _ _ _ => pts_nil) (fun _ _ _ _ _ => (pe_cmpR op_in_sign (pv 2) (pv 0) (by rfl)))) pa_nil)))))), ?_⟩
    walk_at "rd"
    refine ⟨_, _, _, _, _, rfl, .ty _, hx.1, kit7 hx.2 (.inl rfl), ?_⟩
    walk_at "rd"
    refine iteK (fun hn => ?_) (fun hn => ?_)
    · have hn := beq_iff_eq.mp hn
      subst hn
      obtain ⟨y, rfl⟩ := hx.str_inv
      obtain ⟨hy, k1⟩ := k1 y rfl
      walk_at "rd"
      intro D hD
      refine lc_it walk_str (Acc (cl y) (fun c => .bl (decide (c ∈ cl z))) H D) (Acc.start _ _ _ _) (fun _ _ _ _ => trivial) ?_ ?_
      · rintro i _ H2 _ hi ka ⟨rfl, c, hc, rfl⟩
        walk_at "rd"
        exact ka.step0 (cl_get hc) (by rw [cl_len]; omega) rfl
      · intro H2 ka
        refine ⟨_, (cl y).map fun c => decide (c ∈ cl z), rfl, SqL.of (by rw [List.map_map]; exact Acc.all ka), ?_⟩
        have e : ((cl y).map fun c => decide (c ∈ cl z)).all id = (cl y).all fun c => decide (c ∈ cl z) := by
          rw [List.all_map]; rfl
        rw [e]
        exact k1 _ (ka.same hD)
    · exact k2 (by intro e; rw [e] at hn; simp at hn)
def sp_is_choice (K : PySem.W.Frag) : Sp := fun vs H Q _ => ∃ (z : Str) (x : V) (n : String), vs = [.str z, x] ∧ Ty7 K H x n ∧ z.length ≤ 1000 ∧
  (∀ y, x = .str y → y.length ≤ 1000000 ∧ ∀ H', Same H H' → Q (.bl (choiceB z y)) H') ∧ (strV x = false → Q (.bl false) H)
theorem ok_is_choice (T : Txt K mg) : FnOk P w K mg base CX0 2 T.f_is_choice T.d_is_choice ["signs", "thing"] (sp_is_choice K) := by
  have nd := sc_is_choice.nd
  refine T.F_is_choice.ok sc_is_choice (fun vs H Q E h => ?_) (fun cdv A outer s H vs Q E hr h => ?_)
  · obtain ⟨z, x, n, rfl, _⟩ := h
    rfl
  · obtain ⟨z, x, n, rfl, hx, hz, k1, k2⟩ := h
    refine ⟨_, (pss_cons (ps_if (PW.pt (pw_or (pt_not (pt_val (pe_callB (id := "isinstance") (call_isiK' (K := K) rfl) (by rfl) T.n_isinstance (by decide +kernel) (pa_cons (pv 1) (pa_cons (pe_bltn (v := .ty "str") (by rfl) T.n_str (by decide +kernel) rfl) pa_nil))))) (pw_or1 (pt_not (pt_chain op_le op_le pe_int (pe_callB (id := "len") (call_lenK (K := K) rfl) (by rfl) T.n_len (by decide +kernel) (pa_cons (pv 1) pa_nil)) (pe_callB (id := "len") (call_lenK (K := K) rfl) (by rfl) T.n_len (by decide +kernel) (pa_cons (pv 0) pa_nil))))))) (pss_one (ps_ret pe_bl)) pss_nil)
    (pss_one (ps_ret (pe_and (pe_call (ok_is_text T) (hr.mono (by decide)) (by rfl) T.m_is_text T.F_is_text.kp T.b_is_text .nil pass0 (pa_cons (pv 0) (pa_cons (pv 1) pa_nil))) (pe_one (pe_call (ok_ascends T) (hr.mono (by decide)) (by rfl) T.m_ascends T.F_ascends.kp T.b_ascends .nil pass0 (pa_cons (pv 1) pa_nil))))))), ?_⟩
    walk_at "rd"
    refine ⟨_, _, _, _, _, rfl, .ty _, hx.1, kit7 hx.2 (.inl rfl), ?_⟩
    walk_at "rd"
    refine iteK (fun hn => ?_) (fun hn => ?_)
    · walk_at "rd"
      refine k2 ?_
      rw [← hx.str_iff]
      simpa using hn
    · have hs : n = "str" := by simpa using hn
      subst hs
      obtain ⟨y, rfl⟩ := hx.str_inv
      obtain ⟨hy, k1⟩ := k1 y rfl
      walk_at "rd"
      have fin : ∀ b, choiceB z y = b → Q (.bl b) H := fun b e => by
        have q := k1 _ (Same.refl H)
        rwa [e] at q
      refine iteK (fun h1 => ?_) (fun h1 => ?_)
      · walk_at "rd"
        refine iteK (fun h2 => ?_) (fun h2 => ?_)
        · walk_at "rd"
          refine fin _ ?_
          have h2' : ¬ y.length ≤ z.length := by simpa using h2
          simp [choiceB, h2']
        · have h2' : y.length ≤ z.length := by simpa using h2
          have h1' : 1 ≤ y.length := by
            simp at h1
            omega
          walk_at "rd"
          refine ⟨z, _, _, rfl, hx, hz, fun y' e => ?_, fun e => absurd rfl e⟩
          cases e
          refine ⟨by omega, fun H1 s1 => ?_⟩
          walk_at "rd"
          refine iteK (fun h3 => ?_) (fun h3 => ?_)
          · walk_at "rd"
            intro H2 s2
            have q := k1 _ (s1.trans s2)
            have e : choiceB z y = ascB (cl y) := by
              have : overB z y = true := h3
              simp [choiceB, h1', h2', this]
            rwa [e] at q
          · have q := k1 _ s1
            have e : choiceB z y = false := by
              have : overB z y = false := h3
              simp [choiceB, this]
            rw [e] at q
            have h3' : ((cl y).all fun c => decide (c ∈ cl z)) = false := h3
            exact q
      · walk_at "rd"
        refine fin _ ?_
        have h1' : ¬ 1 ≤ y.length := by
          simp at h1
          omega
        simp [choiceB, h1']
def sp_is_integer (K : PySem.W.Frag) : Sp := fun vs H Q _ => ∃ (x : V) (n : String), vs = [x] ∧ Ty7 K H x n ∧ Q (.bl (intV x)) H
theorem ok_is_integer (T : Txt K mg) : FnOk P w K mg base CX0 1 T.f_is_integer T.d_is_integer ["thing"] (sp_is_integer K) := by
  have nd := sc_is_integer.nd
  refine T.F_is_integer.ok sc_is_integer (fun vs H Q E h => ?_) (fun cdv A outer s H vs Q E hr h => ?_)
  · obtain ⟨x, n, rfl, _⟩ := h
    rfl
  · obtain ⟨x, n, rfl, hx, k⟩ := h
    refine ⟨_, (pss_one (ps_ret (pe_and (pe_callB (id := "isinstance") (call_isiK' (K := K) rfl) (by rfl) T.n_isinstance (by decide +kernel) (pa_cons (pv 0) (pa_cons (pe_bltn (v := .ty "int") (by rfl) T.n_int (by decide +kernel) rfl) pa_nil))) (pe_one (pe_not (pe_callB (id := "isinstance") (call_isiK' (K := K) rfl) (by rfl) T.n_isinstance (by decide +kernel) (pa_cons (pv 0) (pa_cons (pe_bltn (v := .ty "bool") (by rfl) T.n_bool (by decide +kernel) rfl) pa_nil)))))))), ?_⟩
    walk_at "rd"
    refine ⟨_, _, _, _, _, rfl, .ty _, hx.1, kit7i hx.2, ?_⟩
    walk_at "rd"
    refine iteK (fun hn => ?_) (fun hn => ?_)
    · walk_at "rd"
      refine ⟨_, _, _, _, _, rfl, .ty _, hx.1, kit7 hx.2 (.inr (.inr (.inr (.inr rfl)))), ?_⟩
      walk_at "rd"
      have e : (!(n == "bool")) = intV x := by
        rw [← hx.int_iff]
        by_cases h1 : n = "int"
        · subst h1; rfl
        · by_cases h2 : n = "bool"
          · subst h2; rfl
          · exfalso; simp [h1, h2] at hn
      rw [e]
      exact k
    · have e : intV x = false := by
        rw [← hx.int_iff]
        simp only [Bool.or_eq_false_iff] at hn
        exact hn.1
      rw [e] at k
      exact k
def sp_is_within (K : PySem.W.Frag) : Sp := fun vs H Q _ => ∃ (x : V) (n : String) (a b : Int), vs = [x, .int a, .int b] ∧ Ty7 K H x n ∧ Q (.bl (withinV a b x)) H
theorem ok_is_within (T : Txt K mg) : FnOk P w K mg base CX0 2 T.f_is_within T.d_is_within ["thing", "least", "most"] (sp_is_within K) := by
  have nd := sc_is_within.nd
  refine T.F_is_within.ok sc_is_within (fun vs H Q E h => ?_) (fun cdv A outer s H vs Q E hr h => ?_)
  · obtain ⟨x, n, a, b, rfl, _⟩ := h
    rfl
  · obtain ⟨x, n, a, b, rfl, hx, k⟩ := h
    refine ⟨_, (pss_one (ps_ret (pe_and (pe_call (ok_is_integer T) (hr.mono (by decide)) (by rfl) T.m_is_integer T.F_is_integer.kp T.b_is_integer .nil pass0 (pa_cons (pv 0) pa_nil)) (pe_one (pe_chain op_le op_le (pv 1) (pv 0) (pv 2)))))), ?_⟩
    walk_at "rd"
    refine ⟨x, n, rfl, hx, ?_⟩
    walk_at "rd"
    cases x with
    | int i =>
      refine iteT ?_
      walk_at "rd"
      refine iteK (fun h1 => ?_) (fun h1 => ?_)
      · walk_at "rd"
        have e : withinV a b (.int i) = decide (i ≤ b) := by
          show (decide (a ≤ i) && decide (i ≤ b)) = _
          rw [h1, Bool.true_and]
        rw [e] at k
        exact k
      · have e : withinV a b (.int i) = false := by
          show (decide (a ≤ i) && decide (i ≤ b)) = _
          rw [h1, Bool.false_and]
        rw [e] at k
        exact k
    | _ => exact k
def sp_is_distance (K : PySem.W.Frag) : Sp := fun vs H Q _ => ∃ (x : V) (n : String), vs = [x] ∧ Ty7 K H x n ∧ Q (.bl (withinV 1 12 x)) H
theorem ok_is_distance (T : Txt K mg) : FnOk P w K mg base CX0 3 T.f_is_distance T.d_is_distance ["thing"] (sp_is_distance K) := by
  have nd := sc_is_distance.nd
  refine T.F_is_distance.ok sc_is_distance (fun vs H Q E h => ?_) (fun cdv A outer s H vs Q E hr h => ?_)
  · obtain ⟨x, n, rfl, _⟩ := h
    rfl
  · obtain ⟨x, n, rfl, hx, k⟩ := h
    refine ⟨_, (pss_one (ps_ret (pe_call (ok_is_within T) (hr.mono (by decide)) (by rfl) T.m_is_within T.F_is_within.kp T.b_is_within .nil pass0 (pa_cons (pv 0) (pa_cons pe_int (pa_cons (pe_glob (v := .int 12) (by rfl) T.m_MOST_DISTANCE ⟨_, rfl⟩) pa_nil)))))), ?_⟩
    walk_at "rd"
    exact ⟨x, n, _, _, rfl, hx, k⟩
def sp_is_token (K : PySem.W.Frag) : Sp := fun vs H Q _ => ∃ (z : Str) (a : Addr) (xs : List V), vs = [.str z, .ref a] ∧ SqT K H a xs ∧ tokV z xs = true ∧ z.length ≤ 1000 ∧ ∀ H', Same H H' → Q (.bl true) H'
theorem ok_is_token (T : Txt K mg) : FnOk P w K mg base CX0 4 T.f_is_token T.d_is_token ["signs", "thing"] (sp_is_token K) := by
  have nd := sc_is_token.nd
  refine T.F_is_token.ok sc_is_token (fun vs H Q E h => ?_) (fun cdv A outer s H vs Q E hr h => ?_)
  · obtain ⟨z, a, xs, rfl, _⟩ := h
    rfl
  · obtain ⟨z, a, xs, rfl, ha, ht, hz, k⟩ := h
    refine ⟨_, (pss_cons (ps_if (PW.pt (pw_or (pt_not (pt_val (pe_callB (id := "isinstance") (call_isiK' (K := K) rfl) (by rfl) T.n_isinstance (by decide +kernel) (pa_cons (pv 1) (pa_cons (pe_bltn (v := .ty "tuple") (by rfl) T.n_tuple (by decide +kernel) rfl) pa_nil))))) (pw_or (pt_cmpR op_eq (pe_callB (id := "len") (call_lenK (K := K) rfl) (by rfl) T.n_len (by decide +kernel) (pa_cons (pv 1) pa_nil)) pe_int (nomark _)) (pw_or1 (pt_not (pt_val (pe_callB (id := "isinstance") (call_isiK' (K := K) rfl) (by rfl) T.n_isinstance (by decide +kernel) (pa_cons (pe_ix (ix_tupK (K := K) rfl) (pv 1) pe_int (fun _ _ => rfl)) (pa_cons (pe_bltn (v := .ty "str") (by rfl) T.n_str (by decide +kernel) rfl) pa_nil))))))))) (pss_one (ps_ret pe_bl)) pss_nil)
    (pss_cons (ps_set (i := 2) nd rfl (Or.inl rfl) (pe_ix (ix_tupK (K := K) rfl) (pv 1) pe_int (fun _ _ => rfl)))
    (pss_cons (ps_if (pt_cmpR op_eq (pv 2) pe_str (nomark _)) (pss_one (ps_ret (pe_cmpR op_eq (pe_callB (id := "len") (call_lenK (K := K) rfl) (by rfl) T.n_len (by decide +kernel) (pa_cons (pv 1) pa_nil)) pe_int (nomark _)))) pss_nil)
    (pss_cons (ps_if (pt_cmpR op_eq (pv 2) pe_str (nomark _)) (pss_one (ps_ret (pe_and (pe_cmpR op_eq (pe_callB (id := "len") (call_lenK (K := K) rfl) (by rfl) T.n_len (by decide +kernel) (pa_cons (pv 1) pa_nil)) pe_int (nomark _)) (pe_and (pe_call (ok_is_text T) (hr.mono (by decide)) (by rfl) T.m_is_text T.F_is_text.kp T.b_is_text .nil pass0 (pa_cons (pv 0) (pa_cons (pe_ix (ix_tupK (K := K) rfl) (pv 1) pe_int (fun _ _ => rfl)) pa_nil))) (pe_one (pe_chain op_le op_le pe_int (pe_callB (id := "len") (call_lenK (K := K) rfl) (by rfl) T.n_len (by decide +kernel) (pa_cons (pe_ix (ix_tupK (K := K) rfl) (pv 1) pe_int (fun _ _ => rfl)) pa_nil)) (pe_glob (v := .int 40) (by rfl) T.m_MOST_SIZE ⟨_, rfl⟩))))))) pss_nil)
    (pss_cons (ps_if (pt_cmpR op_eq (pv 2) pe_str (nomark _)) (pss_one (ps_ret (pe_and (pe_cmpR op_eq (pe_callB (id := "len") (call_lenK (K := K) rfl) (by rfl) T.n_len (by decide +kernel) (pa_cons (pv 1) pa_nil)) pe_int (nomark _)) (pe_one (pe_call (ok_is_choice T) (hr.mono (by decide)) (by rfl) T.m_is_choice T.F_is_choice.kp T.b_is_choice .nil pass0 (pa_cons (pv 0) (pa_cons (pe_ix (ix_tupK (K := K) rfl) (pv 1) pe_int (fun _ _ => rfl)) pa_nil))))))) pss_nil)
    (pss_cons (ps_if (PW.pt (pw_or (pt_cmpR op_eq (pv 2) pe_str (nomark _)) (pw_or1 (pt_cmpR op_eq (pv 2) pe_str (nomark _))))) (pss_one (ps_ret (pe_and (pe_cmpR op_eq (pe_callB (id := "len") (call_lenK (K := K) rfl) (by rfl) T.n_len (by decide +kernel) (pa_cons (pv 1) pa_nil)) pe_int (nomark _)) (pe_and (pe_call (ok_is_distance T) (hr.mono (by decide)) (by rfl) T.m_is_distance T.F_is_distance.kp T.b_is_distance .nil pass0 (pa_cons (pe_ix (ix_tupK (K := K) rfl) (pv 1) pe_int (fun _ _ => rfl)) pa_nil)) (pe_one (pe_call (ok_is_within T) (hr.mono (by decide)) (by rfl) T.m_is_within T.F_is_within.kp T.b_is_within .nil pass0 (pa_cons (pe_ix (ix_tupK (K := K) rfl) (pv 1) pe_int (fun _ _ => rfl)) (pa_cons pe_int (pa_cons (pe_glob (v := .int 40) (by rfl) T.m_MOST_SIZE ⟨_, rfl⟩) pa_nil))))))))) pss_nil)
    (pss_one (ps_ret pe_bl)))))))), ?_⟩
    have hx := Ty7.of_tup ha
    obtain ⟨kd, rest, rfl, hk⟩ := tok_inv ht
    walk_at "rd"
    refine ⟨_, _, _, _, _, rfl, .ty _, hx.1, kit7 hx.2 (.inr (.inl rfl)), ?_⟩
    walk_at "rd"
    refine iteKN rfl ?_
    walk_at "rd"
    have e0 : decide (V.int ((V.str kd :: rest).length : Nat) = V.int 0) = false := by
      rw [decide_eq_false]
      intro e
      have := V.int.inj e
      simp at this
      omega
    refine iteKN e0 ?_
    rcases hk with ⟨rfl, rfl⟩ | ⟨y, rfl, rfl, h1, h2, h3⟩ | ⟨y, rfl, rfl, h1⟩ | ⟨d, n, hkd, rfl, h1, h2, h3, h4⟩
    · walk_at "rd"
      refine ⟨_, _, _, _, _, rfl, .ty _, (Ty7.str (H := H)).1, kit7 (n := "str") (by decide) (.inl rfl), ?_⟩
      walk_at "rd"
      refine iteKN rfl ?_
      walk_at "rd"
      walk_at "ks"
      walk_at "rd"
      exact k _ (Same.refl _)
    · have hy : y.length ≤ 1000 := by omega
      walk_at "rd"
      refine ⟨_, _, _, _, _, rfl, .ty _, (Ty7.str (H := H)).1, kit7 (n := "str") (by decide) (.inl rfl), ?_⟩
      walk_at "rd"
      refine iteKN rfl ?_
      walk_at "rd"
      walk_at "ks"
      walk_at "rd"
      walk_at "ks"
      walk_at "rd"
      refine iteKY rfl ?_
      walk_at "rd"
      refine ⟨z, _, _, rfl, Ty7.str, hz, fun y' e => ?_, fun e => absurd rfl e⟩
      cases e
      refine ⟨by omega, fun H1 s1 => ?_⟩
      have h1' : ((cl y).all fun c => decide (c ∈ cl z)) = true := h1
      rw [h1']
      have ha1 : SqT K H1 a [.str "text", .str y] := sqT_same s1 ha
      walk_at "rd"
      refine iteKY (by simp; omega) ?_
      walk_at "rd"
      have e : decide ((y.length : Int) ≤ 40) = true := by simp; omega
      have q := k _ s1
      rw [← e] at q
      exact q
    · walk_at "rd"
      refine ⟨_, _, _, _, _, rfl, .ty _, (Ty7.str (H := H)).1, kit7 (n := "str") (by decide) (.inl rfl), ?_⟩
      walk_at "rd"
      refine iteKN rfl ?_
      walk_at "rd"
      walk_at "ks"
      walk_at "rd"
      walk_at "ks"
      walk_at "rd"
      walk_at "ks"
      walk_at "rd"
      refine iteKY rfl ?_
      walk_at "rd"
      refine ⟨z, _, _, rfl, Ty7.str, hz, fun y' e => ?_, fun e => by cases e⟩
      cases e
      have hyl : y.length ≤ z.length := by
        unfold choiceB at h1
        simp only [Bool.and_eq_true, decide_eq_true_eq] at h1
        exact h1.1.1.2
      refine ⟨by omega, fun H1 s1 => ?_⟩
      have q := k _ s1
      rw [← h1] at q
      exact q
    · have fin : ∀ kd : Str, (kd = "copy" ∨ kd = "say") → True := fun _ _ => trivial
      rcases hkd with rfl | rfl
      · walk_at "rd"
        refine ⟨_, _, _, _, _, rfl, .ty _, (Ty7.str (H := H)).1, kit7 (n := "str") (by decide) (.inl rfl), ?_⟩
        walk_at "rd"
        refine iteKN rfl ?_
        walk_at "rd"
        walk_at "ks"
        walk_at "rd"
        walk_at "ks"
        walk_at "rd"
        walk_at "ks"
        walk_at "rd"
        walk_at "kk"
        walk_at "rd"
        refine iteKY rfl ?_
        walk_at "rd"
        refine ⟨.int d, _, rfl, Ty7.int, ?_⟩
        have e1 : withinV 1 12 (.int d) = true := by simp [withinV, h1, h2]
        have e2 : withinV 1 40 (.int n) = true := by simp [withinV, h3, h4]
        rw [e1]
        walk_at "rd"
        refine ⟨.int n, _, _, _, rfl, Ty7.int, ?_⟩
        have q := k _ (Same.refl _)
        rw [← e2] at q
        exact q
      · walk_at "rd"
        refine ⟨_, _, _, _, _, rfl, .ty _, (Ty7.str (H := H)).1, kit7 (n := "str") (by decide) (.inl rfl), ?_⟩
        walk_at "rd"
        refine iteKN rfl ?_
        walk_at "rd"
        walk_at "ks"
        walk_at "rd"
        walk_at "ks"
        walk_at "rd"
        walk_at "ks"
        walk_at "rd"
        walk_at "kk"
        walk_at "rd"
        refine iteKY rfl ?_
        walk_at "rd"
        refine ⟨.int d, _, rfl, Ty7.int, ?_⟩
        have e1 : withinV 1 12 (.int d) = true := by simp [withinV, h1, h2]
        have e2 : withinV 1 40 (.int n) = true := by simp [withinV, h3, h4]
        rw [e1]
        walk_at "rd"
        refine ⟨.int n, _, _, _, rfl, Ty7.int, ?_⟩
        have q := k _ (Same.refl _)
        rw [← e2] at q
        exact q
def sp_size (K : PySem.W.Frag) : Sp := fun vs H Q _ => ∃ (a : Addr) (xs : List V) (z : Str), vs = [.ref a] ∧ SqT K H a xs ∧ tokV z xs = true ∧ Q (.int (sizeV xs)) H
theorem ok_size (T : Txt K mg) : FnOk P w K mg base CX0 1 T.f_size T.d_size ["token"] (sp_size K) := by
  have nd := sc_size.nd
  refine T.F_size.ok sc_size (fun vs H Q E h => ?_) (fun cdv A outer s H vs Q E hr h => ?_)
  · obtain ⟨a, xs, z, rfl, _⟩ := h
    rfl
  · obtain ⟨a, xs, z, rfl, ha, ht, k⟩ := h
    refine ⟨_, (pss_cons (ps_set (i := 1) nd rfl (Or.inl rfl) (pe_ix (ix_tupK (K := K) rfl) (pv 0) pe_int (fun _ _ => rfl)))
    (pss_cons (ps_if (pt_cmpR op_eq (pv 1) pe_str (nomark _)) (pss_one (ps_ret pe_int)) pss_nil)
    (pss_cons (ps_if (pt_cmpR op_eq (pv 1) pe_str (nomark _)) (pss_one (ps_ret pe_int)) pss_nil)
    (pss_cons (ps_if (pt_cmpR op_eq (pv 1) pe_str (nomark _)) (pss_one (ps_ret (pe_callB (id := "len") (call_lenK (K := K) rfl) (by rfl) T.n_len (by decide +kernel) (pa_cons (pe_ix (ix_tupK (K := K) rfl) (pv 0) pe_int (fun _ _ => rfl)) pa_nil)))) pss_nil)
    (pss_one (ps_ret (pe_ix (ix_tupK (K := K) rfl) (pv 0) pe_int (fun _ _ => rfl)))))))), ?_⟩
    obtain ⟨kd, rest, rfl, hk⟩ := tok_inv ht
    rcases hk with ⟨rfl, rfl⟩ | ⟨y, rfl, rfl, h1, h2, h3⟩ | ⟨y, rfl, rfl, h1⟩ | ⟨d, n, hkd, rfl, h1, h2, h3, h4⟩
    · walk_at "rd"
      walk_at "ks"
      exact k
    · have hy : y.length ≤ 1000 := by omega
      walk_at "rd"
      walk_at "ks"
      walk_at "rd"
      walk_at "ks"
      walk_at "rd"
      walk_at "ks"
      walk_at "rd"
      rwa [sizeV_text] at k
    · walk_at "rd"
      walk_at "ks"
      walk_at "rd"
      walk_at "ks"
      rw [sizeV_any] at k
      exact k
    · rcases hkd with rfl | rfl
      · walk_at "rd"
        walk_at "ks"
        walk_at "rd"
        walk_at "ks"
        walk_at "rd"
        walk_at "ks"
        walk_at "rd"
        exact k
      · walk_at "rd"
        walk_at "ks"
        walk_at "rd"
        walk_at "ks"
        walk_at "rd"
        walk_at "ks"
        walk_at "rd"
        exact k
def sp_are_tokens (K : PySem.W.Frag) : Sp := fun vs H Q _ => ∃ (z : Str) (l : Addr) (tvs : List V) (ts : List (List V)), vs = [.str z, .ref l] ∧ SqL K H l tvs ∧ Toks K H z tvs ts ∧
  z.length ≤ 1000 ∧ ts.length ≤ 1000 ∧ 1 ≤ tsize ts ∧ tsize ts ≤ 40 ∧ ∀ H', Same H H' → Q (.bl true) H'
theorem ok_are_tokens (T : Txt K mg) : FnOk P w K mg base CX0 5 T.f_are_tokens T.d_are_tokens ["signs", "thing"] (sp_are_tokens K) := by
  have nd := sc_are_tokens.nd
  refine T.F_are_tokens.ok sc_are_tokens (fun vs H Q E h => ?_) (fun cdv A outer s H vs Q E hr h => ?_)
  · obtain ⟨z, l, tvs, ts, rfl, _⟩ := h
    rfl
  · obtain ⟨z, l, tvs, ts, rfl, hl, htk, hz, hn, h1, h2, k⟩ := h
    refine ⟨_, (pss_cons (ps_if (PW.pt (pw_or (pt_not (pt_val (pe_callB (id := "isinstance") (call_isiK' (K := K) rfl) (by rfl) T.n_isinstance (by decide +kernel) (pa_cons (pv 1) (pa_cons (pe_bltn (v := .ty "list") (by rfl) T.n_list (by decide +kernel) rfl) pa_nil))))) (pw_or1 (pt_not (pt_val (pe_callB (id := "all") (cr_all rfl) (by rfl) T.n_all (by decide +kernel) (pa_cons (pe_lc (own := [("token", 2)]) (g := gName 2) (by rfl) nd (pi_list (pv 1)) (blkOk_by (own := [("token", 2)]) (N := N_are_tokens) (sc := defScope s_are_tokens) (by decide +kernel)) (fun _ _ _ _ _ => (pg_name (i := 2) nd rfl (Or.inl rfl))) (fun _ _ _ _ _ => pts_nil) (fun _ _ _ _ _ => (pe_call (ok_is_token T) (hr.mono (by decide)) (by rfl) T.m_is_token T.F_is_token.kp T.b_is_token .nil pass0 (pa_cons (pv 0) (pa_cons (pv 2) pa_nil))))) pa_nil))))))) (pss_one (ps_ret pe_bl)) pss_nil)
    (pss_one (ps_ret (pe_chain op_le op_le pe_int (pe_callB (id := "sum") (cr_sum rfl) (by rfl) T.n_sum (by decide +kernel) (pa_cons (pe_lc (own := [("token", 2)]) (g := gName 2) (by rfl) nd (pi_list (pv 1)) (blkOk_by (own := [("token", 2)]) (N := N_are_tokens) (sc := defScope s_are_tokens) (by decide +kernel)) (fun _ _ _ _ _ => (pg_name (i := 2) nd rfl (Or.inl rfl))) (fun _ _ _ _ _ => pts_nil) (fun _ _ _ _ _ => (pe_call (ok_size T) (hr.mono (by decide)) (by rfl) T.m_size T.F_size.kp T.b_size .nil pass0 (pa_cons (pv 2) pa_nil)))) pa_nil)) (ClX.pe_cval (pe_glob (v := .ref T.c_Piece) (by rfl) T.m_Piece rfl)))))), ?_⟩
    have hx := Ty7.of_lst hl
    have hlen := paired_len htk
    walk_at "rd"
    refine ⟨_, _, _, _, _, rfl, .ty _, hx.1, kit7 hx.2 (.inr (.inr (.inl rfl))), ?_⟩
    walk_at "rd"
    refine iteKN rfl ?_
    walk_at "rd"
    refine ⟨⟨_, hl⟩, ?_⟩
    intro D hD
    refine lc_list (K := K) (a := l) (xs := tvs) (Acc ts (fun _ => .bl true) H D) (Acc.start _ _ _ _) (fun i H2 _ ka => (ka.same hD).seq hl) ?_ ?_
    · intro i v H2 hv ka
      obtain ⟨t, ht, ⟨⟨a, rfl, ha⟩, hok⟩⟩ := paired_get htk hv
      walk_at "rd"
      refine ⟨z, a, t, rfl, sqT_same (ka.same hD) ha, hok, hz, fun H3 s3 => ?_⟩
      exact ka.step (KeepB.of_same s3) ((s3 _ _ ka.2).trans ka.2.symm) ht (by omega) rfl
    · rw [hlen]
      intro H2 ka
      refine ⟨_, ts.map (fun _ => true), rfl, SqL.of (by rw [List.map_map]; exact Acc.all ka), ?_⟩
      have e : (ts.map fun _ => true).all id = true := by simp
      rw [e]
      walk_at "rd"
      refine iteKN rfl ?_
      walk_at "rd"
      refine ⟨⟨_, (ka.same hD).seq hl⟩, ?_⟩
      intro D2 hD2
      refine lc_list (K := K) (a := l) (xs := tvs) (Acc ts (fun t => .int (sizeV t)) H2 D2) (Acc.start _ _ _ _) (fun i H3 _ ka2 => (ka2.same hD2).seq ((ka.same hD).seq hl)) ?_ ?_
      · intro i v H3 hv ka2
        obtain ⟨t, ht, ⟨⟨a, rfl, ha⟩, hok⟩⟩ := paired_get htk hv
        walk_at "rd"
        refine ⟨a, t, z, rfl, sqT_same ((ka.same hD).trans (ka2.same hD2)) ha, hok, ?_⟩
        exact ka2.step0 ht (by omega) rfl
      · rw [hlen]
        intro H3 ka2
        refine ⟨_, ts.map sizeV, rfl, SqL.of (by rw [List.map_map]; exact Acc.all ka2), ?_⟩
        walk_at "rd"
        refine iteDY (show (1 : Int) ≤ (ts.map sizeV).sum from h1) ?_
        walk_at "rd"
        refine ⟨_, _, _, _, rfl, T.cr_Piece, T.cv_Piece_MOST, ?_⟩
        walk_at "rd"
        have e2 : decide ((ts.map sizeV).sum ≤ 40) = true := decide_eq_true h2
        have q := k _ ((ka.same hD).trans (ka2.same hD2))
        rw [← e2] at q
        exact q
def sp_places_of (K : PySem.W.Frag) : Sp := fun vs H Q _ => ∃ (l : Addr) (tvs : List V) (ts : List (List V)) (z : Str), vs = [.ref l] ∧ SqL K H l tvs ∧ Toks K H z tvs ts ∧ tsize ts ≤ 1000 ∧
  ∀ (p : Addr) (pvs : List V) (H' : Hp), Same H H' → H p = none → H' p = some (.lst pvs) → Plcs K H' pvs (placesL ts) → Q (.ref p) H'
theorem ok_places_of (T : Txt K mg) : FnOk P w K mg base CX0 1 T.f_places_of T.d_places_of ["tokens"] (sp_places_of K) := by
  have nd := sc_places_of.nd
  refine T.F_places_of.ok sc_places_of (fun vs H Q E h => ?_) (fun cdv A outer s H vs Q E hr h => ?_)
  · obtain ⟨l, tvs, ts, z, rfl, _⟩ := h
    rfl
  · obtain ⟨l, tvs, ts, z, rfl, hl, htk, hn, k⟩ := h
    refine ⟨_, (pss_cons (ps_set (i := 1) nd rfl (Or.inl rfl) (pe_lst pa_nil))
    (pss_cons (ps_for PassesOwn.never rfl (pi_list (pv 0)) (pg_name (i := 2) nd rfl (Or.inl rfl)) (pss_cons (ps_set (i := 3) nd rfl (Or.inl rfl) (pe_ix (ix_tupK (K := K) rfl) (pv 2) pe_int (fun _ _ => rfl)))
    (pss_one (ps_if (pt_cmpR op_eq (pv 3) pe_str (nomark _)) (pss_one (ps_expr (pe_bm PySem.F.plainAttrs_list PySem.F.slot_list_extend PySem.F.type_list_extend mt_extend (pv 1) (pa_cons (pe_lc (own := [("sign", 4)]) (g := gName 4) (by rfl) nd (pi_str (pe_ix (ix_tupK (K := K) rfl) (pv 2) pe_int (fun _ _ => rfl))) (blkOk_by (own := [("sign", 4)]) (N := N_places_of) (sc := defScope s_places_of) (by decide +kernel)) (fun _ _ _ _ _ => (pg_name (i := 4) nd rfl (Or.inl rfl))) (fun _ _ _ _ _ => pts_nil) (fun _ _ _ _ _ => (pe_tup (pa_cons pe_str (pa_cons (pv 4) pa_nil))))) pa_nil)))) (pss_one (ps_if (pt_cmpR op_eq (pv 3) pe_str (nomark _)) (pss_one (ps_expr (pe_bm PySem.F.plainAttrs_list PySem.F.slot_list_append PySem.F.type_list_append mt_append (pv 1) (pa_cons (pe_tup (pa_cons pe_str (pa_cons (pe_ix (ix_tupK (K := K) rfl) (pv 2) pe_int (fun _ _ => rfl)) pa_nil))) pa_nil)))) (pss_one (ps_if (pt_cmpR op_ne (pv 3) pe_str (nomark _)) (pss_one (ps_expr (pe_bm PySem.F.plainAttrs_list PySem.F.slot_list_extend PySem.F.type_list_extend mt_extend (pv 1) (pa_cons (pe_op op_rep (pe_lst (pa_cons (pe_tup (pa_cons (pv 3) (pa_cons (pe_ix (ix_tupK (K := K) rfl) (pv 2) pe_int (fun _ _ => rfl)) pa_nil))) pa_nil)) (pe_ix (ix_tupK (K := K) rfl) (pv 2) pe_int (fun _ _ => rfl))) pa_nil)))) pss_nil))))))))
    (pss_one (ps_ret (pv 1))))), ?_⟩
    have hlen := paired_len htk
    walk_at "rd"
    intro D hD
    walk_at "rd"
    refine ⟨⟨_, (same_new hD).seq hl⟩, ?_⟩
    refine for_list (K := K) (a := l) (xs := tvs) (fun i σ H2 => KeepB D H H2 ∧ ∃ (pvs : List V) (tok knd : Option V), σ = [some (.ref l), some (.ref D), tok, knd, none] ∧ H2 D = some (.lst pvs) ∧ Plcs K H2 pvs (placesL (ts.take i))) ?_ ?_ ?_ ?_
    · exact ⟨KeepB.put, [], none, none, rfl, upd_same, .nil⟩
    · rintro i σ H2 _ ⟨k2, _⟩
      exact (same_keepB hD k2).seq hl
    · rintro i v σ H2 hv ⟨k2, pvs, tok, knd, rfl, hp, hpl⟩
      have s2 := same_keepB hD k2
      obtain ⟨t, ht, ⟨⟨q, rfl, hq⟩, hok⟩⟩ := paired_get htk hv
      have hq := sqT_same s2 hq
      have hpt := places_step ht
      have hst := tsize_step ht
      have hle := tsize_take_le (i := i + 1) htk.ok
      have hle0 := tsize_take_le (i := i) htk.ok
      have hpll := places_len (ts := ts.take i) (z := z) fun u hu => htk.ok u (List.mem_of_mem_take hu)
      have hnp : (pvs.length : Int) ≤ 1000 := by rw [paired_len hpl]; omega
      obtain ⟨kd, rest, rfl, hk⟩ := tok_inv hok
      rcases hk with ⟨rfl, rfl⟩ | ⟨y, rfl, rfl, h1, h2, h3⟩ | ⟨y, rfl, rfl, h1⟩ | ⟨d, n, hkd, rfl, h1, h2, h3, h4⟩
      · walk_at "rd"
        walk_at "ks"
        walk_at "rd"
        walk_at "ks"
        walk_at "rd"
        refine iteNeF ?_
        exact ⟨k2, pvs, _, _, rfl, hp, by rw [hpt]; exact (List.append_nil (placesL (ts.take i))).symm ▸ hpl⟩
      · walk_at "rd"
        walk_at "ks"
        walk_at "rd"
        try refine And.intro (Or.inl ⟨rfl, _, SqL.of hp⟩) ?_
        walk_at "rd"
        intro D2 hD2
        have hne := ne_of_none hp hD2
        refine lc_it walk_str (fun i H3 => KeepB D2 H2 H3 ∧ ∃ acc, H3 D2 = some (.lst acc) ∧ Plcs K H3 acc (((cl y).take i).map fun c => [V.str "sign", V.str (sg c)])) ?_ (fun _ _ _ _ => trivial) ?_ ?_
        · exact ⟨KeepB.put, [], upd_same, .nil⟩
        · rintro i _ H3 _ hi ⟨k3, acc, ha, hal⟩ ⟨rfl, c, hc, rfl⟩
          have hi' : i < y.length := hi
          have hln := paired_len hal
          rw [List.length_map, List.length_take] at hln
          walk_at "rd"
          intro p' hp'
          have s7 := same_new (o := .tup [.str "sign", .str (sg c)]) hp'
          refine ⟨acc, s7 _ _ ha, szt (by omega), (k3.trans (KeepB.of_same s7)).trans KeepB.put, _, upd_same, ?_⟩
          rw [take_succ' (cl_get hc), List.map_append]
          exact Plcs.keep KeepB.put (lst_lst (s7 _ _ ha)) (paired_app (Plcs.same s7 hal) (paired_one TupAt.new))
        · rintro H3 ⟨k3, acc, ha, hal⟩
          have s3 := same_keepB hD2 k3
          have hal : Plcs K H3 acc (((cl y).take y.length).map fun c => [V.str "sign", V.str (sg c)]) := hal
          rw [List.take_of_length_le (by rw [cl_len]; omega), ← place_text] at hal
          have hln := paired_len hal
          rw [place_text, List.length_map, cl_len] at hln
          refine ⟨D, D2, pvs, acc, rfl, rfl, s3 _ _ hp, ha, szl (by omega), ?_⟩
          refine ⟨(k2.trans (KeepB.of_same s3)).trans KeepB.put, _, _, _, rfl, upd_same, ?_⟩
          rw [hpt]
          exact Plcs.keep KeepB.put (lst_lst (s3 _ _ hp)) (paired_app (Plcs.same s3 hpl) hal)
      · walk_at "rd"
        walk_at "ks"
        walk_at "rd"
        walk_at "ks"
        walk_at "rd"
        try refine And.intro (Or.inl ⟨rfl, _, SqL.of hp⟩) ?_
        walk_at "rd"
        intro p' hp'
        have s7 := same_new (o := .tup [.str "hole", .str y]) hp'
        refine ⟨D, pvs, _, rfl, rfl, s7 _ _ hp, szt (by omega), ?_⟩
        refine ⟨(k2.trans (KeepB.of_same s7)).trans KeepB.put, _, _, _, rfl, upd_same, ?_⟩
        rw [hpt, place_any]
        exact Plcs.keep KeepB.put (lst_lst (s7 _ _ hp)) (paired_app (Plcs.same s7 hpl) (paired_one TupAt.new))
      · rcases hkd with rfl | rfl
        · walk_at "rd"
          walk_at "ks"
          walk_at "rd"
          walk_at "ks"
          walk_at "rd"
          refine iteNeT (by decide +kernel) ?_
          walk_at "rd"
          try refine ⟨Or.inl ⟨rfl, _, SqL.of hp⟩, ?_⟩
          walk_at "rd"
          intro p' hp'
          walk_at "rd"
          intro q' hq'
          walk_at "rd"
          have s5 := (same_new (o := .tup [.str "copy", .int d]) hp').trans (same_new (o := .lst [.ref p']) hq')
          refine ⟨_, _, _, _, rfl, rfl, sqT_same s5 hq, rfl, ?_⟩
          refine ⟨q', n, [.ref p'], rfl, rfl, upd_same, by omega, by omega, szl (by rw [List.length_singleton]; omega), fun p3 hp3 => ?_⟩
          have hz : (List.replicate n.toNat [V.ref p']).flatten.length = n.toNat := by
            rw [List.length_flatten, List.map_replicate, List.sum_replicate_nat]
            exact Nat.mul_one _
          have s6 := s5.trans (same_new (o := .lst (List.replicate n.toNat [V.ref p']).flatten) hp3)
          refine ⟨D, p3, pvs, _, rfl, rfl, s6 _ _ hp, upd_same, szl (by rw [hz]; omega), ?_⟩
          refine ⟨(k2.trans (KeepB.of_same s6)).trans KeepB.put, _, _, _, rfl, upd_same, ?_⟩
          have hone := TupAt.same (K := K) ((same_new (o := .lst [.ref p']) hq').trans (same_new (o := .lst (List.replicate n.toNat [V.ref p']).flatten) hp3)) (TupAt.new (H := H2) (p := p') (xs := [.str "copy", .int d]))
          have hrep := paired_rep hone n.toNat
          rw [← flat_rep] at hrep
          rw [hpt]
          exact Plcs.keep KeepB.put (lst_lst (s6 _ _ hp)) (paired_app (Plcs.same s6 hpl) hrep)
        · walk_at "rd"
          walk_at "ks"
          walk_at "rd"
          walk_at "ks"
          walk_at "rd"
          refine iteNeT (by decide +kernel) ?_
          walk_at "rd"
          try refine ⟨Or.inl ⟨rfl, _, SqL.of hp⟩, ?_⟩
          walk_at "rd"
          intro p' hp'
          walk_at "rd"
          intro q' hq'
          walk_at "rd"
          have s5 := (same_new (o := .tup [.str "say", .int d]) hp').trans (same_new (o := .lst [.ref p']) hq')
          refine ⟨_, _, _, _, rfl, rfl, sqT_same s5 hq, rfl, ?_⟩
          refine ⟨q', n, [.ref p'], rfl, rfl, upd_same, by omega, by omega, szl (by rw [List.length_singleton]; omega), fun p3 hp3 => ?_⟩
          have hz : (List.replicate n.toNat [V.ref p']).flatten.length = n.toNat := by
            rw [List.length_flatten, List.map_replicate, List.sum_replicate_nat]
            exact Nat.mul_one _
          have s6 := s5.trans (same_new (o := .lst (List.replicate n.toNat [V.ref p']).flatten) hp3)
          refine ⟨D, p3, pvs, _, rfl, rfl, s6 _ _ hp, upd_same, szl (by rw [hz]; omega), ?_⟩
          refine ⟨(k2.trans (KeepB.of_same s6)).trans KeepB.put, _, _, _, rfl, upd_same, ?_⟩
          have hone := TupAt.same (K := K) ((same_new (o := .lst [.ref p']) hq').trans (same_new (o := .lst (List.replicate n.toNat [V.ref p']).flatten) hp3)) (TupAt.new (H := H2) (p := p') (xs := [.str "say", .int d]))
          have hrep := paired_rep hone n.toNat
          rw [← flat_rep] at hrep
          rw [hpt]
          exact Plcs.keep KeepB.put (lst_lst (s6 _ _ hp)) (paired_app (Plcs.same s6 hpl) hrep)
    · rintro σ H2 ⟨k2, pvs, tok, knd, rfl, hp, hpl⟩
      rw [hlen, List.take_length] at hpl
      walk_at "rd"
      exact k D pvs _ (same_keepB hD k2) hD hp hpl
def sp_are_letters : Sp := fun vs H Q _ => ∃ z : Str, vs = [.str z] ∧ z.length ≤ 1000 ∧ ∀ H', Same H H' → Q (.bl (lettersB z)) H'
theorem ok_are_letters (T : Txt K mg) : FnOk P w K mg base CX0 1 T.f_are_letters T.d_are_letters ["text"] sp_are_letters := by
  have nd := sc_are_letters.nd
  refine T.F_are_letters.ok sc_are_letters (fun vs H Q E h => ?_) (fun cdv A outer s H vs Q E hr h => ?_)
  · obtain ⟨z, rfl, _⟩ := h
    rfl
  · obtain ⟨z, rfl, hz, k⟩ := h
    refine ⟨_, (pss_one (ps_ret (pe_callB (id := "all") (cr_all rfl) (by rfl) T.n_all (by decide +kernel) (pa_cons (pe_lc (own := [("letter", 1)]) (g := gName 1) (by rfl) nd (pi_str (pv 0)) (blkOk_by (own := [("letter", 1)]) (N := N_are_letters) (sc := defScope s_are_letters) (by decide +kernel)) (fun _ _ _ _ _ => (pg_name (i := 1) nd rfl (Or.inl rfl))) (fun _ _ _ _ _ => pts_nil) (fun _ _ _ _ _ => (pe_chain op_le_str op_le_str pe_str (pv 1) pe_str))) pa_nil)))), ?_⟩
    walk_at "rd"
    intro D hD
    refine lc_it walk_str (Acc (cl z) (fun c => .bl (letB c)) H D) (Acc.start _ _ _ _) (fun _ _ _ _ => trivial) ?_ ?_
    · rintro i _ H2 _ hi ka ⟨rfl, c, hc, rfl⟩
      walk_at "rd"
      refine iteK (fun h1 => ?_) (fun h1 => ?_)
      · walk_at "rd"
        refine ka.step0 (cl_get hc) (by rw [cl_len]; omega) ?_
        rw [le_a] at h1
        rw [le_z]
        simp [letB, h1]
      · refine ka.step0 (cl_get hc) (by rw [cl_len]; omega) ?_
        rw [le_a] at h1
        simp [letB, h1]
    · intro H2 ka
      refine ⟨_, (cl z).map letB, rfl, SqL.of (by rw [List.map_map]; exact Acc.all ka), ?_⟩
      have e : ((cl z).map letB).all id = lettersB z := by
        rw [List.all_map]; rfl
      rw [e]
      exact k _ (ka.same hD)
def sp_is_signs (K : PySem.W.Frag) : Sp := fun vs H Q _ => ∃ (x : V) (n : String), vs = [x] ∧ Ty7 K H x n ∧
  (∀ y, x = .str y → y.length ≤ 1000000 ∧ ∀ H', Same H H' → Q (.bl (signsB y)) H') ∧ (strV x = false → Q (.bl false) H)
theorem ok_is_signs (T : Txt K mg) : FnOk P w K mg base CX0 2 T.f_is_signs T.d_is_signs ["thing"] (sp_is_signs K) := by
  have nd := sc_is_signs.nd
  refine T.F_is_signs.ok sc_is_signs (fun vs H Q E h => ?_) (fun cdv A outer s H vs Q E hr h => ?_)
  · obtain ⟨x, n, rfl, _⟩ := h
    rfl
  · obtain ⟨x, n, rfl, hx, k1, k2⟩ := h
    refine ⟨_, (pss_cons (ps_if (PW.pt (pw_or (pt_not (pt_val (pe_callB (id := "isinstance") (call_isiK' (K := K) rfl) (by rfl) T.n_isinstance (by decide +kernel) (pa_cons (pv 0) (pa_cons (pe_bltn (v := .ty "str") (by rfl) T.n_str (by decide +kernel) rfl) pa_nil))))) (pw_or1 (pt_not (pt_chain op_le op_le pe_int (pe_callB (id := "len") (call_lenK (K := K) rfl) (by rfl) T.n_len (by decide +kernel) (pa_cons (pv 0) pa_nil)) (pe_glob (v := .int 6) (by rfl) T.m_MOST_SIGNS ⟨_, rfl⟩)))))) (pss_one (ps_ret pe_bl)) pss_nil)
    (pss_one (ps_ret (pe_and (pe_call (ok_are_letters T) (hr.mono (by decide)) (by rfl) T.m_are_letters T.F_are_letters.kp T.b_are_letters .nil pass0 (pa_cons (pv 0) pa_nil)) (pe_one (pe_call (ok_ascends T) (hr.mono (by decide)) (by rfl) T.m_ascends T.F_ascends.kp T.b_ascends .nil pass0 (pa_cons (pv 0) pa_nil))))))), ?_⟩
    walk_at "rd"
    refine ⟨_, _, _, _, _, rfl, .ty _, hx.1, kit7 hx.2 (.inl rfl), ?_⟩
    walk_at "rd"
    refine iteK (fun hn => ?_) (fun hn => ?_)
    · walk_at "rd"
      refine k2 ?_
      rw [← hx.str_iff]
      simpa using hn
    · have hs : n = "str" := by simpa using hn
      subst hs
      obtain ⟨y, rfl⟩ := hx.str_inv
      obtain ⟨hy, k1⟩ := k1 y rfl
      walk_at "rd"
      have fin : ∀ b, signsB y = b → Q (.bl b) H := fun b e => by
        have q := k1 _ (Same.refl H)
        rwa [e] at q
      refine iteK (fun h1 => ?_) (fun h1 => ?_)
      · walk_at "rd"
        refine iteK (fun h2 => ?_) (fun h2 => ?_)
        · walk_at "rd"
          refine fin _ ?_
          have h2' : ¬ y.length ≤ 6 := by
            intro e
            simp at h2
            omega
          simp [signsB, h2']
        · have h2' : y.length ≤ 6 := by
            simp at h2
            omega
          have h1' : 2 ≤ y.length := by
            simp at h1
            omega
          walk_at "rd"
          intro H1 s1
          walk_at "rd"
          refine iteK (fun h3 => ?_) (fun h3 => ?_)
          · walk_at "rd"
            intro H2 s2
            have q := k1 _ (s1.trans s2)
            have e : signsB y = ascB (cl y) := by
              simp [signsB, h1', h2', h3]
            rwa [e] at q
          · have q := k1 _ s1
            have e : signsB y = false := by
              simp [signsB, h3]
            rw [e] at q
            exact q
      · walk_at "rd"
        refine fin _ ?_
        have h1' : ¬ 2 ≤ y.length := by
          intro e
          simp at h1
          omega
        simp [signsB, h1']
def sp_Piece_init (K : PySem.W.Frag) (C : Addr) : Sp := fun vs H Q _ => ∃ (a dx l : Addr) (z : Str) (tvs : List V) (ts : List (List V)), vs = [.ref a, .str z, .ref l] ∧ H a = some (.ins C dx []) ∧ SignsOk z ∧ SqL K H l tvs ∧ Toks K H z tvs ts ∧
  ts.length ≤ 1000 ∧ 1 ≤ tsize ts ∧ tsize ts ≤ 40 ∧ ∀ H', KeepB a H H' → PieceAt K C H' a z ts → NewIn C H H' a → Q .non H'
theorem ok_Piece_init (T : Txt K mg) : FnOk P w K mg base CX0 6 T.f_Piece_init T.d_Piece_init ["self", "signs", "tokens"] (sp_Piece_init K T.c_Piece) := by
  have nd := sc_Piece_init.nd
  refine T.F_Piece_init.ok sc_Piece_init (fun vs H Q E h => ?_) (fun cdv A outer s H vs Q E hr h => ?_)
  · obtain ⟨a, dx, l, z, tvs, ts, rfl, _⟩ := h
    rfl
  · obtain ⟨a, dx, l, z, tvs, ts, rfl, ha, hz, hl, htk, hn, h1, h2, k⟩ := h
    refine ⟨_, (pss_cons (ps_if (pt_not (pt_val (pe_call (ok_is_signs T) (hr.mono (by decide)) (by rfl) T.m_is_signs T.F_is_signs.kp T.b_is_signs .nil pass0 (pa_cons (pv 1) pa_nil)))) (pss_one ps_never) pss_nil)
    (pss_cons (ps_if (pt_not (pt_val (pe_call (ok_are_tokens T) (hr.mono (by decide)) (by rfl) T.m_are_tokens T.F_are_tokens.kp T.b_are_tokens .nil pass0 (pa_cons (pv 1) (pa_cons (pv 2) pa_nil))))) (pss_one ps_never) pss_nil)
    (pss_cons (ps_fld (pv 0) (pv 1) rfl)
    (pss_cons (ps_fld (pv 0) (pe_callTy (T := "list") call_list_of (by rfl) T.n_list (by decide +kernel) (pa_cons (pv 2) pa_nil)) rfl)
    (pss_one (ps_fld (pv 0) (pe_call (ok_places_of T) (hr.mono (by decide)) (by rfl) T.m_places_of T.F_places_of.kp T.b_places_of .nil pass0 (pa_cons (pv 2) pa_nil)) rfl)))))), ?_⟩
    have hzl := hz.len
    walk_at "rd"
    refine ⟨.str z, "str", rfl, Ty7.str, fun y e => ?_, fun e => by cases e⟩
    cases e
    refine ⟨by omega, fun H1 s1 => ?_⟩
    rw [show signsB z = true from hz]
    walk_at "rd"
    refine iteKN rfl ?_
    walk_at "rd"
    refine ⟨z, l, tvs, ts, rfl, s1.seq hl, htk.same s1, by omega, hn, h1, h2, fun H2 s2 => ?_⟩
    have s12 := s1.trans s2
    walk_at "rd"
    refine iteKN rfl ?_
    walk_at "rd"
    refine ⟨a, _, dx, _, rfl, s12 _ _ ha, T.cl_Piece, T.na_Piece_signs, by decide, ?_⟩
    have k3 : KeepB a H (upd H2 a (.ins T.c_Piece dx (putF "_signs" (.str z) []))) := (KeepB.of_same s12).trans KeepB.put
    walk_at "rd"
    refine ⟨l, tvs, rfl, .inl (sqL_keep k3 ha hl), fun l2 hl2 => ?_⟩
    have nl2 : l2 ≠ a := (ne_of_none (upd_same) hl2).symm
    walk_at "rd"
    refine ⟨a, _, dx, _, rfl, same_new hl2 _ _ upd_same, T.cl_Piece, T.na_Piece_tokens, Nat.lt_of_le_of_lt (length_putF _ _ _) (by decide), ?_⟩
    have k4 := (k3.trans (KeepB.new (o := .lst tvs) hl2)).trans (KeepB.put (o := .ins T.c_Piece dx (putF "_tokens" (.ref l2) (putF "_signs" (.str z) []))))
    walk_at "rd"
    refine ⟨l, tvs, ts, z, rfl, sqL_keep k4 ha hl, htk.keep k4 (ins_lst ha), by omega, fun p pvs H6 s6 hp1 hp2 hpl => ?_⟩
    have np : p ≠ a := (ne_of_none (upd_same) hp1).symm
    walk_at "rd"
    refine ⟨a, _, dx, _, rfl, s6 _ _ upd_same, T.cl_Piece, T.na_Piece_places, Nat.lt_of_le_of_lt (length_putF _ _ _) (Nat.lt_of_le_of_lt (Nat.add_le_add_right (length_putF _ _ _) 1) (by decide)), ?_⟩
    have k5 := (k4.trans (KeepB.of_same s6)).trans (KeepB.put (o := .ins T.c_Piece dx (pf z l2 p)))
    refine k _ k5 ⟨dx, l2, p, tvs, pvs, upd_same, ?_, htk.keep k5 (ins_lst ha), ?_, Plcs.keep KeepB.put (ins_lst (s6 _ _ upd_same)) hpl⟩ ?_
    · rw [upd_ne nl2]
      exact s6 _ _ (by rw [upd_ne nl2]; exact upd_same)
    · rw [upd_ne np]
      exact hp2
    · intro dx' l' p' z' e
      rw [upd_same] at e
      have e := HO.ins.inj (Option.some.inj e)
      obtain ⟨rfl, rfl⟩ := pf_inj e.2.2
      refine ⟨?_, k4.back hp1 np⟩
      rw [upd_ne nl2] at hl2
      exact s12.free hl2
def sp_Piece_flushes (K : PySem.W.Frag) (C : Addr) : Sp := fun vs H Q _ => ∃ (a : Addr) (z : Str) (ts : List (List V)), vs = [.ref a] ∧ PieceAt K C H a z ts ∧ tsize ts ≤ 60 ∧ ts.length ≤ 200 ∧
  ∀ (l : Addr) (H' : Hp), Same H H' → H l = none → H' l = some (.lst ((flushA ts 0 []).map V.int)) → Q (.ref l) H'
theorem ok_Piece_flushes (T : Txt K mg) : FnOk P w K mg base CX0 2 T.f_Piece_flushes T.d_Piece_flushes ["self"] (sp_Piece_flushes K T.c_Piece) := by
  have nd := sc_Piece_flushes.nd
  refine T.F_Piece_flushes.ok sc_Piece_flushes (fun vs H Q E h => ?_) (fun cdv A outer s H vs Q E hr h => ?_)
  · obtain ⟨a, z, ts, rfl, _⟩ := h
    rfl
  · obtain ⟨a, z, ts, rfl, ⟨dx, l, p, tvs, pvs, ha, hl, htk, hp, hpl⟩, hsz, hn, k⟩ := h
    refine ⟨_, (pss_cons (ps_set (i := 1) nd rfl (Or.inl rfl) pe_dnewK)
    (pss_cons (ps_set (i := 2) nd rfl (Or.inl rfl) pe_int)
    (pss_cons (ps_for PassesOwn.never rfl (pi_list (pe_fld (pv 0) rfl)) (pg_name (i := 3) nd rfl (Or.inl rfl)) (pss_cons (ps_set (i := 2) nd rfl (Or.inl rfl) (pe_op op_add (pv 2) (pe_call (ok_size T) (hr.mono (by decide)) (by rfl) T.m_size T.F_size.kp T.b_size .nil pass0 (pa_cons (pv 3) pa_nil))))
    (pss_one (ps_if (pt_cmpR op_eq (pe_ix (ix_tupK (K := K) rfl) (pv 3) pe_int (fun _ _ => rfl)) pe_str (nomark _)) (pss_one (ps_dput (hu_of hr) (pv 1) (pv 2) pe_bl rfl)) pss_nil))))
    (pss_one (ps_ret (pe_callB (id := "sorted") (call_sortedDI rfl) (by rfl) T.n_sorted (by decide +kernel) (pa_cons (pv 1) pa_nil))))))), ?_⟩
    have hlen := paired_len htk
    walk_at "rd"
    intro D hD
    have sD := same_new (o := .dK []) hD
    walk_at "rd"
    refine ⟨_, _, _, _, _, rfl, sD _ _ ha, T.cl_Piece, T.na_Piece_tokens, pf_tokens _ _ _, ?_⟩
    refine ⟨l, rfl, ⟨_, SqL.of (sD _ _ hl)⟩, ?_⟩
    refine for_list (K := K) (a := l) (xs := tvs) (fun i σ H2 => KeepB D H H2 ∧ ∃ (n : Int) (acc : List Int) (tok : Option V), σ = [some (.ref a), some (.ref D), some (.int n), tok] ∧ H2 D = some (.dK (keysV acc)) ∧ Asc acc n ∧ flushA (ts.drop i) n acc = flushA ts 0 [] ∧ acc.length ≤ i) ?_ ?_ ?_ ?_
    · exact ⟨KeepB.put, 0, [], none, rfl, upd_same, Asc.nil, rfl, Nat.le_refl _⟩
    · rintro i σ H2 _ ⟨k2, _⟩
      exact (same_keepB hD k2).seq (SqL.of hl)
    · rintro i v σ H2 hv ⟨k2, n, acc, tok, rfl, hD2, hasc, hN, hal⟩
      obtain ⟨t, ht, ⟨⟨q, rfl, hq⟩, hok⟩⟩ := paired_get htk hv
      have hq := sqT_same (same_keepB hD k2) hq
      have hdr : ts.drop i = t :: ts.drop (i + 1) := by
        obtain ⟨h1, h2⟩ := List.getElem?_eq_some_iff.mp ht
        rw [List.drop_eq_getElem_cons h1, h2]
      have hi : i < ts.length := (List.getElem?_eq_some_iff.mp ht).1
      have hs0 := size_nn hok
      rw [hdr] at hN
      walk_at "rd"
      refine ⟨q, _, z, rfl, hq, hok, ?_⟩
      obtain ⟨kd, rest, rfl, hk⟩ := tok_inv hok
      rcases hk with ⟨rfl, rfl⟩ | ⟨y, rfl, rfl, h1, h2, h3⟩ | ⟨y, rfl, rfl, h1⟩ | ⟨d, m, hkd, rfl, h1, h2, h3, h4⟩
      · have e : n + sizeV [V.str (Str.ofString "flush")] = n := Int.add_zero n
        walk_at "rd"
        walk_at "ks"
        walk_at "rd"
        refine ⟨D, _, rfl, DPut.k (k := Sum.inl (n + sizeV [V.str (Str.ofString "flush")])) hD2 (szt (by rw [List.length_map]; omega)), ?_⟩
        refine ⟨k2.trans KeepB.put, n + sizeV [V.str (Str.ofString "flush")], (if n ∈ acc then acc else acc ++ [n]), _, rfl, ?_, ?_, ?_, ?_⟩
        · rw [upd_same, put_keys, e]
        · rw [e]; exact hasc.put
        · rw [e]; exact hN
        · have := put_len (acc := acc) (n := n); omega
      · walk_at "rd"
        walk_at "ks"
        exact ⟨k2, n + sizeV [V.str (Str.ofString "text"), V.str y], acc, _, rfl, hD2, hasc.mono (by omega), hN, by omega⟩
      · walk_at "rd"
        walk_at "ks"
        exact ⟨k2, n + sizeV [V.str (Str.ofString "any"), V.str y], acc, _, rfl, hD2, hasc.mono (by omega), hN, by omega⟩
      · rcases hkd with rfl | rfl
        · walk_at "rd"
          walk_at "ks"
          exact ⟨k2, n + sizeV [V.str (Str.ofString "copy"), V.int d, V.int m], acc, _, rfl, hD2, hasc.mono (by omega), hN, by omega⟩
        · walk_at "rd"
          walk_at "ks"
          exact ⟨k2, n + sizeV [V.str (Str.ofString "say"), V.int d, V.int m], acc, _, rfl, hD2, hasc.mono (by omega), hN, by omega⟩
    · rintro σ H2 ⟨k2, n, acc, tok, rfl, hD2, hasc, hN, hal⟩
      rw [hlen, List.drop_length] at hN
      have hN : acc = flushA ts 0 [] := hN
      walk_at "rd"
      refine ⟨D, keysV acc, acc, rfl, .inl hD2, keys_fst acc, by have hfew := flushA_few htk.ok hsz; rw [← hN] at hfew; omega, fun ys p hpm hps hpn => ?_⟩
      have e := sorted_same hpm hps hasc.1
      rw [e, hN]
      have s2 := same_keepB hD k2
      exact k p _ (s2.trans (same_new hpn)) (s2.free hpn) upd_same
def sp_go_together (K : PySem.W.Frag) : Sp := fun vs H Q _ => ∃ (a b : Addr) (z w : Str) (l p : List V), vs = [.ref a, .ref b] ∧ SqT K H a l ∧ SqT K H b (tokOf p) ∧ tokV z l = true ∧ PlOk w p ∧ Q (.bl (goTog l (tokOf p))) H
theorem ok_go_together (T : Txt K mg) : FnOk P w K mg base CX0 1 T.f_go_together T.d_go_together ["one", "other"] (sp_go_together K) := by
  have nd := sc_go_together.nd
  refine T.F_go_together.ok sc_go_together (fun vs H Q E h => ?_) (fun cdv A outer s H vs Q E hr h => ?_)
  · obtain ⟨a, b, z, w, l, p, rfl, _⟩ := h
    rfl
  · obtain ⟨a, b, z, w, l, p, rfl, ha, hb, hl, hp, k⟩ := h
    refine ⟨_, (pss_cons (ps_if (PW.pt (pw_or (pt_cmpR op_ne (pe_ix (ix_tupK (K := K) rfl) (pv 0) pe_int (fun _ _ => rfl)) (pe_ix (ix_tupK (K := K) rfl) (pv 1) pe_int (fun _ _ => rfl)) (nomark _)) (pw_or1 (pt_cmpR op_eq (pe_ix (ix_tupK (K := K) rfl) (pv 0) pe_int (fun _ _ => rfl)) pe_str (nomark _))))) (pss_one (ps_ret pe_bl)) pss_nil)
    (pss_one (ps_ret (pe_or (pe_cmpR op_eq (pe_ix (ix_tupK (K := K) rfl) (pv 0) pe_int (fun _ _ => rfl)) pe_str (nomark _)) (pe_one (pe_cmpR op_eq (pe_ix (ix_tupK (K := K) rfl) (pv 0) pe_int (fun _ _ => rfl)) (pe_ix (ix_tupK (K := K) rfl) (pv 1) pe_int (fun _ _ => rfl)) (nomark _))))))), ?_⟩
    obtain ⟨kd, rest, rfl, hk⟩ := tok_inv hl
    have hx := k
    clear k
    cases hp with
    | sign hc =>
      rw [tokOf_sign] at hb hx
      rcases hk with ⟨rfl, rfl⟩ | ⟨y, rfl, rfl, h1, h2, h3⟩ | ⟨y, rfl, rfl, h1⟩ | ⟨d, n, hkd, rfl, h1, h2, h3, h4⟩
      · walk_at "rd"
        walk_at "kn"
        walk_at "rd"
        exact hx
      · walk_at "rd"
        walk_at "kn"
        walk_at "rd"
        walk_at "ks"
        walk_at "rd"
        rw [decide_eq_true rfl]
        walk_at "rd"
        exact hx
      · walk_at "rd"
        walk_at "kn"
        walk_at "rd"
        simp only [goTog, decide_eq_false nat_] at hx
        exact hx
      · rcases hkd with rfl | rfl
        · walk_at "rd"
          walk_at "kn"
          walk_at "rd"
          exact hx
        · walk_at "rd"
          walk_at "kn"
          walk_at "rd"
          exact hx
    | hole hc =>
      rw [tokOf_hole] at hb hx
      rcases hk with ⟨rfl, rfl⟩ | ⟨y, rfl, rfl, h1, h2, h3⟩ | ⟨y, rfl, rfl, h1⟩ | ⟨d, n, hkd, rfl, h1, h2, h3, h4⟩
      · walk_at "rd"
        walk_at "kn"
        walk_at "rd"
        exact hx
      · walk_at "rd"
        walk_at "kn"
        walk_at "rd"
        simp only [goTog, decide_eq_false nat_, Bool.and_false] at hx
        exact hx
      · walk_at "rd"
        walk_at "kn"
        walk_at "rd"
        walk_at "ks"
        walk_at "rd"
        simp only [goTog, decide_eq_false nat_, Bool.and_false] at hx
        exact hx
      · rcases hkd with rfl | rfl
        · walk_at "rd"
          walk_at "kn"
          walk_at "rd"
          exact hx
        · walk_at "rd"
          walk_at "kn"
          walk_at "rd"
          exact hx
    | copy e1 e2 =>
      rename_i d'
      rw [tokOf_copy] at hb hx
      rcases hk with ⟨rfl, rfl⟩ | ⟨y, rfl, rfl, h1, h2, h3⟩ | ⟨y, rfl, rfl, h1⟩ | ⟨d, n, hkd, rfl, h1, h2, h3, h4⟩
      · walk_at "rd"
        walk_at "kn"
        walk_at "rd"
        exact hx
      · walk_at "rd"
        walk_at "kn"
        walk_at "rd"
        exact hx
      · walk_at "rd"
        walk_at "kn"
        walk_at "rd"
        exact hx
      · rcases hkd with rfl | rfl
        · walk_at "rd"
          walk_at "kn"
          walk_at "rd"
          walk_at "ks"
          walk_at "rd"
          rw [decide_eq_false (show ¬ V.str (Str.ofString "copy") = V.str (Str.ofString "text") by decide +kernel)]
          walk_at "rd"
          simp only [goTog, decide_eq_true_eq, decide_true, Bool.true_and] at hx
          exact hx
        · walk_at "rd"
          walk_at "kn"
          walk_at "rd"
          simp only [goTog, decide_eq_false (show ¬ Str.ofString "say" = Str.ofString "copy" by decide +kernel), Bool.false_and] at hx
          exact hx
    | say e1 e2 =>
      rename_i d'
      rw [tokOf_say] at hb hx
      rcases hk with ⟨rfl, rfl⟩ | ⟨y, rfl, rfl, h1, h2, h3⟩ | ⟨y, rfl, rfl, h1⟩ | ⟨d, n, hkd, rfl, h1, h2, h3, h4⟩
      · walk_at "rd"
        walk_at "kn"
        walk_at "rd"
        exact hx
      · walk_at "rd"
        walk_at "kn"
        walk_at "rd"
        exact hx
      · walk_at "rd"
        walk_at "kn"
        walk_at "rd"
        exact hx
      · rcases hkd with rfl | rfl
        · walk_at "rd"
          walk_at "kn"
          walk_at "rd"
          simp only [goTog, decide_eq_false (show ¬ Str.ofString "copy" = Str.ofString "say" by decide +kernel), Bool.false_and] at hx
          exact hx
        · walk_at "rd"
          walk_at "kn"
          walk_at "rd"
          walk_at "ks"
          walk_at "rd"
          rw [decide_eq_false (show ¬ V.str (Str.ofString "say") = V.str (Str.ofString "text") by decide +kernel)]
          walk_at "rd"
          simp only [goTog, decide_eq_true_eq, decide_true, Bool.true_and] at hx
          exact hx
def sp_joined (K : PySem.W.Frag) : Sp := fun vs H Q _ => ∃ (a b : Addr) (z w : Str) (l p : List V), vs = [.ref a, .ref b] ∧ SqT K H a l ∧ SqT K H b (tokOf p) ∧ tokV z l = true ∧ PlOk w p ∧ goTog l (tokOf p) = true ∧ ∀ q, H q = none → Q (.ref q) (upd H q (.tup (joinT l (tokOf p))))
theorem ok_joined (T : Txt K mg) : FnOk P w K mg base CX0 1 T.f_joined T.d_joined ["one", "other"] (sp_joined K) := by
  have nd := sc_joined.nd
  refine T.F_joined.ok sc_joined (fun vs H Q E h => ?_) (fun cdv A outer s H vs Q E hr h => ?_)
  · obtain ⟨a, b, z, w, l, p, rfl, _⟩ := h
    rfl
  · obtain ⟨a, b, z, w, l, p, rfl, ha, hb, hl, hp, hg, k⟩ := h
    refine ⟨_, (pss_cons (ps_if (pt_cmpR op_eq (pe_ix (ix_tupK (K := K) rfl) (pv 0) pe_int (fun _ _ => rfl)) pe_str (nomark _)) (pss_one (ps_ret (pe_tup (pa_cons pe_str (pa_cons (pe_op op_add_str (pe_ix (ix_tupK (K := K) rfl) (pv 0) pe_int (fun _ _ => rfl)) (pe_ix (ix_tupK (K := K) rfl) (pv 1) pe_int (fun _ _ => rfl))) pa_nil))))) pss_nil)
    (pss_cons (ps_asg (pv 0) (pg_tup rfl (pgs_cons (pg_name (i := 2) nd rfl (Or.inl rfl)) (pgs_cons (pg_name (i := 3) nd rfl (Or.inl rfl)) (pgs_cons (pg_name (i := 4) nd rfl (Or.inl rfl)) pgs_nil)))))
    (pss_one (ps_ret (pe_tup (pa_cons (pv 2) (pa_cons (pv 3) (pa_cons (pe_op op_add (pv 4) (pe_ix (ix_tupK (K := K) rfl) (pv 1) pe_int (fun _ _ => rfl))) pa_nil)))))))), ?_⟩
    obtain ⟨kd, rest, rfl, hk⟩ := tok_inv hl
    cases hp with
    | sign hc =>
      rw [tokOf_sign] at hb hg k
      rcases hk with ⟨rfl, rfl⟩ | ⟨y, rfl, rfl, h1, h2, h3⟩ | ⟨y, rfl, rfl, h1⟩ | ⟨d, n, hkd, rfl, h1, h2, h3, h4⟩
      · exact absurd hg (by simp [goTog])
      · walk_at "rd"
        walk_at "ks"
        walk_at "rd"
        exact k
      · exact absurd hg (by simp only [goTog, decide_eq_false nat_]; simp)
      · exact absurd hg (by simp [goTog])
    | hole hc =>
      rw [tokOf_hole] at hg
      rcases hk with ⟨rfl, rfl⟩ | ⟨y, rfl, rfl, h1, h2, h3⟩ | ⟨y, rfl, rfl, h1⟩ | ⟨d, n, hkd, rfl, h1, h2, h3, h4⟩
      · exact absurd hg (by simp [goTog])
      · exact absurd hg (by simp only [goTog, decide_eq_false nat_]; simp)
      · exact absurd hg (by simp only [goTog, decide_eq_false nat_]; simp)
      · exact absurd hg (by simp [goTog])
    | copy e1 e2 =>
      rw [tokOf_copy] at hb hg k
      rcases hk with ⟨rfl, rfl⟩ | ⟨y, rfl, rfl, h1, h2, h3⟩ | ⟨y, rfl, rfl, h1⟩ | ⟨d, n, hkd, rfl, h1, h2, h3, h4⟩
      · exact absurd hg (by simp [goTog])
      · exact absurd hg (by simp [goTog])
      · exact absurd hg (by simp [goTog])
      · have nt : ¬ kd = "text" := by rcases hkd with rfl | rfl <;> decide +kernel
        walk_at "rd"
        refine iteStN nt ?_
        walk_at "rd"
        exact k
    | say e1 e2 =>
      rw [tokOf_say] at hb hg k
      rcases hk with ⟨rfl, rfl⟩ | ⟨y, rfl, rfl, h1, h2, h3⟩ | ⟨y, rfl, rfl, h1⟩ | ⟨d, n, hkd, rfl, h1, h2, h3, h4⟩
      · exact absurd hg (by simp [goTog])
      · exact absurd hg (by simp [goTog])
      · exact absurd hg (by simp [goTog])
      · have nt : ¬ kd = "text" := by rcases hkd with rfl | rfl <;> decide +kernel
        walk_at "rd"
        refine iteStN nt ?_
        walk_at "rd"
        exact k
def sp_token_of (K : PySem.W.Frag) : Sp := fun vs H Q _ => ∃ (a : Addr) (z : Str) (p : List V), vs = [.ref a] ∧ SqT K H a p ∧ PlOk z p ∧ ∀ q, H q = none → Q (.ref q) (upd H q (.tup (tokOf p)))
theorem ok_token_of (T : Txt K mg) : FnOk P w K mg base CX0 1 T.f_token_of T.d_token_of ["place"] (sp_token_of K) := by
  have nd := sc_token_of.nd
  refine T.F_token_of.ok sc_token_of (fun vs H Q E h => ?_) (fun cdv A outer s H vs Q E hr h => ?_)
  · obtain ⟨a, z, p, rfl, _⟩ := h
    rfl
  · obtain ⟨a, z, p, rfl, ha, hp, k⟩ := h
    refine ⟨_, (pss_cons (ps_asg (pv 0) (pg_tup rfl (pgs_cons (pg_name (i := 1) nd rfl (Or.inl rfl)) (pgs_cons (pg_name (i := 2) nd rfl (Or.inl rfl)) pgs_nil))))
    (pss_cons (ps_if (pt_cmpR op_eq (pv 1) pe_str (nomark _)) (pss_one (ps_ret (pe_tup (pa_cons pe_str (pa_cons (pv 2) pa_nil))))) pss_nil)
    (pss_cons (ps_if (pt_cmpR op_eq (pv 1) pe_str (nomark _)) (pss_one (ps_ret (pe_tup (pa_cons pe_str (pa_cons (pv 2) pa_nil))))) pss_nil)
    (pss_one (ps_ret (pe_tup (pa_cons (pv 1) (pa_cons (pv 2) (pa_cons pe_int pa_nil))))))))), ?_⟩
    cases hp with
    | sign hc =>
      walk_at "rd"
      walk_at "ks"
      walk_at "rd"
      intro q hq
      have h := k q hq
      rw [tokOf_sign] at h
      exact h
    | hole hc =>
      walk_at "rd"
      walk_at "ks"
      walk_at "rd"
      walk_at "ks"
      walk_at "rd"
      intro q hq
      have h := k q hq
      rw [tokOf_hole] at h
      exact h
    | copy h1 h2 =>
      walk_at "rd"
      walk_at "ks"
      walk_at "rd"
      walk_at "ks"
      walk_at "rd"
      intro q hq
      have h := k q hq
      rw [tokOf_copy] at h
      exact h
    | say h1 h2 =>
      walk_at "rd"
      walk_at "ks"
      walk_at "rd"
      walk_at "ks"
      walk_at "rd"
      intro q hq
      have h := k q hq
      rw [tokOf_say] at h
      exact h
def sp_merged_tokens (K : PySem.W.Frag) : Sp := fun vs H Q _ => ∃ (a b : Addr) (z : Str) (pvs : List V) (ps : List (List V)) (fs : List Int), vs = [.ref a, .ref b] ∧ H a = some (.lst pvs) ∧ Plcs K H pvs ps ∧ (∀ p ∈ ps, PlOk z p) ∧ ps.length ≤ 40 ∧ SqL K H b (fs.map V.int) ∧ fs.length ≤ 1000 ∧
  ∀ (l : Addr) (tvs : List V) (H' : Hp), Same H H' → H l = none → H' l = some (.lst tvs) → Toks K H' z tvs (mergeL (fun n => decide (n ∈ fs)) ps) → Q (.ref l) H'
theorem ok_merged_tokens (T : Txt K mg) : FnOk P w K mg base CX0 2 T.f_merged_tokens T.d_merged_tokens ["places", "flushes"] (sp_merged_tokens K) := by
  have nd := sc_merged_tokens.nd
  refine T.F_merged_tokens.ok sc_merged_tokens (fun vs H Q E h => ?_) (fun cdv A outer s H vs Q E hr h => ?_)
  · obtain ⟨a, b, z, pvs, ps, fs, rfl, _⟩ := h
    rfl
  · obtain ⟨a, b, z, pvs, ps, fs, rfl, ha, hps, hpo, hpl, hb, hfl, k⟩ := h
    refine ⟨_, (pss_cons (ps_setDc (i := 2) (own := [("number", 7)]) (g := gName 7) (by rfl) nd rfl rfl (sw_trueD rfl rfl rfl (by decide +kernel)) (pi_list (pv 1)) (blkOk_by (own := [("number", 7)]) (N := N_merged_tokens) (sc := defScope s_merged_tokens) (by decide +kernel)) (fun _ _ _ _ _ => (pg_name (i := 7) nd rfl (Or.inl rfl))) (fun _ _ _ _ _ => pts_nil) (fun _ _ _ _ _ => (pv 7)) (fun _ _ _ _ _ => pe_bl))
    (pss_cons (ps_set (i := 3) nd rfl (Or.inl rfl) (pe_lst pa_nil))
    (pss_cons (ps_for PassesOwn.never rfl (pi_enum (by rfl) T.n_enumerate (pa_cons (pv 0) pa_nil)) (pg_tup rfl (pgs_cons (pg_name (i := 4) nd rfl (Or.inl rfl)) (pgs_cons (pg_name (i := 5) nd rfl (Or.inl rfl)) pgs_nil))) (C8.pss_cut (ps_if (pt_cmp (pc_din (hu_of hr) (pv 4) (pv 2)) (by rfl)) (pss_one (ps_expr (pe_bm PySem.F.plainAttrs_list PySem.F.slot_list_append PySem.F.type_list_append mt_append (pv 3) (pa_cons (pe_tup (pa_cons pe_str pa_nil)) pa_nil)))) pss_nil)
    (pss_cons (ps_set (i := 6) nd rfl (Or.inl rfl) (pe_call (ok_token_of T) (hr.mono (by decide)) (by rfl) T.m_token_of T.F_token_of.kp T.b_token_of .nil pass0 (pa_cons (pv 5) pa_nil)))
    (pss_one (ps_if (PW.pt (pw_and (pt_cmpR op_gt (pe_callB (id := "len") (call_lenK (K := K) rfl) (by rfl) T.n_len (by decide +kernel) (pa_cons (pv 3) pa_nil)) pe_int (nomark _)) (pw_and1 (pt_val (pe_call (ok_go_together T) (hr.mono (by decide)) (by rfl) T.m_go_together T.F_go_together.kp T.b_go_together .nil pass0 (pa_cons (pe_ix (ix_listK (K := K) rfl) (pv 3) (pe_un un_neg pe_int) (fun _ _ => rfl)) (pa_cons (pv 6) pa_nil))))))) (pss_one (ps_asg (pe_call (ok_joined T) (hr.mono (by decide)) (by rfl) T.m_joined T.F_joined.kp T.b_joined .nil pass0 (pa_cons (pe_ix (ix_listK (K := K) rfl) (pv 3) (pe_un un_neg pe_int) (fun _ _ => rfl)) (pa_cons (pv 6) pa_nil))) (pg_sub (pv 3) (pe_un un_neg pe_int) set_list))) (pss_one (ps_expr (pe_bm PySem.F.plainAttrs_list PySem.F.slot_list_append PySem.F.type_list_append mt_append (pv 3) (pa_cons (pv 6) pa_nil)))))))))
    (pss_cons (ps_if (pt_cmp (pc_din (hu_of hr) (pe_callB (id := "len") (call_lenK (K := K) rfl) (by rfl) T.n_len (by decide +kernel) (pa_cons (pv 0) pa_nil)) (pv 2)) (by rfl)) (pss_one (ps_expr (pe_bm PySem.F.plainAttrs_list PySem.F.slot_list_append PySem.F.type_list_append mt_append (pv 3) (pa_cons (pe_tup (pa_cons pe_str pa_nil)) pa_nil)))) pss_nil)
    (pss_one (ps_ret (pv 3))))))), ?_⟩
    have hlen := paired_len hps
    walk_at "rd"
    refine ⟨⟨_, hb⟩, ?_⟩
    intro D hD
    refine dc_it (walk_list (K := K) (a := b) (xs := fs.map V.int)) (fun i H2 => KeepB D H H2 ∧ ∃ acc : List Int, H2 D = some (.dK (keysV acc)) ∧ (∀ m, m ∈ acc ↔ m ∈ fs.take i) ∧ acc.length ≤ i) ?_ ?_ ?_ ?_
    · exact ⟨KeepB.put, [], upd_same, fun m => by simp, Nat.le_refl _⟩
    · rintro i H2 _ ⟨k2, _⟩
      exact SqL.same' (same_keepB hD k2) hb
    · rintro i x H2 H3 hi ⟨k2, acc, hD2, hm, hal⟩ ⟨rfl, hx⟩
      rw [List.length_map] at hi
      obtain ⟨n, hn, rfl⟩ : ∃ n, fs[i]? = some n ∧ x = .int n := by
        rw [List.getElem?_map] at hx
        cases e : fs[i]? with
        | none => rw [e] at hx; cases hx
        | some n => rw [e] at hx; exact ⟨n, rfl, (Option.some.inj hx).symm⟩
      walk_at "rd"
      refine ⟨keysV acc, Sum.inl n, rfl, hD2, szt (by rw [List.length_map]; omega), k2.trans KeepB.put, if n ∈ acc then acc else acc ++ [n], by rw [upd_same, put_keys], fun m => ?_, by have := put_len (acc := acc) (n := n); omega⟩
      rw [take_succ' hn, List.mem_append, List.mem_singleton, ← hm]
      by_cases e : n ∈ acc
      · rw [if_pos e]
        exact ⟨.inl, fun h => h.elim id fun h => h ▸ e⟩
      · rw [if_neg e, List.mem_append, List.mem_singleton]
    · rintro HC ⟨kC, acc, hDC, hm, hal⟩
      rw [List.length_map, List.take_length] at hm
      have hf : ∀ n : Int, (valV (keysV acc) (Sum.inl n : Key)).isSome = decide (n ∈ fs) := fun n => by
        rw [has_keys]
        exact decide_eq_decide.mpr (hm n)
      have sC := same_keepB hD kC
      clear hm hal kC
      walk_at "rd"
      intro L hL
      have hDL : D ≠ L := none_ne hL hDC
      walk_at "rd"
      refine ⟨a, pvs, rfl, SqL.of (upd_new hL (sC _ _ ha)), ?_⟩
      refine for_it (walk_enum (K := K) (a := a) (xs := pvs)) (fun i σ H2 => KeepB L HC H2 ∧ ∃ (tvs : List V) (ts : List (List V)) (fl : List Int) (x4 x5 x6 : Option V), σ = [some (.ref a), some (.ref b), some (.ref D), some (.ref L), x4, x5, x6, none] ∧ H2 L = some (.lst tvs) ∧ Toks K H2 z tvs ts ∧ Grown z (ps.take i) fl ts ∧ (∀ m ∈ fl, m < (i : Int)) ∧ tvs.length ≤ 2 * i ∧ mergeL (fun n => decide (n ∈ fs)) ps = mergeA (fun n => decide (n ∈ fs)) (ps.drop i) i ts) ?_ ?_ ?_ ?_
      · exact ⟨KeepB.put, [], [], [], none, none, none, rfl, upd_same, .nil, ⟨(fun t h => nomatch h), rfl, rfl⟩, (fun m h => nomatch h), Nat.le_refl _, rfl⟩
      · rintro i σ H2 _ ⟨k2, _⟩
        exact SqL.of ((same_keepB hL k2) _ _ (sC _ _ ha))
      · rintro i x σ H2 H3 hi ⟨k2, tvs, ts, fl, x4, x5, x6, rfl, hL2, htk, hg, hfl2, htl, hM⟩ ⟨T, x', y, rfl, hT, rfl, hx', hy⟩
        cases hx'
        obtain ⟨p, hp, ⟨q, rfl, hq⟩⟩ := paired_get hps hy
        have hi' : i < ps.length := by omega
        have hq2 := sqT_same (sC.trans (same_keepB hL k2)) hq
        have hD2 := k2 _ _ hDL hDC
        have po := hpo p (List.mem_of_getElem? hp)
        have sT := same_new (o := .tup [.int (i : Nat), .ref q]) hT
        have nTL := none_ne hT hL2
        have kT : KeepB L HC (upd H2 T (.tup [.int (i : Nat), .ref q])) := k2.trans (KeepB.of_same sT)
        have hgl := hg.size
        walk_at "rd"
        refine ⟨fun σ' H' => ∃ (tvs' : List V) (ts' : List (List V)) (fl' : List Int), σ' = [some (.ref a), some (.ref b), some (.ref D), some (.ref L), some (.int (i : Nat)), some (.ref q), x6, none] ∧ KeepB L HC H' ∧ H' L = some (.lst tvs') ∧ Toks K H' z tvs' ts' ∧ Grown z (ps.take i) fl' ts' ∧ (∀ m ∈ fl', m < (i : Int) + 1) ∧ tvs'.length ≤ 2 * i + 1 ∧ ts' = (if decide ((i : Int) ∈ fs) = true then ts ++ [flT] else ts), ?_, ?_⟩
        · walk_at "rd"
          refine ⟨D, _, rfl, DGet.k (k := Sum.inl (i : Int)) (kT _ _ hDL hDC), ?_⟩
          walk_at "rd"
          refine iteK (fun h => ?_) (fun h => ?_)
          · rw [hf] at h
            walk_at "rd"
            intro F hF
            walk_at "rd"
            refine ⟨L, tvs, .ref F, rfl, rfl, by walk_at "kp0", szt (by omega), ?_⟩
            have sF := same_new (o := .tup [.str "flush"]) hF
            have g1 := hg.flush
            refine ⟨_, _, _, rfl, (kT.trans (KeepB.of_same sF)).trans KeepB.put, upd_same, Toks.put (by walk_at "kp0") (paired_app (htk.same (sT.trans sF)) (paired_one ⟨TupAt.new, tok_flush⟩)), g1, fun m hm => ?_, by simp; omega, by rw [if_pos h]⟩
            have hl : ((ps.take i).length : Int) = i := by rw [List.length_take]; omega
            rw [hl] at hm
            split at hm
            · have := hfl2 m hm; omega
            · rcases List.mem_append.mp hm with hm | hm
              · have := hfl2 m hm; omega
              · rw [List.mem_singleton.mp hm]; omega
          · rw [hf] at h
            walk_at "rd"
            exact ⟨_, _, _, rfl, kT, upd_new hT hL2, htk.same sT, hg, fun m hm => by have := hfl2 m hm; omega, by omega, by rw [if_neg (by rw [h]; exact Bool.false_ne_true)]⟩
        · rintro _ H4 ⟨tvs', ts', fl', rfl, k4, hL4, htk4, hg4, hfl4, htl4, hts'⟩
          walk_at "rd"
          refine ⟨q, z, p, rfl, sqT_same (sC.trans (same_keepB hL k4)) hq, po, fun r hr' => ?_⟩
          have sR := same_new (o := .tup (tokOf p)) hr'
          have hL5 := sR _ _ hL4
          have htk5 := htk4.same sR
          have k5 := k4.trans (KeepB.of_same sR)
          have hgA := hg4.add po (by rw [List.length_take]; omega)
          have hMn : mergeL (fun n => decide (n ∈ fs)) ps = mergeA (fun n => decide (n ∈ fs)) (ps.drop (i + 1)) ((i : Nat) + 1 : Nat) (addTok ts' (tokOf p)) := by
            rw [hM, drop_get hp]
            show mergeA _ _ ((i : Int) + 1) (addTok (if decide ((i : Int) ∈ fs) = true then ts ++ [flT] else ts) (tokOf p)) = _
            rw [← hts']
            rfl
          have hTN : ps.take i ++ [p] = ps.take (i + 1) := (take_succ' hp).symm
          rw [hTN] at hgA
          have hfN : ∀ m ∈ fl', m < ((i + 1 : Nat) : Int) := fun m hm => by have := hfl4 m hm; omega
          have tR : TokAt K (upd H4 r (.tup (tokOf p))) z (.ref r) (tokOf p) := ⟨TupAt.new, (tok_one po).1⟩
          walk_at "rd"
          by_cases he : tvs' = []
          · subst he
            have : ts' = [] := by cases htk4; rfl
            subst this
            refine iteDN (by decide) ?_
            walk_at "rd"
            refine ⟨L, [], .ref r, rfl, rfl, hL5, szt (by decide), ?_⟩
            exact ⟨k5.trans KeepB.put, _, _, fl', _, _, _, rfl, upd_same, Toks.put hL5 (paired_one tR), hgA, hfN, by simp; omega, hMn⟩
          · obtain ⟨us, v, rfl⟩ := snoc_of he
            obtain ⟨ts0, l, rfl, htu, htv⟩ := paired_snoc htk5
            obtain ⟨⟨lv, rfl, hlv⟩, hlo⟩ := htv
            rw [addTok_snoc] at hgA hMn
            rw [List.length_append, List.length_singleton] at htl4
            refine iteDY (by simp <;> omega) ?_
            walk_at "rd"
            refine ⟨_, _, _, _, rfl, rfl, SqL.of hL5, at_last, ?_⟩
            walk_at "rd"
            refine ⟨lv, r, z, z, l, p, rfl, hlv, SqT.of upd_same, hlo, po, ?_⟩
            walk_at "rd"
            refine iteK (fun g => ?_) (fun g => ?_)
            · rw [if_pos g] at hgA hMn
              walk_at "rd"
              refine ⟨_, _, _, _, rfl, rfl, SqL.of hL5, at_last, ?_⟩
              walk_at "rd"
              refine ⟨lv, r, z, z, l, p, rfl, hlv, SqT.of upd_same, hlo, po, g, fun r2 hr2 => ?_⟩
              have sR2 := same_new (o := .tup (joinT l (tokOf p))) hr2
              have hL6 := sR2 _ _ hL5
              walk_at "rd"
              refine ⟨L, _, -1, _, rfl, rfl, hL6, ix_last, ?_⟩
              rw [set_last]
              have okj := hgA.ok (joinT l (tokOf p)) (by simp)
              exact ⟨(k5.trans (KeepB.of_same sR2)).trans KeepB.put, _, _, fl', _, _, _, rfl, upd_same, Toks.put hL6 (paired_app (Toks.same sR2 htu) (paired_one ⟨TupAt.new, okj⟩)), hgA, hfN, by simp; omega, hMn⟩
            · rw [if_neg (by rw [g]; exact Bool.false_ne_true)] at hgA hMn
              walk_at "rd"
              refine ⟨L, _, .ref r, rfl, rfl, hL5, szt (by simp; omega), ?_⟩
              exact ⟨k5.trans KeepB.put, _, _, fl', _, _, _, rfl, upd_same, Toks.put hL5 (paired_app htk5 (paired_one tR)), hgA, hfN, by simp; omega, hMn⟩
      · rintro σ H2 ⟨k2, tvs, ts, fl, x4, x5, x6, rfl, hL2, htk, hg, hfl2, htl, hM⟩
        have s2 := same_keepB hL k2
        have hA2 := s2 _ _ (sC _ _ ha)
        have hD2 := s2 _ _ hDC
        rw [hlen, List.drop_length, ← hlen] at hM
        have hM : mergeL (fun n => decide (n ∈ fs)) ps = if decide ((pvs.length : Int) ∈ fs) = true then ts ++ [flT] else ts := hM
        walk_at "rd"
        refine ⟨D, _, rfl, DGet.k (k := Sum.inl (pvs.length : Int)) hD2, ?_⟩
        walk_at "rd"
        refine iteK (fun h => ?_) (fun h => ?_)
        · rw [hf] at h
          rw [if_pos h] at hM
          walk_at "rd"
          intro F hF
          walk_at "rd"
          have sF := same_new (o := .tup [.str "flush"]) hF
          refine ⟨L, tvs, .ref F, rfl, rfl, by walk_at "kp0", szt (by omega), ?_⟩
          walk_at "rd"
          refine k L _ _ (sC.trans (same_keepB hL ((k2.trans (KeepB.of_same sF)).trans KeepB.put))) (sC.free hL) upd_same ?_
          rw [hM]
          exact Toks.put (by walk_at "kp0") (paired_app (htk.same sF) (paired_one ⟨TupAt.new, tok_flush⟩))
        · rw [hf] at h
          rw [if_neg (by rw [h]; exact Bool.false_ne_true)] at hM
          walk_at "rd"
          exact k L _ _ (sC.trans s2) (sC.free hL) hL2 (by rw [hM]; exact htk)
def sp_Piece_part (K : PySem.W.Frag) (C : Addr) : Sp := fun vs H Q _ => ∃ (a : Addr) (z : Str) (ts : List (List V)) (b e : Int), vs = [.ref a, .int b, .int e] ∧ PieceAt K C H a z ts ∧ SignsOk z ∧ ts.length ≤ 200 ∧ tsize ts ≤ 40 ∧ 0 ≤ b ∧ b < e ∧ e ≤ tsize ts ∧
  ∀ (a' : Addr) (H' : Hp), Same H H' → H a' = none → PieceAt K C H' a' z (partT ts b e) → NewIn C H H' a' → Q (.ref a') H'
theorem ok_Piece_part (T : Txt K mg) : FnOk P w K mg base CX0 8 T.f_Piece_part T.d_Piece_part ["self", "begin", "end"] (sp_Piece_part K T.c_Piece) := by
  have nd := sc_Piece_part.nd
  refine T.F_Piece_part.ok sc_Piece_part (fun vs H Q E h => ?_) (fun cdv A outer s H vs Q E hr h => ?_)
  · obtain ⟨a, z, ts, b, e, rfl, _⟩ := h
    rfl
  · obtain ⟨a, z, ts, b, e, rfl, pa, hz, hn, hs1, hb0, hbe, hee, k⟩ := h
    refine ⟨_, (pss_cons (ps_set (i := 3) nd rfl (Or.inr rfl) (pe_callB (id := "len") (call_lenK (K := K) rfl) (by rfl) T.n_len (by decide +kernel) (pa_cons (pe_fld (pv 0) rfl) pa_nil)))
    (pss_cons (ps_setLc (i := 4) (own := [("number", 6)]) (g := gName 6) (by rfl) nd rfl rfl (sw_true rfl rfl rfl (by decide +kernel)) (pi_list (pe_meth0 (pv 0) T.cl_Piece T.mt_Piece_flushes (ok_Piece_flushes T) (hr.mono (by decide)) T.b_Piece_flushes .nil pass0)) (blkOk_by (own := [("number", 6)]) (N := N_Piece_part) (sc := defScope s_Piece_part) (by decide +kernel)) (fun _ _ _ _ _ => (pg_name (i := 6) nd rfl (Or.inl rfl))) (fun _ _ _ _ _ => pts_one (pt_cmpR op_le (pv 1) (pv 6) (nomark _))) (fun _ _ _ _ _ => (pv 6)))
    (pss_cons (ps_setLc (i := 5) (own := [("number", 6)]) (g := gName 6) (by rfl) nd rfl rfl (sw_true rfl rfl rfl (by decide +kernel)) (pi_list (pv 4)) (blkOk_by (own := [("number", 6)]) (N := N_Piece_part) (sc := defScope s_Piece_part) (by decide +kernel)) (fun _ _ _ _ _ => (pg_name (i := 6) nd rfl (Or.inl rfl))) (fun _ _ _ _ _ => pts_one (PW.pt (pw_or (pt_cmpR op_lt (pv 6) (pv 2) (nomark _)) (pw_or1 (pt_chain op_eq op_eq (pv 6) (pv 2) (pv 3)))))) (fun _ _ _ _ _ => (pe_op op_sub (pv 6) (pv 1))))
    (pss_one (ps_ret (pe_make T.mk_Piece (ok_Piece_init T) (hr.mono (by decide)) (by rfl) T.m_Piece T.b_Piece_init .nil pass0 (pa_cons (pe_fld (pv 0) rfl) (pa_cons (pe_call (ok_merged_tokens T) (hr.mono (by decide)) (by rfl) T.m_merged_tokens T.F_merged_tokens.kp T.b_merged_tokens .nil pass0 (pa_cons (pe_slice sl_list (pe_fld (pv 0) rfl) (po_some (pv 1)) (po_some (pv 2))) (pa_cons (pv 5) pa_nil))) pa_nil)))))))), ?_⟩
    have pat := pa
    obtain ⟨dx, l, p, tvs, pvs, ha, hl, htk, hp, hpl⟩ := pa
    have hpn := places_len htk.ok
    have hlen := paired_len hpl
    have hfew := flushA_few htk.ok (by omega : tsize ts ≤ 60)
    have hall := plOk_of htk.ok
    walk_at "rd"
    refine ⟨_, _, _, _, _, rfl, ha, T.cl_Piece, T.na_Piece_places, pf_places _ _ _, ?_⟩
    walk_at "rd"
    refine ⟨a, _, _, rfl, ha, pf_no _ _ _ (by decide +kernel) (by decide +kernel) (by decide +kernel), ?_⟩
    refine ⟨a, z, ts, rfl, pat, by omega, hn, fun lf H1 s1 nf ef => ?_⟩
    walk_at "rd"
    refine ⟨⟨_, SqL.of ef⟩, ?_⟩
    intro D hD
    refine lc_list (K := K) (a := lf) (xs := (flushA ts 0 []).map V.int) (fun i H2 => KeepB D H1 H2 ∧ H2 D = some (.lst ((((flushA ts 0 []).take i).filter (fun n => decide (b ≤ n))).map fun m => V.int (id m)))) ?_ (fun i H2 _ ka => SqL.of ((same_keepB hD ka.1) _ _ ef)) ?_ ?_
    · exact ⟨KeepB.put, upd_same⟩
    · rintro i v H2 hv ⟨k2, hD2⟩
      rw [List.getElem?_map] at hv
      cases e1 : (flushA ts 0 [])[i]? with
      | none => rw [e1] at hv; cases hv
      | some n =>
        rw [e1] at hv
        cases hv
        have hst := filt_step (q := fun n => decide (b ≤ n)) (f := id) e1
        walk_at "rd"
        have hal : ((((flushA ts 0 []).take i).filter (fun n => decide (b ≤ n))).map fun m => V.int (id m)).length ≤ 61 := by
          rw [List.length_map]
          have h1 := List.length_filter_le (fun n => decide (b ≤ n)) ((flushA ts 0 []).take i)
          rw [List.length_take] at h1
          omega
        refine iteD (fun hb => ?_) (fun hb => ?_)
        · rw [if_pos (decide_eq_true hb)] at hst
          walk_at "rd"
          exact ⟨_, hD2, szt (by omega), k2.trans KeepB.put, by rw [upd_same, hst]; rfl⟩
        · rw [if_neg (by rw [decide_eq_false hb]; exact Bool.false_ne_true), List.append_nil] at hst
          walk_at "rd"
          rw [hD2, hst]
    · rw [List.length_map]
      rintro H2 ⟨k2, hD2⟩
      rw [List.take_length] at hD2
      have hD2 : H2 D = some (.lst (((flushA ts 0 []).filter (fun n => decide (b ≤ n))).map V.int)) := hD2
      have s2 := same_keepB hD k2
      have hnl : ((flushA ts 0 []).filter (fun n => decide (b ≤ n))).length ≤ 61 := by
        have h1 := List.length_filter_le (fun n => decide (b ≤ n)) (flushA ts 0 [])
        omega
      generalize hns : (flushA ts 0 []).filter (fun n => decide (b ≤ n)) = ns at hD2 hnl
      walk_at "rd"
      refine ⟨⟨_, SqL.of hD2⟩, ?_⟩
      intro D2 hDn
      refine lc_list (K := K) (a := D) (xs := ns.map V.int) (fun i H3 => KeepB D2 H2 H3 ∧ H3 D2 = some (.lst (((ns.take i).filter (fun n => decide (n < e ∨ (n = e ∧ e = (pvs.length : Int))))).map fun m => V.int (m - b)))) ?_ (fun i H3 _ ka => SqL.of ((same_keepB hDn ka.1) _ _ hD2)) ?_ ?_
      · exact ⟨KeepB.put, upd_same⟩
      · rintro i v H3 hv ⟨k3, hD3⟩
        rw [List.getElem?_map] at hv
        cases e1 : ns[i]? with
        | none => rw [e1] at hv; cases hv
        | some n =>
          rw [e1] at hv
          cases hv
          have hst := filt_step (q := fun n => decide (n < e ∨ (n = e ∧ e = (pvs.length : Int)))) (f := fun m => m - b) e1
          have hal : (((ns.take i).filter (fun n => decide (n < e ∨ (n = e ∧ e = (pvs.length : Int))))).map fun m => V.int (m - b)).length ≤ 61 := by
            rw [List.length_map]
            have h1 := List.length_filter_le (fun n => decide (n < e ∨ (n = e ∧ e = (pvs.length : Int)))) (ns.take i)
            rw [List.length_take] at h1
            omega
          have yes : (n < e ∨ (n = e ∧ e = (pvs.length : Int))) → ∃ acc, H3 D2 = some (.lst acc) ∧ acc.length < sizeLine ∧ KeepB D2 H2 (upd H3 D2 (.lst (acc ++ [V.int (n - b)]))) ∧ (upd H3 D2 (.lst (acc ++ [V.int (n - b)]))) D2 = some (.lst (((ns.take (i + 1)).filter (fun n => decide (n < e ∨ (n = e ∧ e = (pvs.length : Int))))).map fun m => V.int (m - b))) := fun hq => by
            rw [if_pos (decide_eq_true hq)] at hst
            exact ⟨_, hD3, szt (by omega), k3.trans KeepB.put, by rw [upd_same, hst]⟩
          have no : ¬ (n < e ∨ (n = e ∧ e = (pvs.length : Int))) → KeepB D2 H2 H3 ∧ H3 D2 = some (.lst (((ns.take (i + 1)).filter (fun n => decide (n < e ∨ (n = e ∧ e = (pvs.length : Int))))).map fun m => V.int (m - b))) := fun hq => by
            rw [if_neg (by rw [decide_eq_false hq]; exact Bool.false_ne_true), List.append_nil] at hst
            exact ⟨k3, by rw [hD3, hst]⟩
          walk_at "rd"
          refine iteD (fun hlt => ?_) (fun hlt => ?_)
          · walk_at "rd"
            exact yes (.inl hlt)
          · walk_at "rd"
            refine iteI (fun hne => ?_) (fun hne => ?_)
            · walk_at "rd"
              by_cases hew : e = (pvs.length : Int)
              · rw [yI hew]
                walk_at "rd"
                exact yes (.inr ⟨hne, hew⟩)
              · rw [nI hew]
                walk_at "rd"
                exact (no (fun h => h.elim hlt fun h => hew h.2)).2
            · walk_at "rd"
              exact (no (fun h => h.elim hlt fun h => hne h.1)).2
      · rw [List.length_map]
        rintro H3 ⟨k3, hD3⟩
        rw [List.take_length] at hD3
        have hD3 : H3 D2 = some (.lst (((ns.filter (fun n => decide (n < e ∨ (n = e ∧ e = (pvs.length : Int))))).map (· - b)).map V.int)) := by
          rw [hD3, List.map_map]
          rfl
        have s3 := same_keepB hDn k3
        have s13 := (s1.trans s2).trans s3
        have hkl : ((ns.filter (fun n => decide (n < e ∨ (n = e ∧ e = (pvs.length : Int))))).map (· - b)).length ≤ 61 := by
          rw [List.length_map]
          have h1 := List.length_filter_le (fun n => decide (n < e ∨ (n = e ∧ e = (pvs.length : Int)))) ns
          omega
        have hmem : ∀ m, m ∈ (ns.filter (fun n => decide (n < e ∨ (n = e ∧ e = (pvs.length : Int))))).map (· - b) ↔ (m + b ∈ flushA ts 0 [] ∧ 0 ≤ m ∧ (m + b < e ∨ (m + b = e ∧ e = ((placesL ts).length : Int)))) := fun m => by
          rw [← hns, List.mem_map]
          constructor
          · rintro ⟨n, hn, rfl⟩
            rw [List.mem_filter, List.mem_filter, decide_eq_true_eq, decide_eq_true_eq] at hn
            rw [← hlen]
            have e2 : n - b + b = n := by omega
            rw [e2]
            exact ⟨hn.1.1, by omega, hn.2⟩
          · rintro ⟨h1, h2, h3⟩
            refine ⟨m + b, ?_, by omega⟩
            rw [List.mem_filter, List.mem_filter, decide_eq_true_eq, decide_eq_true_eq, hlen]
            exact ⟨⟨h1, by omega⟩, h3⟩
        generalize hks : (ns.filter (fun n => decide (n < e ∨ (n = e ∧ e = (pvs.length : Int))))).map (· - b) = ks at hD3 hkl hmem
        walk_at "rd"
        refine ⟨_, _, _, _, _, rfl, s13 _ _ ha, T.cl_Piece, T.na_Piece_signs, pf_signs _ _ _, ?_⟩
        walk_at "rd"
        refine ⟨_, _, _, _, _, rfl, s13 _ _ ha, T.cl_Piece, T.na_Piece_places, pf_places _ _ _, ?_⟩
        walk_at "rd"
        refine ⟨p, _, rfl, SqL.of (s13 _ _ hp), fun g hg => ?_⟩
        rw [cut_two hb0 (by omega) (by omega)]
        have sg := same_new (o := .lst ((pvs.drop b.toNat).take (e - b).toNat)) hg
        have pg : Plcs K _ ((pvs.drop b.toNat).take (e - b).toNat) (((placesL ts).drop b.toNat).take (e - b).toNat) := paired_take _ (paired_drop _ (hpl.same (s13.trans sg)))
        have hpll : (((placesL ts).drop b.toNat).take (e - b).toNat).length = (e - b).toNat := by
          rw [List.length_take, List.length_drop]
          omega
        walk_at "rd"
        refine ⟨g, D2, z, _, _, ks, rfl, upd_same, pg, mem_parts hall, by omega, SqL.of (sg _ _ hD3), by omega, fun lt mvs H4 s4 nt et mt => ?_⟩
        have hfe : (fun n => decide (n ∈ ks)) = inPart (flushA ts 0 []) b e (placesL ts).length := funext fun m => decide_eq_decide.mpr (hmem m)
        rw [hfe] at mt
        have mt : Toks K H4 z mvs (partT ts b e) := mt
        have mok := mergeL_grown (f := inPart (flushA ts 0 []) b e (placesL ts).length) (z := z) (mem_parts (b := b.toNat) (k := (e - b).toNat) hall) (by omega)
        have msz := mok.size
        rw [hpll] at msz
        have msz : tsize (partT ts b e) = ((e - b).toNat : Int) := msz
        have mln := mergeA_len (f := inPart (flushA ts 0 []) b e (placesL ts).length) (((placesL ts).drop b.toNat).take (e - b).toNat) 0 []
        have mln2 : (partT ts b e).length ≤ 81 := by
          unfold partT mergeL
          rw [List.length_nil] at mln
          omega
        walk_at "rd"
        intro pa' dx' hpa hdx hne
        have s5 := same_make (C := T.c_Piece) hpa hdx hne
        refine ⟨pa', dx', lt, z, mvs, _, rfl, upd_same, hz, SqL.of (s5 _ _ et), Toks.same s5 mt, by omega, by omega, by omega, fun H9 k9 pat9 new => ?_⟩
        have s9 : Same H4 H9 := same_keepB hpa ((KeepB.of_same s5).trans k9)
        exact ⟨rfl, k pa' H9 (((s13.trans sg).trans s4).trans s9) (((s13.trans sg).trans s4).free hpa) pat9 fun dx l p w h => ⟨(((s13.trans sg).trans s4).trans s5).free (new dx l p w h).1, (((s13.trans sg).trans s4).trans s5).free (new dx l p w h).2⟩⟩
/-- the own lists of a piece are not D -/
def OffL (C : Addr) (H : L2.Hp) (x D : Addr) : Prop := ∀ dx l p z, H x = some (.ins C dx (pf z l p)) → l ≠ D ∧ p ≠ D
theorem off_same {K : PySem.W.Frag} {C : Addr} {H H' : L2.Hp} {x D : Addr} {z : Str} {ts : List (List L2.V)} (s : L2.Same H H') (h : PieceAt K C H x z ts) (o : OffL C H x D) : OffL C H' x D := by
  intro dx l p w e
  obtain ⟨dx', l', p', e'⟩ := h.ins
  rw [s _ _ e'] at e
  have e := L2.HO.ins.inj (Option.some.inj e)
  obtain ⟨rfl, rfl⟩ := pf_inj e.2.2
  exact o _ _ _ _ e'
theorem off_put {K : PySem.W.Frag} {C : Addr} {H : L2.Hp} {x D : Addr} {xs ys : List L2.V} {z : Str} {ts : List (List L2.V)} (hD : H D = some (.lst xs)) (h : PieceAt K C H x z ts) (o : OffL C H x D) : PieceAt K C (L2.upd H D (.lst ys)) x z ts ∧ OffL C (L2.upd H D (.lst ys)) x D := by
  obtain ⟨dx, l, p, tvs, pvs, ha, hl, htk, hp, hpl⟩ := h
  have hn := o _ _ _ _ ha
  have nx : x ≠ D := by
    intro e
    rw [e, hD] at ha
    cases ha
  refine ⟨⟨dx, l, p, tvs, pvs, upd_get nx ha, upd_get hn.1 hl, htk.put hD, upd_get hn.2 hp, hpl.put hD⟩, ?_⟩
  intro dx' l' p' w e
  rw [L2.upd_ne nx] at e
  exact o _ _ _ _ e
theorem rg_up {len n : Int} (h0 : 0 ≤ len) (h1 : len ≤ 1000) (n0 : 1 ≤ n) (n1 : n ≤ 1000) : L2.RgC 0 len n ((len + n - 1) / n).toNat ∧ (((len + n - 1) / n).toNat : Int) = (len + n - 1) / n ∧ (len + n - 1) / n ≤ 1001 := by
  have hn2 : (0 : Int) ≤ (len + n - 1) / n := Int.ediv_nonneg (by omega) (by omega)
  have hn3 : (len + n - 1) / n < 1002 := Int.ediv_lt_of_lt_mul (by omega) (by omega)
  have hN : (((len + n - 1) / n).toNat : Int) = (len + n - 1) / n := Int.toNat_of_nonneg hn2
  have hrs : PySem.Builtin.Range.rangeSize 0 len n = (((len + n - 1) / n).toNat : Int) := by
    rw [hN]
    unfold PySem.Builtin.Range.rangeSize
    rw [if_pos (by omega)]
    split
    · have e : len + n - 1 = (len - 0 - 1) + 1 * n := by omega
      rw [e, Int.add_mul_ediv_right _ _ (by omega)]
    · have e0 : len = 0 := by omega
      subst e0
      rw [Int.ediv_eq_zero_of_lt (by omega) (by omega)]
  refine ⟨⟨by omega, by omega, ?_, hrs⟩, hN, by omega⟩
  unfold PySem.Builtin.Range.small
  rw [hrs]
  generalize (len + n - 1) / n = q at hn2 hn3 hN
  simp only [PySem.Builtin.Range.rangeFitsLong, Bool.and_eq_true, Bool.or_eq_true, decide_eq_true_eq, beq_iff_eq]
  refine ⟨⟨⟨⟨by omega, by omega⟩, by omega⟩, by omega⟩, ?_⟩
  right
  rw [if_pos (by omega)]
  rw [Bool.and_eq_true, decide_eq_true_eq, decide_eq_true_eq]
  omega
theorem rg_in {len n : Int} {i : Nat} (n0 : 1 ≤ n) (hi : (i : Int) < (len + n - 1) / n) : 0 ≤ (i : Int) * n ∧ (i : Int) * n < len := by
  have h2 : ((i : Int) + 1) * n ≤ len + n - 1 := (Int.le_ediv_iff_mul_le (by omega)).mp (by omega)
  rw [Int.add_mul, Int.one_mul] at h2
  exact ⟨Int.mul_nonneg (by omega) (by omega), by omega⟩
def sp_Piece_floordiv (K : PySem.W.Frag) (C : Addr) : Sp := fun vs H Q _ => ∃ (a : Addr) (z : Str) (ts : List (List V)) (n : Int), vs = [.ref a, .int n] ∧ PieceAt K C H a z ts ∧ SignsOk z ∧ ts.length ≤ 200 ∧ 1 ≤ tsize ts ∧ tsize ts ≤ 40 ∧ 1 ≤ n ∧ n ≤ 1000 ∧
  ∀ (l : Addr) (as : List Addr) (H' : Hp), Same H H' → H l = none → H' l = some (.lst (as.map V.ref)) → (as.length : Int) = (tsize ts + n - 1) / n → (∀ (i : Nat) (x : Addr), as[i]? = some x → PieceAt K C H' x z (partT ts (i * n) (if tsize ts < i * n + n then tsize ts else i * n + n))) → Q (.ref l) H'
theorem ok_Piece_floordiv (T : Txt K mg) : FnOk P w K mg base CX0 9 T.f_Piece_floordiv T.d_Piece_floordiv ["self", "other"] (sp_Piece_floordiv K T.c_Piece) := by
  have nd := sc_Piece_floordiv.nd
  refine T.F_Piece_floordiv.ok sc_Piece_floordiv (fun vs H Q E h => ?_) (fun cdv A outer s H vs Q E hr h => ?_)
  · obtain ⟨a, z, ts, n, rfl, _⟩ := h
    rfl
  · obtain ⟨a, z, ts, n, rfl, pa, hz, hn, hs0, hs1, hn0, hn1, k⟩ := h
    refine ⟨_, (pss_cons (ps_if (pt_not (pt_val (pe_call (ok_is_integer T) (hr.mono (by decide)) (by rfl) T.m_is_integer T.F_is_integer.kp T.b_is_integer .nil pass0 (pa_cons (pv 1) pa_nil)))) (pss_one ps_never) pss_nil)
    (pss_cons (ps_set (i := 2) nd rfl (Or.inr rfl) (pe_callB (id := "len") (call_lenK (K := K) rfl) (by rfl) T.n_len (by decide +kernel) (pa_cons (pe_fld (pv 0) rfl) pa_nil)))
    (pss_one (ps_ret (pe_lc (own := [("begin", 3)]) (g := gName 3) (by rfl) nd (pi_range3 (by rfl) T.n_range (pa_cons pe_int (pa_cons (pv 2) (pa_cons (pv 1) pa_nil)))) (blkOk_by (own := [("begin", 3)]) (N := N_Piece_floordiv) (sc := defScope s_Piece_floordiv) (by decide +kernel)) (fun _ _ _ _ _ => (pg_name (i := 3) nd rfl (Or.inl rfl))) (fun _ _ _ _ _ => pts_nil) (fun _ _ _ _ _ => (pe_meth (pv 0) T.cl_Piece T.mt_Piece_part (ok_Piece_part T) (hr.mono (by decide)) T.b_Piece_part .nil pass0 (pa_cons (pv 3) (pa_cons (pe_callB (id := "min") (call_min2 rfl) (by rfl) T.n_min (by decide +kernel) (pa_cons (pe_op op_add (pv 3) (pv 1)) (pa_cons (pv 2) pa_nil))) pa_nil))))))))), ?_⟩
    have pat := pa
    obtain ⟨dx, l, p, tvs, pvs, ha, hl, htk, hp, hpl⟩ := pa
    have hpn := places_len htk.ok
    have hlen := paired_len hpl
    walk_at "rd"
    refine ⟨.int n, _, rfl, Ty7.int, ?_⟩
    walk_at "rd"
    refine iteKN rfl ?_
    walk_at "rd"
    refine ⟨_, _, _, _, _, rfl, ha, T.cl_Piece, T.na_Piece_places, pf_places _ _ _, ?_⟩
    walk_at "rd"
    have hpw : (pvs.length : Int) = tsize ts := by omega
    obtain ⟨hrg, hN, hN1⟩ := rg_up (len := (pvs.length : Int)) (n := n) (by omega) (by omega) hn0 hn1
    refine ⟨0, pvs.length, n, _, rfl, hrg, fun D hD => ?_⟩
    generalize (((pvs.length : Int) + n - 1) / n).toNat = N at hN
    have nDa := ha
    refine lc_it walk_rangeC (fun i H1 => KeepB D H H1 ∧ ∃ as : List Addr, H1 D = some (.lst (as.map V.ref)) ∧ as.length = i ∧ ∀ (j : Nat) (x : Addr), as[j]? = some x → PieceAt K T.c_Piece H1 x z (partT ts (j * n) (if tsize ts < j * n + n then tsize ts else j * n + n)) ∧ OffL T.c_Piece H1 x D) ?_ (fun _ _ _ _ => trivial) ?_ ?_
    · exact ⟨KeepB.put, [], upd_same, rfl, fun j x h => nomatch h⟩
    · rintro i v H0 H1 hi ⟨k1, as, hD1, hal, hps⟩ ⟨rfl, rfl⟩
      obtain ⟨hi0, hi1⟩ := rg_in (len := (pvs.length : Int)) (i := i) hn0 (by omega)
      generalize hin : (i : Int) * n = m at hi0 hi1
      have pat1 : PieceAt K T.c_Piece H1 a z ts := pat.same (same_keepB hD k1)
      have ha1 := same_keepB hD k1 _ _ ha
      walk_at "rd"
      refine ⟨a, _, _, rfl, ha1, pf_no _ _ _ (by decide +kernel) (by decide +kernel) (by decide +kernel), ?_⟩
      walk_at "rd"
      refine ⟨_, _, rfl, ?_⟩
      walk_at "rd"
      simp only [Int.zero_add, hin]
      rw [hpw]
      refine ⟨a, z, ts, m, (if tsize ts < m + n then tsize ts else m + n), rfl, pat1, hz, by omega, by omega, by omega, by split <;> omega, by split <;> omega, fun a' H2 s2 n2 p2 new2 => ?_⟩
      walk_at "rd"
      have hD2 := s2 _ _ hD1
      refine ⟨_, hD2, szt (by rw [List.length_map]; omega), (k1.trans (KeepB.of_same s2)).trans KeepB.put, as ++ [a'], by rw [upd_same, List.map_append]; rfl, by rw [List.length_append, List.length_singleton]; omega, fun j x hx => ?_⟩
      rcases Nat.lt_or_ge j as.length with hj | hj
      · rw [List.getElem?_append_left hj] at hx
        have h1 := hps j x hx
        exact off_put hD2 (h1.1.same s2) (off_same s2 h1.1 h1.2)
      · rw [List.getElem?_append_right hj] at hx
        have e0 : j - as.length = 0 := by
          cases e : j - as.length with
          | zero => rfl
          | succ q => rw [e] at hx; cases hx
        have e1 : j = i := by omega
        rw [e0] at hx
        cases hx
        subst e1
        rw [hin]
        exact off_put hD2 p2 fun dx l p w h => ⟨(ne_of_none hD1 (new2 dx l p w h).1).symm, (ne_of_none hD1 (new2 dx l p w h).2).symm⟩
    · rintro H1 ⟨k1, as, hD1, hal, hps⟩
      exact k D as H1 (same_keepB hD k1) hD hD1 (by rw [← hpw]; omega) fun j x hx => (hps j x hx).1
def sp_Piece_len (K : PySem.W.Frag) (C : Addr) : Sp := fun vs H Q _ => ∃ (a : Addr) (z : Str) (ts : List (List V)), vs = [.ref a] ∧ PieceAt K C H a z ts ∧ tsize ts ≤ 1000 ∧ Q (.int (placesL ts).length) H
theorem ok_Piece_len (T : Txt K mg) : FnOk P w K mg base CX0 1 T.f_Piece_len T.d_Piece_len ["self"] (sp_Piece_len K T.c_Piece) := by
  have nd := sc_Piece_len.nd
  refine T.F_Piece_len.ok sc_Piece_len (fun vs H Q E h => ?_) (fun cdv A outer s H vs Q E hr h => ?_)
  · obtain ⟨a, z, ts, rfl, _⟩ := h
    rfl
  · obtain ⟨a, z, ts, rfl, ⟨dx, l, p, tvs, pvs, ha, hl, htk, hp, hpl⟩, hsz, k⟩ := h
    refine ⟨_, (pss_one (ps_ret (pe_callB (id := "len") (call_lenK (K := K) rfl) (by rfl) T.n_len (by decide +kernel) (pa_cons (pe_fld (pv 0) rfl) pa_nil)))), ?_⟩
    have hll := places_len htk.ok
    have hln := paired_len hpl
    rw [← hln] at k hll
    walk_at "rd"
    refine ⟨_, _, _, _, _, rfl, ha, T.cl_Piece, T.na_Piece_places, pf_places _ _ _, ?_⟩
    walk_at "rd"
    trace_state
    exact k
def sp_Piece_needs (K : PySem.W.Frag) (C : Addr) : Sp := fun vs H Q _ => ∃ (a : Addr) (z : Str) (ts : List (List V)), vs = [.ref a] ∧ PieceAt K C H a z ts ∧ Q (needsL ts none 0 0) H
theorem ok_Piece_needs (T : Txt K mg) : FnOk P w K mg base CX0 2 T.f_Piece_needs T.d_Piece_needs ["self"] (sp_Piece_needs K T.c_Piece) := by
  have nd := sc_Piece_needs.nd
  refine T.F_Piece_needs.ok sc_Piece_needs (fun vs H Q E h => ?_) (fun cdv A outer s H vs Q E hr h => ?_)
  · obtain ⟨a, z, ts, rfl, _⟩ := h
    rfl
  · obtain ⟨a, z, ts, rfl, ⟨dx, l, p, tvs, pvs, ha, hl, htk, hp⟩, k⟩ := h
    refine ⟨_, (pss_cons (ps_set (i := 1) nd rfl (Or.inl rfl) pe_non)
    (pss_cons (ps_set (i := 2) nd rfl (Or.inl rfl) pe_int)
    (pss_cons (ps_set (i := 3) nd rfl (Or.inl rfl) pe_int)
    (pss_cons (ps_for PassesOwn.never rfl (pi_list (pe_fld (pv 0) rfl)) (pg_name (i := 4) nd rfl (Or.inl rfl)) (pss_cons (ps_if (pt_cmpR op_eq (pe_ix (ix_tupK (K := K) rfl) (pv 4) pe_int (fun _ _ => rfl)) pe_str (nomark _)) (pss_one (ps_set (i := 1) nd rfl (Or.inl rfl) (pv 3))) (pss_one (ps_if (PW.pt (pw_and (pt_cmpR op_eq (pe_ix (ix_tupK (K := K) rfl) (pv 4) pe_int (fun _ _ => rfl)) pe_str (nomark _)) (pw_and1 (pt_cmpR op_isN (pv 1) pe_non (nomark _))))) (pss_one (ps_set (i := 2) nd rfl (Or.inl rfl) (pe_callB (id := "max") (call_max2 rfl) (by rfl) T.n_max (by decide +kernel) (pa_cons (pv 2) (pa_cons (pe_op op_sub (pe_ix (ix_tupK (K := K) rfl) (pv 4) pe_int (fun _ _ => rfl)) (pv 3)) pa_nil))))) (pss_one (ps_if (PW.pt (pw_and (pt_cmpR op_eq (pe_ix (ix_tupK (K := K) rfl) (pv 4) pe_int (fun _ _ => rfl)) pe_str (nomark _)) (pw_and1 (pt_cmpR op_gt (pe_ix (ix_tupK (K := K) rfl) (pv 4) pe_int (fun _ _ => rfl)) (pe_op op_sub (pv 3) (pv 1)) (nomark _))))) (pss_one (ps_ret pe_non)) pss_nil)))))
    (pss_one (ps_set (i := 3) nd rfl (Or.inl rfl) (pe_op op_add (pv 3) (pe_call (ok_size T) (hr.mono (by decide)) (by rfl) T.m_size T.F_size.kp T.b_size .nil pass0 (pa_cons (pv 4) pa_nil)))))))
    (pss_one (ps_ret (pv 2))))))), ?_⟩
    walk_at "rd"
    refine ⟨_, _, _, _, _, rfl, ha, T.cl_Piece, T.na_Piece_tokens, pf_tokens _ _ _, ?_⟩
    walk_at "rd"
    refine ⟨⟨_, SqL.of hl⟩, ?_⟩
    have hlen := paired_len htk
    refine for_list (K := K) (a := l) (xs := tvs) (fun i σ H2 => H2 = H ∧ ∃ (fl : Option Int) (m wr : Int) (tok : Option V), σ = [some (.ref a), some (optV fl), some (.int m), some (.int wr), tok] ∧ needsL (ts.drop i) fl m wr = needsL ts none 0 0) ?_ ?_ ?_ ?_
    · exact ⟨rfl, none, 0, 0, none, rfl, rfl⟩
    · rintro i σ H2 _ ⟨rfl, _⟩
      exact SqL.of hl
    · rintro i v σ H2 hv ⟨rfl, fl, m, wr, tok, rfl, hN⟩
      obtain ⟨t, ht, ⟨⟨q, rfl, hq⟩, hok⟩⟩ := paired_get htk hv
      have hdr : ts.drop i = t :: ts.drop (i + 1) := by
        obtain ⟨h1, h2⟩ := List.getElem?_eq_some_iff.mp ht
        rw [List.drop_eq_getElem_cons h1, h2]
      rw [hdr] at hN
      obtain ⟨kd, rest, rfl, hk⟩ := tok_inv hok
      rcases hk with ⟨rfl, rfl⟩ | ⟨y, rfl, rfl, h1, h2, h3⟩ | ⟨y, rfl, rfl, h1⟩ | ⟨d, n, hkd, rfl, h1, h2, h3, h4⟩
      · walk_at "rd"
        walk_at "ks"
        walk_at "rd"
        refine ⟨q, _, z, rfl, hq, hok, ?_⟩
        walk_at "rd"
        refine ⟨some wr, m, wr, some (V.ref q), ?_, hN⟩
        show [some (V.ref a), some (V.int wr), some (V.int m), some (V.int (wr + 0)), some (V.ref q)] = _
        rw [Int.add_zero]
        rfl
      · walk_at "rd"
        walk_at "ks"
        walk_at "rd"
        walk_at "ks"
        walk_at "rd"
        walk_at "ks"
        walk_at "rd"
        refine ⟨q, _, z, rfl, hq, hok, ?_⟩
        walk_at "rd"
        exact ⟨fl, _, _, _, rfl, hN⟩
      · walk_at "rd"
        walk_at "ks"
        walk_at "rd"
        walk_at "ks"
        walk_at "rd"
        walk_at "ks"
        walk_at "rd"
        refine ⟨q, _, z, rfl, hq, hok, ?_⟩
        walk_at "rd"
        exact ⟨fl, _, _, _, rfl, hN⟩
      · rcases hkd with rfl | rfl
        · walk_at "rd"
          walk_at "ks"
          walk_at "rd"
          walk_at "ks"
          walk_at "rd"
          cases fl with
          | none =>
            refine iteDY rfl ?_
            walk_at "rd"
            refine ⟨_, _, rfl, ?_⟩
            walk_at "rd"
            refine ⟨q, _, z, rfl, hq, hok, ?_⟩
            walk_at "rd"
            exact ⟨none, _, _, _, rfl, hN⟩
          | some f =>
            refine iteDN (fun e => by cases e) ?_
            walk_at "rd"
            walk_at "ks"
            walk_at "rd"
            have hN : (match stepN [V.str "copy", V.int d, V.int n] (some f) m wr with
              | none => V.non
              | some (fl', m', w') => needsL (ts.drop (i + 1)) fl' m' w') = needsL ts none 0 0 := hN
            refine iteD (fun hd => ?_) (fun hd => ?_)
            · walk_at "rd"
              have e : stepN [V.str "copy", V.int d, V.int n] (some f) m wr = none := by
                show (if ("copy" : Str) = "copy" then (if wr - f < d then none else some (some f, m, wr + n)) else some (some f, m, wr + n)) = none
                rw [if_pos rfl, if_pos hd]
              rw [e] at hN
              have k' := k
              rw [← hN] at k'
              exact k'
            · walk_at "rd"
              refine ⟨q, _, z, rfl, hq, hok, ?_⟩
              walk_at "rd"
              have e : stepN [V.str "copy", V.int d, V.int n] (some f) m wr = some (some f, m, wr + n) := by
                show (if ("copy" : Str) = "copy" then (if wr - f < d then none else some (some f, m, wr + n)) else some (some f, m, wr + n)) = _
                rw [if_pos rfl, if_neg hd]
              rw [e] at hN
              exact ⟨some f, _, _, _, rfl, hN⟩
        · walk_at "rd"
          walk_at "ks"
          walk_at "rd"
          walk_at "ks"
          walk_at "rd"
          walk_at "ks"
          walk_at "rd"
          refine ⟨q, _, z, rfl, hq, hok, ?_⟩
          walk_at "rd"
          exact ⟨fl, _, _, _, rfl, hN⟩
    · rintro σ H2 ⟨rfl, fl, m, wr, tok, rfl, hN⟩
      rw [hlen, List.drop_length] at hN
      walk_at "rd"
      have e : needsL [] fl m wr = .int m := rfl
      rw [e] at hN
      rw [hN]
      exact k
def sp_Reader_kept (C : Addr) : Sp := fun vs H Q _ => ∃ (a l : Addr) (z : Str) (wd : Nat) (line : List Nat) (kl : Nat), vs = [.ref a] ∧ ReaderAt C H a l z wd line kl ∧ Q (.str (stL (tl line kl))) H
theorem ok_Reader_kept (T : Txt K mg) : FnOk P w K mg base CX0 1 T.f_Reader_kept T.d_Reader_kept ["self"] (sp_Reader_kept T.c_Reader) := by
  have nd := sc_Reader_kept.nd
  refine T.F_Reader_kept.ok sc_Reader_kept (fun vs H Q E h => ?_) (fun cdv A outer s H vs Q E hr h => ?_)
  · obtain ⟨a, l, z, wd, line, kl, rfl, _⟩ := h
    rfl
  · obtain ⟨a, l, z, wd, line, kl, rfl, hrd, k⟩ := h
    refine ⟨_, (pss_one (ps_ret (pe_fld (pv 0) rfl))), ?_⟩
    obtain ⟨⟨dx, ha⟩, hl, hz, hw1, hw2, hk1, hk2⟩ := hrd
    walk_at "rd"
    refine ⟨a, _, dx, _, _, rfl, ha, T.cl_Reader, T.na_Reader_kept, rdF_kept _ _ _ _, ?_⟩
    walk_at "rd"
    exact k
def sp_Reader_written (C : Addr) : Sp := fun vs H Q _ => ∃ (a l : Addr) (z : Str) (wd : Nat) (line : List Nat) (kl : Nat), vs = [.ref a] ∧ ReaderAt C H a l z wd line kl ∧ line.length ≤ 100000 ∧ Q (.str (stL line)) H
theorem ok_Reader_written (T : Txt K mg) : FnOk P w K mg base CX0 1 T.f_Reader_written T.d_Reader_written ["self"] (sp_Reader_written T.c_Reader) := by
  have nd := sc_Reader_written.nd
  refine T.F_Reader_written.ok sc_Reader_written (fun vs H Q E h => ?_) (fun cdv A outer s H vs Q E hr h => ?_)
  · obtain ⟨a, l, z, wd, line, kl, rfl, _⟩ := h
    rfl
  · obtain ⟨a, l, z, wd, line, kl, rfl, hrd, hln, k⟩ := h
    refine ⟨_, (pss_one (ps_ret (pe_join pe_str (pe_fld (pv 0) rfl)))), ?_⟩
    obtain ⟨⟨dx, ha⟩, hl, hz, hw1, hw2, hk1, hk2⟩ := hrd
    walk_at "rd"
    refine ⟨⟨_, rfl⟩, ?_⟩
    walk_at "rd"
    refine ⟨a, _, dx, _, _, rfl, ha, T.cl_Reader, T.na_Reader_written, rdF_written _ _ _ _, ?_⟩
    walk_at "rd"
    have em : line.map (fun c => V.str (sg c)) = ((line.map fun c => [c]).map stL).map V.str := by rw [List.map_map, List.map_map]; rfl
    have ef : (line.map fun c => [c]).flatten = line := by
      clear hl hk2 hln k ha em
      induction line with
      | nil => rfl
      | cons c cs ih => rw [List.map_cons, List.flatten_cons, ih]; rfl
    refine ⟨_, _, (line.map fun c => [c]).map stL, rfl, rfl, .inl (SqL.of (by rw [← em]; exact hl)), by rw [sum_sts, ef]; omega, ?_⟩
    rw [join_sts, ef]
    walk_at "rd"
    exact k
def sp_law_bag (K : PySem.W.Frag) : Sp := fun vs H Q _ => ∃ (a : Addr) (ns : List Int), vs = [.ref a] ∧ SqL K H a (ns.map V.int) ∧ ns.length ≤ 63 ∧ ∀ (b c : Addr) (H' : Hp), Same H H' → H b = none → BagAt H' b c → Q (.ref b) H'
theorem ok_law_bag (T : Txt K mg) : FnOk P w K mg base CX0 1 T.f_law_bag T.d_law_bag ["_law_script"] (sp_law_bag K) := by
  have nd := sc_law_bag.nd
  refine T.F_law_bag.ok sc_law_bag (fun vs H Q E h => ?_) (fun cdv A outer s H vs Q E hr h => ?_)
  · obtain ⟨a, ns, rfl, _⟩ := h
    rfl
  · obtain ⟨a, ns, rfl, ha, hn, k⟩ := h
    refine ⟨_, (pss_one (ps_ret (pe_lst (pa_cons pe_int (pa_cons pe_int (pa_cons pe_int (pa_cons (pe_lc (own := [("_law_cell", 1)]) (g := gName 1) (by rfl) nd (pi_list (pe_slice (sl_listK (K := K) rfl) (pv 0) po_none (po_some pe_int))) (blkOk_by (own := [("_law_cell", 1)]) (N := N_law_bag) (sc := defScope s_law_bag) (by decide +kernel)) (fun _ _ _ _ _ => (pg_name (i := 1) nd rfl (Or.inl rfl))) (fun _ _ _ _ _ => pts_nil) (fun _ _ _ _ _ => (pe_callB (id := "abs") call_abs (by rfl) T.n_abs (by decide +kernel) (pa_cons (pv 1) pa_nil)))) pa_nil))))))), ?_⟩
    walk_at "rd"
    refine ⟨_, _, rfl, ha, fun p hp => ?_⟩
    have hcut : ∃ ms : List Int, cutV (ns.map V.int) none (some 63) = ms.map V.int ∧ ms.length ≤ 63 := by
      refine ⟨(ns.drop (HT.sIx (ns.map V.int).length 0 none)).take (HT.sIx (ns.map V.int).length (ns.map V.int).length (some 63) - HT.sIx (ns.map V.int).length 0 none), ?_, ?_⟩
      · unfold cutV
        rw [List.map_take, List.map_drop]
      · rw [List.length_take, List.length_drop]
        omega
    obtain ⟨ms, ems, hms⟩ := hcut
    rw [ems]
    walk_at "rd"
    refine ⟨⟨_, SqL.of upd_same⟩, ?_⟩
    intro D hD
    refine lc_list (K := K) (a := p) (xs := ms.map V.int) (Acc ms (fun i => .int (if i < 0 then -i else i)) (upd H p (.lst (ms.map V.int))) D) (Acc.start _ _ _ _) (fun i H2 _ ka => SqL.of (ka.same hD _ _ upd_same)) ?_ ?_
    · intro i v H2 hv ka
      rw [List.getElem?_map] at hv
      obtain ⟨c, hc, rfl⟩ := Option.map_eq_some_iff.mp hv
      walk_at "rd"
      exact ka.step0 hc (by omega) rfl
    · intro H2 ka
      rw [List.length_map] at ka
      refine ⟨szl (n := 4) (by decide), fun b hb => ?_⟩
      have s2 := ka.same hD
      have hb1 := ((same_new (o := .lst (ms.map V.int)) hp).trans s2).free hb
      refine k _ D _ (((same_new hp).trans s2).trans (same_new hb)) hb1 ?_
      have hne := ne_of_none ka.2 hb
      refine BagAt.mk' (p := 0) (q := 1234567891) (n := 0) (c := D) (cs := ms.map fun i => if i < 0 then -i else i) upd_same ?_ (by decide) (by decide) (by decide) (by decide) ?_ (by rw [List.length_map]; exact hms)
      · rw [upd_ne hne, List.map_map]
        exact Acc.all ka
      · intro x hx
        obtain ⟨i, _, rfl⟩ := List.mem_map.mp hx
        split <;> omega
def sp_law_places (K : PySem.W.Frag) : Sp := fun vs H Q _ => ∃ (l : Addr) (tvs : List V) (ts : List (List V)) (z : Str), vs = [.ref l] ∧ SqL K H l tvs ∧ Toks K H z tvs ts ∧ tsize ts ≤ 1000 ∧
  ∀ (p : Addr) (pvs : List V) (H' : Hp), Same H H' → H p = none → H' p = some (.lst pvs) → Plcs K H' pvs (placesL ts) → Q (.ref p) H'
theorem ok_law_places (T : Txt K mg) : FnOk P w K mg base CX0 1 T.f_law_places T.d_law_places ["_law_tokens"] (sp_law_places K) := by
  have nd := sc_law_places.nd
  refine T.F_law_places.ok sc_law_places (fun vs H Q E h => ?_) (fun cdv A outer s H vs Q E hr h => ?_)
  · obtain ⟨l, tvs, ts, z, rfl, _⟩ := h
    rfl
  · obtain ⟨l, tvs, ts, z, rfl, hl, htk, hn, k⟩ := h
    refine ⟨_, (pss_cons (ps_set (i := 1) nd rfl (Or.inl rfl) (pe_lst pa_nil))
    (pss_cons (ps_for PassesOwn.never rfl (pi_list (pv 0)) (pg_name (i := 2) nd rfl (Or.inl rfl)) (pss_one (ps_if (pt_cmpR op_eq (pe_ix (ix_tupK (K := K) rfl) (pv 2) pe_int (fun _ _ => rfl)) pe_str (nomark _)) (pss_one (ps_expr (pe_bm PySem.F.plainAttrs_list PySem.F.slot_list_extend PySem.F.type_list_extend mt_extend (pv 1) (pa_cons (pe_lc (own := [("_law_sign", 3)]) (g := gName 3) (by rfl) nd (pi_str (pe_ix (ix_tupK (K := K) rfl) (pv 2) pe_int (fun _ _ => rfl))) (blkOk_by (own := [("_law_sign", 3)]) (N := N_law_places) (sc := defScope s_law_places) (by decide +kernel)) (fun _ _ _ _ _ => (pg_name (i := 3) nd rfl (Or.inl rfl))) (fun _ _ _ _ _ => pts_nil) (fun _ _ _ _ _ => (pe_tup (pa_cons pe_str (pa_cons (pv 3) pa_nil))))) pa_nil)))) (pss_one (ps_if (pt_cmpR op_eq (pe_ix (ix_tupK (K := K) rfl) (pv 2) pe_int (fun _ _ => rfl)) pe_str (nomark _)) (pss_one (ps_expr (pe_bm PySem.F.plainAttrs_list PySem.F.slot_list_append PySem.F.type_list_append mt_append (pv 1) (pa_cons (pe_tup (pa_cons pe_str (pa_cons (pe_ix (ix_tupK (K := K) rfl) (pv 2) pe_int (fun _ _ => rfl)) pa_nil))) pa_nil)))) (pss_one (ps_if (pt_cmpR op_ne (pe_ix (ix_tupK (K := K) rfl) (pv 2) pe_int (fun _ _ => rfl)) pe_str (nomark _)) (pss_one (ps_expr (pe_bm PySem.F.plainAttrs_list PySem.F.slot_list_extend PySem.F.type_list_extend mt_extend (pv 1) (pa_cons (pe_op op_rep (pe_lst (pa_cons (pe_tup (pa_cons (pe_ix (ix_tupK (K := K) rfl) (pv 2) pe_int (fun _ _ => rfl)) (pa_cons (pe_ix (ix_tupK (K := K) rfl) (pv 2) pe_int (fun _ _ => rfl)) pa_nil))) pa_nil)) (pe_ix (ix_tupK (K := K) rfl) (pv 2) pe_int (fun _ _ => rfl))) pa_nil)))) pss_nil)))))))
    (pss_one (ps_ret (pv 1))))), ?_⟩
    have hlen := paired_len htk
    walk_at "rd"
    intro D hD
    walk_at "rd"
    refine ⟨⟨_, (same_new hD).seq hl⟩, ?_⟩
    refine for_list (K := K) (a := l) (xs := tvs) (fun i σ H2 => KeepB D H H2 ∧ ∃ (pvs : List V) (tok : Option V), σ = [some (.ref l), some (.ref D), tok, none] ∧ H2 D = some (.lst pvs) ∧ Plcs K H2 pvs (placesL (ts.take i))) ?_ ?_ ?_ ?_
    · exact ⟨KeepB.put, [], none, rfl, upd_same, .nil⟩
    · rintro i σ H2 _ ⟨k2, _⟩
      exact (same_keepB hD k2).seq hl
    · rintro i v σ H2 hv ⟨k2, pvs, tok, rfl, hp, hpl⟩
      have s2 := same_keepB hD k2
      obtain ⟨t, ht, ⟨⟨q, rfl, hq⟩, hok⟩⟩ := paired_get htk hv
      have hq := sqT_same s2 hq
      have hpt := places_step ht
      have hst := tsize_step ht
      have hle := tsize_take_le (i := i + 1) htk.ok
      have hle0 := tsize_take_le (i := i) htk.ok
      have hpll := places_len (ts := ts.take i) (z := z) fun u hu => htk.ok u (List.mem_of_mem_take hu)
      have hnp : (pvs.length : Int) ≤ 1000 := by rw [paired_len hpl]; omega
      obtain ⟨kd, rest, rfl, hk⟩ := tok_inv hok
      rcases hk with ⟨rfl, rfl⟩ | ⟨y, rfl, rfl, h1, h2, h3⟩ | ⟨y, rfl, rfl, h1⟩ | ⟨d, n, hkd, rfl, h1, h2, h3, h4⟩
      · walk_at "rd"
        walk_at "ks"
        walk_at "rd"
        walk_at "ks"
        walk_at "rd"
        refine iteNeF ?_
        exact ⟨k2, pvs, _, rfl, hp, by rw [hpt]; exact (List.append_nil (placesL (ts.take i))).symm ▸ hpl⟩
      · walk_at "rd"
        walk_at "ks"
        walk_at "rd"
        try refine And.intro (Or.inl ⟨rfl, _, SqL.of hp⟩) ?_
        walk_at "rd"
        intro D2 hD2
        have hne := ne_of_none hp hD2
        refine lc_it walk_str (fun i H3 => KeepB D2 H2 H3 ∧ ∃ acc, H3 D2 = some (.lst acc) ∧ Plcs K H3 acc (((cl y).take i).map fun c => [V.str "sign", V.str (sg c)])) ?_ (fun _ _ _ _ => trivial) ?_ ?_
        · exact ⟨KeepB.put, [], upd_same, .nil⟩
        · rintro i _ H3 _ hi ⟨k3, acc, ha, hal⟩ ⟨rfl, c, hc, rfl⟩
          have hi' : i < y.length := hi
          have hln := paired_len hal
          rw [List.length_map, List.length_take] at hln
          walk_at "rd"
          intro p' hp'
          have s7 := same_new (o := .tup [.str "sign", .str (sg c)]) hp'
          refine ⟨acc, s7 _ _ ha, szt (by omega), (k3.trans (KeepB.of_same s7)).trans KeepB.put, _, upd_same, ?_⟩
          rw [take_succ' (cl_get hc), List.map_append]
          exact Plcs.keep KeepB.put (lst_lst (s7 _ _ ha)) (paired_app (Plcs.same s7 hal) (paired_one TupAt.new))
        · rintro H3 ⟨k3, acc, ha, hal⟩
          have s3 := same_keepB hD2 k3
          have hal : Plcs K H3 acc (((cl y).take y.length).map fun c => [V.str "sign", V.str (sg c)]) := hal
          rw [List.take_of_length_le (by rw [cl_len]; omega), ← place_text] at hal
          have hln := paired_len hal
          rw [place_text, List.length_map, cl_len] at hln
          refine ⟨D, D2, pvs, acc, rfl, rfl, s3 _ _ hp, ha, szl (by omega), ?_⟩
          refine ⟨(k2.trans (KeepB.of_same s3)).trans KeepB.put, _, _, rfl, upd_same, ?_⟩
          rw [hpt]
          exact Plcs.keep KeepB.put (lst_lst (s3 _ _ hp)) (paired_app (Plcs.same s3 hpl) hal)
      · walk_at "rd"
        walk_at "ks"
        walk_at "rd"
        walk_at "ks"
        walk_at "rd"
        try refine And.intro (Or.inl ⟨rfl, _, SqL.of hp⟩) ?_
        walk_at "rd"
        intro p' hp'
        have s7 := same_new (o := .tup [.str "hole", .str y]) hp'
        refine ⟨D, pvs, _, rfl, rfl, s7 _ _ hp, szt (by omega), ?_⟩
        refine ⟨(k2.trans (KeepB.of_same s7)).trans KeepB.put, _, _, rfl, upd_same, ?_⟩
        rw [hpt, place_any]
        exact Plcs.keep KeepB.put (lst_lst (s7 _ _ hp)) (paired_app (Plcs.same s7 hpl) (paired_one TupAt.new))
      · rcases hkd with rfl | rfl
        · walk_at "rd"
          walk_at "ks"
          walk_at "rd"
          walk_at "ks"
          walk_at "rd"
          refine iteNeT (by decide +kernel) ?_
          walk_at "rd"
          try refine ⟨Or.inl ⟨rfl, _, SqL.of hp⟩, ?_⟩
          walk_at "rd"
          intro p' hp'
          walk_at "rd"
          intro q' hq'
          walk_at "rd"
          have s5 := (same_new (o := .tup [.str "copy", .int d]) hp').trans (same_new (o := .lst [.ref p']) hq')
          refine ⟨_, _, _, _, rfl, rfl, sqT_same s5 hq, rfl, ?_⟩
          refine ⟨q', n, [.ref p'], rfl, rfl, upd_same, by omega, by omega, szl (by rw [List.length_singleton]; omega), fun p3 hp3 => ?_⟩
          have hz : (List.replicate n.toNat [V.ref p']).flatten.length = n.toNat := by
            rw [List.length_flatten, List.map_replicate, List.sum_replicate_nat]
            exact Nat.mul_one _
          have s6 := s5.trans (same_new (o := .lst (List.replicate n.toNat [V.ref p']).flatten) hp3)
          refine ⟨D, p3, pvs, _, rfl, rfl, s6 _ _ hp, upd_same, szl (by rw [hz]; omega), ?_⟩
          refine ⟨(k2.trans (KeepB.of_same s6)).trans KeepB.put, _, _, rfl, upd_same, ?_⟩
          have hone := TupAt.same (K := K) ((same_new (o := .lst [.ref p']) hq').trans (same_new (o := .lst (List.replicate n.toNat [V.ref p']).flatten) hp3)) (TupAt.new (H := H2) (p := p') (xs := [.str "copy", .int d]))
          have hrep := paired_rep hone n.toNat
          rw [← flat_rep] at hrep
          rw [hpt]
          exact Plcs.keep KeepB.put (lst_lst (s6 _ _ hp)) (paired_app (Plcs.same s6 hpl) hrep)
        · walk_at "rd"
          walk_at "ks"
          walk_at "rd"
          walk_at "ks"
          walk_at "rd"
          refine iteNeT (by decide +kernel) ?_
          walk_at "rd"
          try refine ⟨Or.inl ⟨rfl, _, SqL.of hp⟩, ?_⟩
          walk_at "rd"
          intro p' hp'
          walk_at "rd"
          intro q' hq'
          walk_at "rd"
          have s5 := (same_new (o := .tup [.str "say", .int d]) hp').trans (same_new (o := .lst [.ref p']) hq')
          refine ⟨_, _, _, _, rfl, rfl, sqT_same s5 hq, rfl, ?_⟩
          refine ⟨q', n, [.ref p'], rfl, rfl, upd_same, by omega, by omega, szl (by rw [List.length_singleton]; omega), fun p3 hp3 => ?_⟩
          have hz : (List.replicate n.toNat [V.ref p']).flatten.length = n.toNat := by
            rw [List.length_flatten, List.map_replicate, List.sum_replicate_nat]
            exact Nat.mul_one _
          have s6 := s5.trans (same_new (o := .lst (List.replicate n.toNat [V.ref p']).flatten) hp3)
          refine ⟨D, p3, pvs, _, rfl, rfl, s6 _ _ hp, upd_same, szl (by rw [hz]; omega), ?_⟩
          refine ⟨(k2.trans (KeepB.of_same s6)).trans KeepB.put, _, _, rfl, upd_same, ?_⟩
          have hone := TupAt.same (K := K) ((same_new (o := .lst [.ref p']) hq').trans (same_new (o := .lst (List.replicate n.toNat [V.ref p']).flatten) hp3)) (TupAt.new (H := H2) (p := p') (xs := [.str "say", .int d]))
          have hrep := paired_rep hone n.toNat
          rw [← flat_rep] at hrep
          rw [hpt]
          exact Plcs.keep KeepB.put (lst_lst (s6 _ _ hp)) (paired_app (Plcs.same s6 hpl) hrep)
    · rintro σ H2 ⟨k2, pvs, tok, rfl, hp, hpl⟩
      rw [hlen, List.take_length] at hpl
      walk_at "rd"
      exact k D pvs _ (same_keepB hD k2) hD hp hpl
def sp_law_copied_right (K : PySem.W.Frag) : Sp := fun vs H Q _ => ∃ (l : Addr) (z : Str) (tvs : List V) (ts : List (List V)) (L line : List Nat), vs = [.str (stL L), .int line.length, .ref l] ∧ H l = some (.lst tvs) ∧ Toks K H z tvs ts ∧ tsize ts ≤ 1000 ∧ L.length ≤ 50000 ∧
  L.length = line.length + (placesL ts).length ∧ (∀ (j : Nat) (p : List V), (placesL ts)[j]? = some p → ∃ c, L[line.length + j]? = some c ∧ ((p = [.str "sign", .str (sg c)]) ∨ ∃ d : Int, p = [.str "copy", .int d] ∧ 1 ≤ d ∧ d ≤ ((line.length + j : Nat) : Int) ∧ L[line.length + j - d.toNat]? = some c)) ∧
  ∀ H', Same H H' → Q (.bl true) H'
theorem ok_law_copied_right (T : Txt K mg) : FnOk P w K mg base CX0 2 T.f_law_copied_right T.d_law_copied_right ["_law_text", "_law_begin", "_law_tokens"] (sp_law_copied_right K) := by
  have nd := sc_law_copied_right.nd
  refine T.F_law_copied_right.ok sc_law_copied_right (fun vs H Q E h => ?_) (fun cdv A outer s H vs Q E hr h => ?_)
  · obtain ⟨l, z, tvs, ts, L, line, rfl, _⟩ := h
    rfl
  · obtain ⟨l, z, tvs, ts, L, line, rfl, hl, htk, hs, hL, hll, hps, k⟩ := h
    refine ⟨_, (pss_cons (ps_set (i := 3) nd rfl (Or.inl rfl) (pv 1))
    (pss_cons (ps_for PassesOwn.never rfl (pi_list (pe_call (ok_law_places T) (hr.mono (by decide)) (by rfl) T.m_law_places T.F_law_places.kp T.b_law_places .nil pass0 (pa_cons (pv 2) pa_nil))) (pg_tup rfl (pgs_cons (pg_name (i := 4) nd rfl (Or.inl rfl)) (pgs_cons (pg_name (i := 5) nd rfl (Or.inl rfl)) pgs_nil))) (pss_cons (ps_if (PW.pt (pw_or (PW.pt (pw_and (pt_cmpR op_eq (pv 4) pe_str (nomark _)) (pw_and1 (pt_cmpR op_ne (pe_ix ix_str (pv 0) (pv 3) (fun _ _ => rfl)) (pe_ix ix_str (pv 0) (pe_op op_sub (pv 3) (pv 5)) (fun _ _ => rfl)) (nomark _))))) (pw_or1 (PW.pt (pw_and (pt_cmpR op_eq (pv 4) pe_str (nomark _)) (pw_and1 (pt_cmpR op_ne (pe_ix ix_str (pv 0) (pv 3) (fun _ _ => rfl)) (pv 5) (nomark _)))))))) (pss_one (ps_ret pe_bl)) pss_nil)
    (pss_one (ps_aug (i := 3) nd rfl (Or.inl rfl) pe_int ip_add))))
    (pss_one (ps_ret (pe_cmpR op_eq (pv 3) (pe_callB (id := "len") (call_lenK (K := K) rfl) (by rfl) T.n_len (by decide +kernel) (pa_cons (pv 0) pa_nil)) (nomark _)))))), ?_⟩
    walk_at "rd"
    refine ⟨l, tvs, ts, z, rfl, SqL.of hl, htk, hs, fun p pvs H1 s1 hp hp1 hpl => ?_⟩
    have hplen := paired_len hpl
    walk_at "rd"
    refine ⟨⟨_, SqL.of hp1⟩, ?_⟩
    refine for_list (K := K) (a := p) (xs := pvs) (fun i σ H2 => H2 = H1 ∧ ∃ (x4 x5 : Option V), σ = [some (.str (stL L)), some (.int line.length), some (.ref l), some (.int ((line.length : Int) + (i : Int))), x4, x5]) ?_ ?_ ?_ ?_
    · refine ⟨rfl, none, none, ?_⟩
      show _ = [_, _, _, some (V.int ((line.length : Int) + ((0 : Nat) : Int))), _, _]
      rw [show (line.length : Int) + ((0 : Nat) : Int) = line.length by omega]
      rfl
    · rintro i σ H2 _ ⟨rfl, _⟩
      exact SqL.of hp1
    · rintro i v σ H2 hv ⟨rfl, x4, x5, rfl⟩
      obtain ⟨pl, hpi, ⟨q, rfl, hq⟩⟩ := paired_get hpl hv
      obtain ⟨c, hc, hcase⟩ := hps i pl hpi
      have hat : atI L ((line.length : Int) + (i : Int)) = some c := by
        rw [show (line.length : Int) + (i : Int) = ((line.length + i : Nat) : Int) by omega]
        exact atI_nat hc
      rcases hcase with rfl | ⟨d, rfl, d1, d2, hd⟩
      · walk_at "rd"
        walk_at "ks"
        walk_at "rd"
        walk_at "ks"
        walk_at "rd"
        refine ⟨_, _, c, rfl, rfl, szl (by rw [stL_len]; omega), by first | exact hat | (rw [cl_stL]; exact hat), ?_⟩
        walk_at "rd"
        refine iteNeF ?_
        walk_at "rd"
        rw [show (line.length : Int) + ((i + 1 : Nat) : Int) = (line.length : Int) + (i : Int) + 1 by omega]
        exact ⟨_, _, rfl⟩
      · walk_at "rd"
        walk_at "ks"
        walk_at "rd"
        have hat2 : atI L ((line.length : Int) + (i : Int) - d) = some c := by
          rw [show (line.length : Int) + (i : Int) - d = ((line.length + i - d.toNat : Nat) : Int) by omega]
          exact atI_nat hd
        refine ⟨_, _, c, rfl, rfl, szl (by rw [stL_len]; omega), by first | exact hat | (rw [cl_stL]; exact hat), ?_⟩
        walk_at "rd"
        refine ⟨_, _, c, rfl, rfl, szl (by rw [stL_len]; omega), by first | exact hat2 | (rw [cl_stL]; exact hat2), ?_⟩
        walk_at "rd"
        refine iteNeF ?_
        walk_at "rd"
        walk_at "ks"
        walk_at "rd"
        rw [show (line.length : Int) + ((i + 1 : Nat) : Int) = (line.length : Int) + (i : Int) + 1 by omega]
        exact ⟨_, _, rfl⟩
    · rintro σ H2 ⟨rfl, x4, x5, rfl⟩
      walk_at "rd"
      refine ⟨_, _, rfl, ⟨szl (by rw [stL_len]; omega), rfl⟩, ?_⟩
      rw [stL_len, hplen, ← Int.natCast_add, ← hll]
      walk_at "rd"
      rw [decide_eq_true (rfl : V.int (L.length : Int) = V.int (L.length : Int))]
      exact k _ s1
def sp_law_take : Sp := fun vs H Q _ => ∃ (b c : Addr) (m : Int), vs = [.ref b, .int m] ∧ BagAt H b c ∧ 0 < m ∧ m < 1073741824 ∧
  ∀ (r : Int) (H' : Hp), KeepB b H H' → BagAt H' b c → 0 ≤ r → r < m → Q (.int r) H'
theorem ok_law_take (T : Txt K mg) : FnOk P w K mg base CX0 1 T.f_law_take T.d_law_take ["_law_bag_here", "_law_many"] sp_law_take := by
  have nd := sc_law_take.nd
  refine T.F_law_take.ok sc_law_take (fun vs H Q E h => ?_) (fun cdv A outer s H vs Q E hr h => ?_)
  · obtain ⟨b, c, m, rfl, _⟩ := h
    rfl
  · obtain ⟨b, c, m, rfl, hbag, m0, m1, k⟩ := h
    obtain ⟨p, q, n, cs, hb, hc, p0, q0, q1, n0, cs0, csl⟩ := hbag
    have ncb := bag_ne hb hc
    refine ⟨_, (C8.pss_cut (ps_if (pt_cmpR op_eq (pe_ix (ix_listK (K := K) rfl) (pv 0) pe_int (fun _ _ => rfl)) pe_int (nomark _)) (pss_cons (ps_set (i := 2) nd rfl (Or.inl rfl) pe_int)
    (pss_cons (ps_if (pt_cmpR op_lt (pe_ix (ix_listK (K := K) rfl) (pv 0) pe_int (fun _ _ => rfl)) (pe_callB (id := "len") (call_lenK (K := K) rfl) (by rfl) T.n_len (by decide +kernel) (pa_cons (pe_ix (ix_listK (K := K) rfl) (pv 0) pe_int (fun _ _ => rfl)) pa_nil)) (nomark _)) (pss_one (ps_set (i := 2) nd rfl (Or.inl rfl) (pe_ix (ix_listK (K := K) rfl) (pe_ix (ix_listK (K := K) rfl) (pv 0) pe_int (fun _ _ => rfl)) (pe_ix (ix_listK (K := K) rfl) (pv 0) pe_int (fun _ _ => rfl)) (fun _ _ => rfl)))) pss_nil)
    (pss_cons (ps_augS (pv 0) pe_int pget_list pe_int ip_add set_list)
    (pss_cons (ps_if (pt_cmpR op_ge (pv 2) pe_int (nomark _)) (pss_one (ps_asg (pv 2) (pg_sub (pv 0) pe_int set_list))) pss_nil)
    (pss_cons (ps_set (i := 3) nd rfl (Or.inl rfl) (pe_op op_add (pe_op op_add (pe_op op_mul (pe_ix (ix_listK (K := K) rfl) (pv 0) pe_int (fun _ _ => rfl)) pe_int) (pe_op op_mod (pe_callTy (T := "int") call_int1 (by rfl) T.n_int (by decide +kernel) (pa_cons (pv 2) pa_nil)) pe_int)) (pe_op op_mul pe_int (pe_ix (ix_listK (K := K) rfl) (pv 0) pe_int (fun _ _ => rfl)))))
    (pss_one (ps_asg (pe_op op_mod (pe_callTy (T := "int") call_int1 (by rfl) T.n_int (by decide +kernel) (pa_cons (pv 3) pa_nil)) pe_int) (pg_sub (pv 0) pe_int set_list)))))))) pss_nil)
    (pss_cons (ps_if (pt_cmpR op_gt (pe_ix (ix_listK (K := K) rfl) (pv 0) pe_int (fun _ _ => rfl)) pe_int (nomark _)) (pss_cons (ps_set (i := 4) nd rfl (Or.inl rfl) (pe_op op_mod (pe_callTy (T := "int") call_int1 (by rfl) T.n_int (by decide +kernel) (pa_cons (pe_ix (ix_listK (K := K) rfl) (pv 0) pe_int (fun _ _ => rfl)) pa_nil)) (pv 1)))
    (pss_cons (ps_asg (pe_op op_fdiv (pe_callTy (T := "int") call_int1 (by rfl) T.n_int (by decide +kernel) (pa_cons (pe_ix (ix_listK (K := K) rfl) (pv 0) pe_int (fun _ _ => rfl)) pa_nil)) (pv 1)) (pg_sub (pv 0) pe_int set_list))
    (pss_one (ps_ret (pv 4))))) pss_nil)
    (pss_cons (ps_set (i := 5) nd rfl (Or.inl rfl) (pe_op op_mod (pe_callTy (T := "int") call_int1 (by rfl) T.n_int (by decide +kernel) (pa_cons (pe_op op_mul (pe_op op_add (pe_ix (ix_listK (K := K) rfl) (pv 0) pe_int (fun _ _ => rfl)) pe_int) pe_int) pa_nil)) pe_int))
    (pss_cons (ps_set (i := 6) nd rfl (Or.inl rfl) (pe_op op_mod (pe_callTy (T := "int") call_int1 (by rfl) T.n_int (by decide +kernel) (pa_cons (pe_op op_mul (pe_op op_mod (pe_callTy (T := "int") call_int1 (by rfl) T.n_int (by decide +kernel) (pa_cons (pe_op op_mul (pv 5) (pv 5)) pa_nil)) pe_int) pe_int) pa_nil)) pe_int))
    (pss_one (ps_ret (pe_op op_mod (pe_callTy (T := "int") call_int1 (by rfl) T.n_int (by decide +kernel) (pa_cons (pe_op op_fdiv (pv 6) pe_int) pa_nil)) (pv 1)))))))), ?_⟩
    refine ⟨fun σ' H' => ∃ x y, σ' = [some (.ref b), some (.int m), x, y, none, none, none] ∧ KeepB b H H' ∧ BagAt H' b c, ?_, ?_⟩
    · walk_at "rd"
      refine iteI (fun e => ?_) (fun e => ?_)
      · walk_at "rd"
        refine iteD (fun hn => ?_) (fun hn => ?_)
        · have hn : n < (cs.length : Int) := by rw [List.length_map] at hn; exact hn
          obtain ⟨z, hz, ez⟩ := at_ints n0 hn
          have z0 := cs0 z hz
          walk_at "rd"
          refine ⟨_, _, _, _, rfl, rfl, SqL.of (by assumption), ez, ?_⟩
          walk_at "rd"
          refine iteD (fun hz => ?_) (fun hz => ?_)
          · walk_at "rd"
            exact ⟨_, _, rfl, by walk_at "keep", BagAt.mk' upd_same (by walk_at "at") (by omega) (by walk_at "num") (by walk_at "num") (by walk_at "num") cs0 csl⟩
          · walk_at "rd"
            exact ⟨_, _, rfl, by walk_at "keep", BagAt.mk' upd_same (by walk_at "at") (by omega) (by walk_at "num") (by walk_at "num") (by walk_at "num") cs0 csl⟩
        · walk_at "rd"
          refine iteD (fun hz => absurd hz (by decide)) (fun hz => ?_)
          walk_at "rd"
          exact ⟨_, _, rfl, by walk_at "keep", BagAt.mk' upd_same (by walk_at "at") (by omega) (by walk_at "num") (by walk_at "num") (by walk_at "num") cs0 csl⟩
      · exact ⟨_, _, rfl, KeepB.refl _ _, BagAt.mk' hb hc p0 q0 q1 n0 cs0 csl⟩
    · rintro _ H1 ⟨x, y, rfl, hk, p, q, n, cs, hb, hc, p0, q0, q1, n0, cs0, csl⟩
      have ncb := bag_ne hb hc
      walk_at "rd"
      refine iteD (fun hp => ?_) (fun hp => ?_)
      · walk_at "rd"
        exact k _ _ (hk.trans (by walk_at "keep")) (BagAt.mk' upd_same (by walk_at "at") (Int.ediv_nonneg (by omega) (by omega)) (by omega) (by omega) (by omega) cs0 csl) (Int.emod_nonneg _ (by omega)) (Int.emod_lt_of_pos _ m0)
      · walk_at "rd"
        exact k _ _ hk (BagAt.mk' hb hc p0 q0 q1 n0 cs0 csl) (Int.emod_nonneg _ (by omega)) (Int.emod_lt_of_pos _ m0)
def sp_law_choice : Sp := fun vs H Q _ => ∃ (b c : Addr) (z : Str), vs = [.ref b, .str z] ∧ BagAt H b c ∧ SignsOk z ∧
  ∀ (y : Str) (H' : Hp), KeepB b H H' → BagAt H' b c → choiceB z y = true → Q (.str y) H'
theorem ok_law_choice (T : Txt K mg) : FnOk P w K mg base CX0 2 T.f_law_choice T.d_law_choice ["_law_bag_here", "_law_signs_here"] sp_law_choice := by
  have nd := sc_law_choice.nd
  refine T.F_law_choice.ok sc_law_choice (fun vs H Q E h => ?_) (fun cdv A outer s H vs Q E hr h => ?_)
  · obtain ⟨b, c, z, rfl, _⟩ := h
    rfl
  · obtain ⟨b, c, z, rfl, hb, hz, k⟩ := h
    refine ⟨_, (pss_cons (ps_set (i := 2) nd rfl (Or.inl rfl) (pe_join pe_str (pe_lc (own := [("_law_sign", 3)]) (g := gName 3) (by rfl) nd (pi_str (pv 1)) (blkOk_by (own := [("_law_sign", 3)]) (N := N_law_choice) (sc := defScope s_law_choice) (by decide +kernel)) (fun _ _ _ _ _ => (pg_name (i := 3) nd rfl (Or.inl rfl))) (fun _ _ _ _ _ => pts_one (pt_cmpR op_eq (pe_call (ok_law_take T) (hr.mono (by decide)) (by rfl) T.m_law_take T.F_law_take.kp T.b_law_take .nil pass0 (pa_cons (pv 0) (pa_cons pe_int pa_nil))) pe_int (nomark _))) (fun _ _ _ _ _ => (pv 3)))))
    (pss_one (ps_ret (pe_orT (pv 2) (pe_one (pe_ix ix_str (pv 1) (pe_call (ok_law_take T) (hr.mono (by decide)) (by rfl) T.m_law_take T.F_law_take.kp T.b_law_take .nil pass0 (pa_cons (pv 0) (pa_cons (pe_callB (id := "len") (call_lenK (K := K) rfl) (by rfl) T.n_len (by decide +kernel) (pa_cons (pv 1) pa_nil)) pa_nil))) (fun _ _ => rfl))))))), ?_⟩
    have hl := hz.len
    refine ⟨⟨_, rfl⟩, ?_⟩
    walk_at "rd"
    intro D hD
    refine lc_it walk_str (fun i H2 => Keep2 b D H H2 ∧ BagAt H2 b c ∧ ∃ cs : List Nat, H2 D = some (.lst ((cs.map sg).map V.str)) ∧ cs.Sublist ((cl z).take i)) ?_ (fun _ _ _ _ => trivial) ?_ ?_
    · exact ⟨Keep2.of2 KeepB.put, bag_upd hb hD, [], upd_same, List.nil_sublist _⟩
    · rintro i _ H2 _ hi ⟨k2, b2, cs, hDl, hs⟩ ⟨rfl, x, hx, rfl⟩
      have hcsl : cs.length ≤ 6 := by
        have h1 := hs.length_le
        rw [List.length_take] at h1
        have h2 := cl_len z
        omega
      have htk : (cl z).take (i + 1) = (cl z).take i ++ [x] := by
        rw [List.take_add_one, cl_get hx]; rfl
      walk_at "rd"
      refine ⟨b, c, 2, rfl, b2, by omega, by omega, fun r H3 k3 b3 r0 r1 => ?_⟩
      have hD3 : H3 D = some (.lst ((cs.map sg).map V.str)) := k3 _ _ (hb.neb hD) hDl
      walk_at "rd"
      refine iteI (fun _ => ?_) (fun _ => ?_)
      · walk_at "rd"
        refine ⟨_, hD3, szt (by rw [List.length_map, List.length_map]; omega), ?_, ?_, cs ++ [x], ?_, ?_⟩
        · exact (k2.trans (Keep2.of k3)).trans (Keep2.of2 KeepB.put)
        · exact bag_keep b3 KeepB.put (hb.neb hD) (hb.nec hD)
        · rw [upd_same, List.map_append, List.map_append]; rfl
        · rw [htk]; exact hs.append (List.Sublist.refl _)
      · refine ⟨k2.trans (Keep2.of k3), b3, cs, hD3, ?_⟩
        rw [htk]; exact hs.trans (List.sublist_append_left _ _)
    · rintro H2 ⟨k2, b2, cs, hDl, hs⟩
      have hs : cs.Sublist (cl z) := by
        rwa [show z.cps.size = (cl z).length from rfl, List.take_length] at hs
      have hcsl : cs.length ≤ 6 := by
        have h1 := hs.length_le
        have h2 := cl_len z
        omega
      have hj : ((cs.map sg).map (·.length)).sum + (cs.map sg).length * (Str.ofString "").length ≤ 16777216 := by
        rw [sum_ones]; omega
      refine ⟨_, _, cs.map sg, rfl, rfl, .inl (SqL.of hDl), hj, ?_⟩
      rw [join_signs]
      walk_at "rd"
      by_cases hn : cs = []
      · subst hn
        refine ⟨false, ⟨szl (by decide), rfl⟩, ?_⟩
        walk_at "rd"
        refine ⟨b, c, z.length, rfl, b2, by omega, by omega, fun r H3 k3 b3 r0 r1 => ?_⟩
        obtain ⟨x, hx, ex⟩ := at_mem (xs := cl z) r0 (by rw [cl_len]; exact r1)
        refine ⟨_, _, x, rfl, rfl, szl (by omega), ex, ?_⟩
        exact k _ H3 ((k2.free hD).trans k3) b3 (choice_sub (cs := [x]) hz (List.singleton_sublist.mpr hx) (by simp))
      · refine ⟨true, ⟨szl (by rw [len_of]; omega), ?_⟩, ?_⟩
        · rw [len_of]
          have : cs.length ≠ 0 := fun e => hn (List.eq_nil_of_length_eq_zero e)
          simp [this]
        · exact k _ H2 (k2.free hD) b2 (choice_sub hz hs hn)
def sp_law_word : Sp := fun vs H Q _ => ∃ (b c : Addr) (z : Str) (m : Int), vs = [.ref b, .str z, .int m] ∧ BagAt H b c ∧ SignsOk z ∧ 0 ≤ m ∧ m ≤ 1000 ∧
  ∀ (cs : List Nat) (H' : Hp), KeepB b H H' → BagAt H' b c → (∀ x ∈ cs, x ∈ cl z) → (cs.length : Int) = m → Q (.str ⟨cs.toArray⟩) H'
theorem ok_law_word (T : Txt K mg) : FnOk P w K mg base CX0 2 T.f_law_word T.d_law_word ["_law_bag_here", "_law_signs_here", "_law_many"] sp_law_word := by
  have nd := sc_law_word.nd
  refine T.F_law_word.ok sc_law_word (fun vs H Q E h => ?_) (fun cdv A outer s H vs Q E hr h => ?_)
  · obtain ⟨b, c, z, m, rfl, _⟩ := h
    rfl
  · obtain ⟨b, c, z, m, rfl, hb, hz, m0, m1, k⟩ := h
    refine ⟨_, (pss_one (ps_ret (pe_join pe_str (pe_lc (own := [("_law_k", 3)]) (g := gName 3) (by rfl) nd (pi_range1 (by rfl) T.n_range (pa_cons (pv 2) pa_nil)) (blkOk_by (own := [("_law_k", 3)]) (N := N_law_word) (sc := defScope s_law_word) (by decide +kernel)) (fun _ _ _ _ _ => (pg_name (i := 3) nd rfl (Or.inl rfl))) (fun _ _ _ _ _ => pts_nil) (fun _ _ _ _ _ => (pe_ix ix_str (pv 1) (pe_call (ok_law_take T) (hr.mono (by decide)) (by rfl) T.m_law_take T.F_law_take.kp T.b_law_take .nil pass0 (pa_cons (pv 0) (pa_cons (pe_callB (id := "len") (call_lenK (K := K) rfl) (by rfl) T.n_len (by decide +kernel) (pa_cons (pv 1) pa_nil)) pa_nil))) (fun _ _ => rfl))))))), ?_⟩
    have hl := hz.len
    refine ⟨⟨_, rfl⟩, ?_⟩
    walk_at "rd"
    intro D hD
    refine lc_range (lo := 0) (n := m.toNat) (fun i H2 => Keep2 b D H H2 ∧ BagAt H2 b c ∧ ∃ cs : List Nat, H2 D = some (.lst ((cs.map sg).map V.str)) ∧ cs.length = i ∧ ∀ x ∈ cs, x ∈ cl z) ?_ ?_ ?_
    · exact ⟨Keep2.of2 KeepB.put, bag_upd hb hD, [], upd_same, rfl, fun _ h => nomatch h⟩
    · rintro i H2 hi ⟨k2, b2, cs, hDl, hcs, hin⟩
      walk_at "rd"
      refine ⟨b, c, z.length, rfl, b2, by omega, by omega, fun r H3 k3 b3 r0 r1 => ?_⟩
      obtain ⟨x, hx, ex⟩ := at_mem (xs := cl z) r0 (by rw [cl_len]; exact r1)
      refine ⟨_, _, x, rfl, rfl, szl (by omega), ex, ?_⟩
      have hD3 : H3 D = some (.lst ((cs.map sg).map V.str)) := k3 _ _ (hb.neb hD) hDl
      refine ⟨_, hD3, szt (by rw [List.length_map, List.length_map]; omega), ?_, ?_, cs ++ [x], ?_, ?_, ?_⟩
      · exact (k2.trans (Keep2.of k3)).trans (Keep2.of2 KeepB.put)
      · exact bag_keep b3 KeepB.put (hb.neb hD) (hb.nec hD)
      · rw [upd_same, List.map_append, List.map_append]; rfl
      · rw [List.length_append, hcs]; rfl
      · intro y h'
        rcases List.mem_append.mp h' with h' | h'
        · exact hin y h'
        · rw [List.mem_singleton.mp h']; exact hx
    · rintro H2 ⟨k2, b2, cs, hDl, hcs, hin⟩
      have hj : ((cs.map sg).map (·.length)).sum + (cs.map sg).length * (Str.ofString "").length ≤ 16777216 := by
        rw [sum_ones]; omega
      refine ⟨_, _, cs.map sg, rfl, rfl, .inl (SqL.of hDl), hj, ?_⟩
      rw [join_signs]
      exact k cs H2 (k2.free hD) b2 hin (by omega)
def sp_law_free_token (K : PySem.W.Frag) : Sp := fun vs H Q _ => ∃ (b c : Addr) (z : Str) (m : Int), vs = [.ref b, .str z, .int m] ∧ BagAt H b c ∧ SignsOk z ∧ 1 ≤ m ∧ m ≤ 40 ∧
  ∀ (v : V) (t : List V) (H' : Hp), KeepB b H H' → BagAt H' b c → TokAt K H' z v t → sizeV t ≤ m → Q v H'
theorem ok_law_free_token (T : Txt K mg) : FnOk P w K mg base CX0 3 T.f_law_free_token T.d_law_free_token ["_law_bag_here", "_law_signs_here", "_law_room"] (sp_law_free_token K) := by
  have nd := sc_law_free_token.nd
  refine T.F_law_free_token.ok sc_law_free_token (fun vs H Q E h => ?_) (fun cdv A outer s H vs Q E hr h => ?_)
  · obtain ⟨b, c, z, m, rfl, _⟩ := h
    rfl
  · obtain ⟨b, c, z, m, rfl, hb, hz, m0, m1, k⟩ := h
    refine ⟨_, (pss_cons (ps_par3 (i := 3) (j := 4) (l := 5) (by rfl) nd rfl rfl rfl (by decide) (by decide) (by decide) rfl rfl rfl (pa_cons (pe_call (ok_law_take T) (hr.mono (by decide)) (by rfl) T.m_law_take T.F_law_take.kp T.b_law_take .nil pass0 (pa_cons (pv 0) (pa_cons pe_int pa_nil))) (pa_cons (pe_op op_add pe_int (pe_call (ok_law_take T) (hr.mono (by decide)) (by rfl) T.m_law_take T.F_law_take.kp T.b_law_take .nil pass0 (pa_cons (pv 0) (pa_cons (pv 2) pa_nil)))) (pa_cons (pe_op op_add pe_int (pe_call (ok_law_take T) (hr.mono (by decide)) (by rfl) T.m_law_take T.F_law_take.kp T.b_law_take .nil pass0 (pa_cons (pv 0) (pa_cons pe_int pa_nil)))) pa_nil))) (by rfl))
    (pss_cons (ps_if (pt_cmpR op_lt (pv 3) pe_int (nomark _)) (pss_one (ps_ret (pe_tup (pa_cons pe_str (pa_cons (pv 5) (pa_cons (pv 4) pa_nil)))))) pss_nil)
    (pss_cons (ps_if (pt_cmpR op_eq (pv 3) pe_int (nomark _)) (pss_one (ps_ret (pe_tup (pa_cons pe_str (pa_cons (pv 5) (pa_cons (pv 4) pa_nil)))))) pss_nil)
    (pss_cons (ps_if (pt_cmpR (op_in_seqK (K := K) rfl) (pv 3) (pe_tup (pa_cons pe_int (pa_cons pe_int pa_nil))) (by rfl)) (pss_one (ps_ret (pe_tup (pa_cons pe_str (pa_cons (pe_call (ok_law_choice T) (hr.mono (by decide)) (by rfl) T.m_law_choice T.F_law_choice.kp T.b_law_choice .nil pass0 (pa_cons (pv 0) (pa_cons (pv 1) pa_nil))) pa_nil))))) pss_nil)
    (pss_cons (ps_if (pt_cmpR op_eq (pv 3) pe_int (nomark _)) (pss_one (ps_ret (pe_tup (pa_cons pe_str pa_nil)))) pss_nil)
    (pss_one (ps_ret (pe_tup (pa_cons pe_str (pa_cons (pe_call (ok_law_word T) (hr.mono (by decide)) (by rfl) T.m_law_word T.F_law_word.kp T.b_law_word .nil pass0 (pa_cons (pv 0) (pa_cons (pv 1) (pa_cons (pe_ifExp (pt_cmpR op_eq (pe_call (ok_law_take T) (hr.mono (by decide)) (by rfl) T.m_law_take T.F_law_take.kp T.b_law_take .nil pass0 (pa_cons (pv 0) (pa_cons pe_int pa_nil))) pe_int (nomark _)) (pv 4) (pe_callB (id := "min") (call_min2 rfl) (by rfl) T.n_min (by decide +kernel) (pa_cons (pv 4) (pa_cons pe_int pa_nil)))) pa_nil)))) pa_nil)))))))))), ?_⟩
    have hl := hz.len
    refine ⟨_, rfl, ?_⟩
    walk_at "rd"
    refine ⟨b, c, 8, rfl, hb, by decide, by decide, fun r1 H1 k1 b1 r10 r11 => ?_⟩
    walk_at "rd"
    refine ⟨b, c, m, rfl, b1, by omega, by omega, fun r2 H2 k2 b2 r20 r21 => ?_⟩
    walk_at "rd"
    refine ⟨b, c, 12, rfl, b2, by decide, by decide, fun r3 H3 k3 b3 r30 r31 => ?_⟩
    walk_at "rd"
    have kk := (k1.trans k2).trans k3
    refine ⟨_, _, _, rfl, ?_⟩
    walk_at "rd"
    refine iteD (fun hw => ?_) (fun hw => ?_)
    · walk_at "rd"
      intro p hp
      exact k _ _ _ (kk.trans (KeepB.new hp)) (bag_upd b3 hp) ⟨⟨p, rfl, SqT.of upd_same⟩, tok_copy (by omega) (by omega) (by omega) (by omega)⟩ (show 1 + r2 ≤ m by omega)
    · walk_at "rd"
      refine iteI (fun hw2 => ?_) (fun hw2 => ?_)
      · walk_at "rd"
        intro p hp
        exact k _ _ _ (kk.trans (KeepB.new hp)) (bag_upd b3 hp) ⟨⟨p, rfl, SqT.of upd_same⟩, tok_say (by omega) (by omega) (by omega) (by omega)⟩ (show 1 + r2 ≤ m by omega)
      · walk_at "rd"
        intro p hp
        refine ⟨p, _, rfl, .inr (SqT.of upd_same), rfl, rfl, ?_⟩
        walk_at "rd"
        refine iteK (fun hw3 => ?_) (fun hw3 => ?_)
        · walk_at "rd"
          refine ⟨b, c, z, rfl, bag_upd b3 hp, hz, fun y H4 k4 b4 hy => ?_⟩
          walk_at "rd"
          intro q hq
          exact k _ _ _ (((kk.trans (KeepB.new hp)).trans k4).trans (KeepB.new hq)) (bag_upd b4 hq) ⟨⟨q, rfl, SqT.of upd_same⟩, tok_any hy⟩ (by rw [sizeV_any]; omega)
        · walk_at "rd"
          refine iteI (fun hw4 => ?_) (fun hw4 => ?_)
          · walk_at "rd"
            intro q hq
            exact k _ _ _ ((kk.trans (KeepB.new hp)).trans (KeepB.new hq)) (bag_upd (bag_upd b3 hp) hq) ⟨⟨q, rfl, SqT.of upd_same⟩, tok_flush⟩ (show (0 : Int) ≤ m by omega)
          · walk_at "rd"
            refine ⟨b, c, 4, rfl, bag_upd b3 hp, by decide, by decide, fun r4 H4 k4 b4 r40 r41 => ?_⟩
            walk_at "rd"
            have fin : ∀ (n : Int) (cs : List Nat) (H5 : Hp), 1 ≤ n → n ≤ m → KeepB b H4 H5 → BagAt H5 b c → (∀ x ∈ cs, x ∈ cl z) → (cs.length : Int) = n → ∀ q, H5 q = none → Q (.ref q) (upd H5 q (.tup [.str "text", .str ⟨cs.toArray⟩])) := fun n cs H5 n0 n1 k5 b5 hcs hn q hq => by
              refine k _ _ _ ((((kk.trans (KeepB.new hp)).trans k4).trans k5).trans (KeepB.new hq)) (bag_upd b5 hq) ⟨⟨q, rfl, SqT.of upd_same⟩, tok_text (over_of hcs) (by rw [len_of]; omega) (by rw [len_of]; omega)⟩ ?_
              rw [sizeV_text, len_of]
              omega
            refine iteI (fun hw5 => ?_) (fun hw5 => ?_)
            · walk_at "rd"
              refine ⟨b, c, z, 1 + r2, rfl, b4, hz, by omega, by omega, fun cs H5 k5 b5 hcs hn => ?_⟩
              walk_at "rd"
              intro q hq
              exact fin (1 + r2) cs H5 (by omega) (by omega) k5 b5 hcs hn q hq
            · walk_at "rd"
              refine ⟨_, _, rfl, ?_⟩
              walk_at "rd"
              refine ⟨b, c, z, (if 3 < 1 + r2 then 3 else 1 + r2), rfl, b4, hz, by split <;> omega, by split <;> omega, fun cs H5 k5 b5 hcs hn => ?_⟩
              walk_at "rd"
              intro q hq
              exact fin _ cs H5 (by split <;> omega) (by split <;> omega) k5 b5 hcs hn q hq
def sp_law_size (K : PySem.W.Frag) : Sp := fun vs H Q _ => ∃ (a : Addr) (xs : List V) (z : Str), vs = [.ref a] ∧ SqT K H a xs ∧ tokV z xs = true ∧ ∀ H', Same H H' → Q (.int (sizeV xs)) H'
theorem ok_law_size (T : Txt K mg) : FnOk P w K mg base CX0 1 T.f_law_size T.d_law_size ["_law_token"] (sp_law_size K) := by
  have nd := sc_law_size.nd
  refine T.F_law_size.ok sc_law_size (fun vs H Q E h => ?_) (fun cdv A outer s H vs Q E hr h => ?_)
  · obtain ⟨a, xs, z, rfl, _⟩ := h
    rfl
  · obtain ⟨a, xs, z, rfl, ha, ht, k⟩ := h
    refine ⟨_, (pss_cons (ps_if (pt_cmpR op_eq (pe_ix (ix_tupK (K := K) rfl) (pv 0) pe_int (fun _ _ => rfl)) pe_str (nomark _)) (pss_one (ps_ret (pe_callB (id := "len") (call_lenK (K := K) rfl) (by rfl) T.n_len (by decide +kernel) (pa_cons (pe_ix (ix_tupK (K := K) rfl) (pv 0) pe_int (fun _ _ => rfl)) pa_nil)))) pss_nil)
    (pss_one (ps_ret (pe_ifExp (pt_cmpR (op_in_seqK (K := K) rfl) (pe_ix (ix_tupK (K := K) rfl) (pv 0) pe_int (fun _ _ => rfl)) (pe_tup (pa_cons pe_str (pa_cons pe_str pa_nil))) (by rfl)) (pe_dget (hu_of hr) (pe_disp (pps_cons pe_str pe_int (pps_cons pe_str pe_int pps_nil)) (by rfl) (by rfl) (fun z => by cases z) (by decide)) (pe_ix (ix_tupK (K := K) rfl) (pv 0) pe_int (fun _ _ => rfl)) (fun _ _ => rfl)) (pe_ix (ix_tupK (K := K) rfl) (pv 0) pe_int (fun _ _ => rfl)))))), ?_⟩
    obtain ⟨kd, rest, rfl, hk⟩ := tok_inv ht
    rcases hk with ⟨rfl, rfl⟩ | ⟨y, rfl, rfl, h1, h2, h3⟩ | ⟨y, rfl, rfl, h1⟩ | ⟨d, n, hkd, rfl, h1, h2, h3, h4⟩
    · walk_at "rd"
      walk_at "ks"
      walk_at "rd"
      intro p hp
      refine ⟨p, _, rfl, .inr (SqT.of upd_same), rfl, rfl, ?_⟩
      have e : (if false = true then !inV (V.str "flush") [V.str "any", V.str "flush"] else inV (V.str "flush") [V.str "any", V.str "flush"]) = true := by decide +kernel
      rw [e]
      walk_at "rd"
      intro d hd
      refine ⟨upd_same, [(Sum.inr "any", .int 1), (Sum.inr "flush", .int 0)], rfl, by decide, ?_⟩
      have e1 : mergeK [] [((Sum.inr "any" : Key), V.int 1), (Sum.inr "flush", .int 0)] = [((Sum.inr "any" : Key), V.int 1), (Sum.inr "flush", .int 0)] := by decide +kernel
      rw [e1]
      have sm : Same H (upd (upd (upd H p (.tup [V.str "any", V.str "flush"])) d (.dK [])) d (.dK [((Sum.inr "any" : Key), V.int 1), (Sum.inr "flush", .int 0)])) := by
        rw [upd_upd]
        exact (same_new hp).trans (same_new hd)
      have ha' := sqT_same sm ha
      walk_at "rd"
      have dg := DGet.k (k := (Sum.inr "flush" : Key)) (upd_same (H := upd (upd H p (.tup [V.str "any", V.str "flush"])) d (.dK [])) (a := d) (o := .dK [((Sum.inr "any" : Key), V.int 1), (Sum.inr "flush", .int 0)]))
      have e2 : valV [((Sum.inr "any" : Key), V.int 1), (Sum.inr "flush", .int 0)] (Sum.inr "flush") = some (.int 0) := by decide +kernel
      rw [e2] at dg
      refine ⟨d, _, rfl, dg, ?_⟩
      exact k _ sm
    · walk_at "rd"
      walk_at "ks"
      walk_at "rd"
      rw [sizeV_text] at k
      exact k _ (Same.refl _)
    · walk_at "rd"
      walk_at "ks"
      walk_at "rd"
      intro p hp
      refine ⟨p, _, rfl, .inr (SqT.of upd_same), rfl, rfl, ?_⟩
      have e : (if false = true then !inV (V.str "any") [V.str "any", V.str "flush"] else inV (V.str "any") [V.str "any", V.str "flush"]) = true := by decide +kernel
      rw [e]
      walk_at "rd"
      intro d hd
      refine ⟨upd_same, [(Sum.inr "any", .int 1), (Sum.inr "flush", .int 0)], rfl, by decide, ?_⟩
      have e1 : mergeK [] [((Sum.inr "any" : Key), V.int 1), (Sum.inr "flush", .int 0)] = [((Sum.inr "any" : Key), V.int 1), (Sum.inr "flush", .int 0)] := by decide +kernel
      rw [e1]
      have sm : Same H (upd (upd (upd H p (.tup [V.str "any", V.str "flush"])) d (.dK [])) d (.dK [((Sum.inr "any" : Key), V.int 1), (Sum.inr "flush", .int 0)])) := by
        rw [upd_upd]
        exact (same_new hp).trans (same_new hd)
      have ha' := sqT_same sm ha
      walk_at "rd"
      have dg := DGet.k (k := (Sum.inr "any" : Key)) (upd_same (H := upd (upd H p (.tup [V.str "any", V.str "flush"])) d (.dK [])) (a := d) (o := .dK [((Sum.inr "any" : Key), V.int 1), (Sum.inr "flush", .int 0)]))
      have e2 : valV [((Sum.inr "any" : Key), V.int 1), (Sum.inr "flush", .int 0)] (Sum.inr "any") = some (.int 1) := by decide +kernel
      rw [e2] at dg
      refine ⟨d, _, rfl, dg, ?_⟩
      rw [sizeV_any] at k
      exact k _ sm
    · have go : ∀ kd : Str, inV (V.str kd) [V.str "any", V.str "flush"] = false → (if false = true then !inV (V.str kd) [V.str "any", V.str "flush"] else inV (V.str kd) [V.str "any", V.str "flush"]) = false := fun kd h => by
        rw [if_neg Bool.false_ne_true]; exact h
      rcases hkd with rfl | rfl
      · walk_at "rd"
        walk_at "ks"
        walk_at "rd"
        intro p hp
        refine ⟨p, _, rfl, .inr (SqT.of upd_same), rfl, rfl, ?_⟩
        rw [go _ (by decide +kernel)]
        walk_at "rd"
        refine ⟨_, _, _, _, rfl, rfl, sqT_same (same_new hp) ha, rfl, ?_⟩
        exact k _ (same_new hp)
      · walk_at "rd"
        walk_at "ks"
        walk_at "rd"
        intro p hp
        refine ⟨p, _, rfl, .inr (SqT.of upd_same), rfl, rfl, ?_⟩
        rw [go _ (by decide +kernel)]
        walk_at "rd"
        refine ⟨_, _, _, _, rfl, rfl, sqT_same (same_new hp) ha, rfl, ?_⟩
        exact k _ (same_new hp)
def sp_law_wide (K : PySem.W.Frag) : Sp := fun vs H Q _ => ∃ (l : Addr) (tvs : List V) (ts : List (List V)) (z : Str), vs = [.ref l] ∧ SqL K H l tvs ∧ Toks K H z tvs ts ∧ ts.length ≤ 1000 ∧ ∀ H', Same H H' → Q (.int (tsize ts)) H'
theorem ok_law_wide (T : Txt K mg) : FnOk P w K mg base CX0 2 T.f_law_wide T.d_law_wide ["_law_tokens"] (sp_law_wide K) := by
  have nd := sc_law_wide.nd
  refine T.F_law_wide.ok sc_law_wide (fun vs H Q E h => ?_) (fun cdv A outer s H vs Q E hr h => ?_)
  · obtain ⟨l, tvs, ts, z, rfl, _⟩ := h
    rfl
  · obtain ⟨l, tvs, ts, z, rfl, hl, htk, hn, k⟩ := h
    refine ⟨_, (pss_one (ps_ret (pe_callB (id := "sum") (cr_sum rfl) (by rfl) T.n_sum (by decide +kernel) (pa_cons (pe_lc (own := [("_law_token", 1)]) (g := gName 1) (by rfl) nd (pi_list (pv 0)) (blkOk_by (own := [("_law_token", 1)]) (N := N_law_wide) (sc := defScope s_law_wide) (by decide +kernel)) (fun _ _ _ _ _ => (pg_name (i := 1) nd rfl (Or.inl rfl))) (fun _ _ _ _ _ => pts_nil) (fun _ _ _ _ _ => (pe_call (ok_law_size T) (hr.mono (by decide)) (by rfl) T.m_law_size T.F_law_size.kp T.b_law_size .nil pass0 (pa_cons (pv 1) pa_nil)))) pa_nil)))), ?_⟩
    have hlen := paired_len htk
    walk_at "rd"
    refine ⟨⟨_, hl⟩, ?_⟩
    intro D hD
    refine lc_list (K := K) (a := l) (xs := tvs) (Acc ts (fun t => .int (sizeV t)) H D) (Acc.start _ _ _ _) (fun i H3 _ ka2 => (ka2.same hD).seq hl) ?_ ?_
    · intro i v H3 hv ka
      obtain ⟨t, ht, ⟨⟨a, rfl, ha⟩, hok⟩⟩ := paired_get htk hv
      walk_at "rd"
      refine ⟨a, t, z, rfl, sqT_same (ka.same hD) ha, hok, fun H4 s4 => ?_⟩
      exact ka.step (KeepB.of_same s4) ((s4 _ _ ka.2).trans ka.2.symm) ht (by omega) rfl
    · rw [hlen]
      intro H3 ka
      refine ⟨_, ts.map sizeV, rfl, SqL.of (by rw [List.map_map]; exact Acc.all ka), ?_⟩
      exact k _ (ka.same hD)
def sp_law_free_tokens (K : PySem.W.Frag) : Sp := fun vs H Q _ => ∃ (b c : Addr) (z : Str) (m : Int), vs = [.ref b, .str z, .int m] ∧ BagAt H b c ∧ SignsOk z ∧ 1 ≤ m ∧ m ≤ 40 ∧
  ∀ (l : Addr) (tvs : List V) (ts : List (List V)) (H' : Hp), KeepB b H H' → BagAt H' b c → H l = none → l ≠ b → H' l = some (.lst tvs) → Toks K H' z tvs ts → ts.length ≤ 20 → 1 ≤ tsize ts → tsize ts ≤ m → Q (.ref l) H'
theorem ok_law_free_tokens (T : Txt K mg) : FnOk P w K mg base CX0 4 T.f_law_free_tokens T.d_law_free_tokens ["_law_bag_here", "_law_signs_here", "_law_most"] (sp_law_free_tokens K) := by
  have nd := sc_law_free_tokens.nd
  refine T.F_law_free_tokens.ok sc_law_free_tokens (fun vs H Q E h => ?_) (fun cdv A outer s H vs Q E hr h => ?_)
  · obtain ⟨b, c, z, m, rfl, _⟩ := h
    rfl
  · obtain ⟨b, c, z, m, rfl, hb, hz, m0, m1, k⟩ := h
    refine ⟨_, (pss_cons (ps_set (i := 3) nd rfl (Or.inl rfl) (pe_lst pa_nil))
    (pss_cons (ps_for PassesOwn.never rfl (pi_range1 (by rfl) T.n_range (pa_cons (pe_op op_add pe_int (pe_call (ok_law_take T) (hr.mono (by decide)) (by rfl) T.m_law_take T.F_law_take.kp T.b_law_take .nil pass0 (pa_cons (pv 0) (pa_cons pe_int pa_nil)))) pa_nil)) (pg_name (i := 4) nd rfl (Or.inl rfl)) (pss_one (ps_if (pt_cmpR op_lt (pe_call (ok_law_wide T) (hr.mono (by decide)) (by rfl) T.m_law_wide T.F_law_wide.kp T.b_law_wide .nil pass0 (pa_cons (pv 3) pa_nil)) (pv 2) (nomark _)) (pss_one (ps_expr (pe_bm PySem.F.plainAttrs_list PySem.F.slot_list_append PySem.F.type_list_append mt_append (pv 3) (pa_cons (pe_call (ok_law_free_token T) (hr.mono (by decide)) (by rfl) T.m_law_free_token T.F_law_free_token.kp T.b_law_free_token .nil pass0 (pa_cons (pv 0) (pa_cons (pv 1) (pa_cons (pe_callB (id := "min") (call_min2 rfl) (by rfl) T.n_min (by decide +kernel) (pa_cons (pe_op op_sub (pv 2) (pe_call (ok_law_wide T) (hr.mono (by decide)) (by rfl) T.m_law_wide T.F_law_wide.kp T.b_law_wide .nil pass0 (pa_cons (pv 3) pa_nil))) (pa_cons (pe_ix (ix_listK (K := K) rfl) (pe_lst (pa_cons pe_int (pa_cons pe_int (pa_cons pe_int pa_nil)))) (pe_call (ok_law_take T) (hr.mono (by decide)) (by rfl) T.m_law_take T.F_law_take.kp T.b_law_take .nil pass0 (pa_cons (pv 0) (pa_cons pe_int pa_nil))) (fun _ _ => rfl)) pa_nil))) pa_nil)))) pa_nil)))) pss_nil)))
    (pss_cons (ps_if (pt_cmpR op_eq (pe_call (ok_law_wide T) (hr.mono (by decide)) (by rfl) T.m_law_wide T.F_law_wide.kp T.b_law_wide .nil pass0 (pa_cons (pv 3) pa_nil)) pe_int (nomark _)) (pss_one (ps_expr (pe_bm PySem.F.plainAttrs_list PySem.F.slot_list_insert PySem.F.type_list_insert mt_insert (pv 3) (pa_cons (pe_call (ok_law_take T) (hr.mono (by decide)) (by rfl) T.m_law_take T.F_law_take.kp T.b_law_take .nil pass0 (pa_cons (pv 0) (pa_cons (pe_op op_add (pe_callB (id := "len") (call_lenK (K := K) rfl) (by rfl) T.n_len (by decide +kernel) (pa_cons (pv 3) pa_nil)) pe_int) pa_nil))) (pa_cons (pe_tup (pa_cons pe_str (pa_cons (pe_ix ix_str (pv 1) (pe_call (ok_law_take T) (hr.mono (by decide)) (by rfl) T.m_law_take T.F_law_take.kp T.b_law_take .nil pass0 (pa_cons (pv 0) (pa_cons (pe_callB (id := "len") (call_lenK (K := K) rfl) (by rfl) T.n_len (by decide +kernel) (pa_cons (pv 1) pa_nil)) pa_nil))) (fun _ _ => rfl)) pa_nil))) pa_nil))))) pss_nil)
    (pss_one (ps_ret (pv 3)))))), ?_⟩
    have hzl := hz.len
    walk_at "rd"
    intro D hD
    have nDb := hb.neb hD
    have nDc := hb.nec hD
    walk_at "rd"
    refine ⟨b, c, 9, rfl, bag_upd hb hD, by decide, by decide, fun r H1 k1 b1 r0 r1 => ?_⟩
    walk_at "rd"
    have hD1 : H1 D = some (.lst []) := k1 _ _ nDb upd_same
    refine for_range (lo := 0) (n := (1 + r).toNat) (fun i σ H2 => ∃ (kv : Option V) (tvs : List V) (ts : List (List V)), σ = [some (.ref b), some (.str z), some (.int m), some (.ref D), kv] ∧ Keep2 b D H H2 ∧ BagAt H2 b c ∧ H2 D = some (.lst tvs) ∧ Toks K H2 z tvs ts ∧ ts.length ≤ i ∧ tsize ts ≤ m) ?_ ?_ ?_
    · exact ⟨none, [], [], rfl, (Keep2.of2 KeepB.put).trans (Keep2.of k1), b1, hD1, .nil, Nat.le_refl _, by rw [tsize_nil]; omega⟩
    · rintro i σ H2 hi ⟨kv, tvs, ts, rfl, k2, b2, hD2, htk, hn, hm⟩
      have hlen := paired_len htk
      walk_at "rd"
      refine ⟨D, tvs, ts, z, rfl, SqL.of hD2, htk, by omega, fun H3 s3 => ?_⟩
      walk_at "rd"
      refine iteD (fun hlt => ?_) (fun hlt => ?_)
      · walk_at "rd"
        have hD3 := s3 _ _ hD2
        have b3 := bag_same b2 s3
        have htk3 := htk.same s3
        try refine ⟨Or.inl ⟨rfl, _, SqL.of hD3⟩, ?_⟩
        walk_at "rd"
        refine ⟨D, tvs, ts, z, rfl, SqL.of hD3, htk3, by omega, fun H4 s4 => ?_⟩
        walk_at "rd"
        intro p hp
        have s5 := s4.trans (same_new (o := .lst [.int 3, .int 3, .int 40]) hp)
        walk_at "rd"
        refine ⟨b, c, 3, rfl, bag_same b3 s5, by decide, by decide, fun r3 H5 k5 b5 r30 r31 => ?_⟩
        obtain ⟨v, hv, v3, v40⟩ : ∃ v : Int, atI [V.int 3, V.int 3, V.int 40] r3 = some (V.int v) ∧ 3 ≤ v ∧ v ≤ 40 := by
          obtain ⟨v, hv, e⟩ := at3 (x := .int 3) (y := .int 3) (z := .int 40) r30 r31
          rcases e with rfl | rfl | rfl
          · exact ⟨3, hv, by decide, by decide⟩
          · exact ⟨3, hv, by decide, by decide⟩
          · exact ⟨40, hv, by decide, by decide⟩
        have npb : p ≠ b := (bag_same b3 s4).neb hp
        have hs0 := tsize_nn htk.ok
        refine ⟨_, _, _, _, rfl, rfl, SqL.of (k5 _ _ npb upd_same), hv, ?_⟩
        walk_at "rd"
        refine ⟨_, _, rfl, ?_⟩
        walk_at "rd"
        refine ⟨b, c, z, _, rfl, b5, hz, by split <;> omega, by split <;> omega, fun tv t H6 k6 b6 htt hsz => ?_⟩
        have k56 := k5.trans k6
        have hD6 : H6 D = some (.lst tvs) := k56 _ _ nDb (s5 _ _ hD3)
        refine ⟨D, tvs, tv, rfl, rfl, hD6, szt (by omega), ?_⟩
        have htk6 := (htk3.same s5).keep k56 (bag_same b3 s5).lst
        refine ⟨_, tvs ++ [tv], ts ++ [t], rfl, ?_, bag_keep b6 KeepB.put nDb nDc, upd_same, ?_, ?_, ?_⟩
        · exact (k2.trans ((Keep2.of (KeepB.of_same (s3.trans s5))).trans (Keep2.of k56))).trans (Keep2.of2 KeepB.put)
        · exact Toks.keep KeepB.put (lst_lst hD6) (paired_app htk6 (paired_one htt))
        · rw [List.length_append, List.length_singleton]; omega
        · rw [tsize_app, tsize_one]
          split at hsz <;> omega
      · walk_at "rd"
        exact ⟨_, tvs, ts, rfl, k2.trans (Keep2.of (KeepB.of_same s3)), bag_same b2 s3, s3 _ _ hD2, htk.same s3, by omega, hm⟩
    · rintro σ H2 ⟨kv, tvs, ts, rfl, k2, b2, hD2, htk, hn, hm⟩
      have hlen := paired_len htk
      have hs0 := tsize_nn htk.ok
      walk_at "rd"
      refine ⟨D, tvs, ts, z, rfl, SqL.of hD2, htk, by omega, fun H3 s3 => ?_⟩
      have hD3 := s3 _ _ hD2
      have b3 := bag_same b2 s3
      have htk3 := htk.same s3
      walk_at "rd"
      refine iteI (fun hw => ?_) (fun hw => ?_)
      · walk_at "rd"
        try refine ⟨Or.inl ⟨rfl, _, SqL.of hD3⟩, ?_⟩
        walk_at "rd"
        refine ⟨b, c, tvs.length + 1, rfl, b3, by omega, by omega, fun r4 H4 k4 b4 r40 r41 => ?_⟩
        walk_at "rd"
        refine ⟨b, c, z.length, rfl, b4, by omega, by omega, fun r5 H5 k5 b5 r50 r51 => ?_⟩
        obtain ⟨x, hx, ex⟩ := at_mem (xs := cl z) r50 (by rw [cl_len]; exact r51)
        refine ⟨_, _, x, rfl, rfl, szl (by omega), ex, ?_⟩
        walk_at "rd"
        intro p hp
        have k45 := (k4.trans k5).trans (KeepB.new (o := .tup [.str "text", .str (sg x)]) hp)
        have hD5 := k45 _ _ nDb hD3
        refine ⟨D, tvs, r4, _, rfl, rfl, hD5, szt (by omega), r40, by omega, ?_⟩
        walk_at "rd"
        have hle : r4.toNat ≤ ts.length := by omega
        have htok : TokAt K (upd H5 p (.tup [.str "text", .str (sg x)])) z (.ref p) [.str "text", .str (sg x)] := ⟨TupAt.new, tok_sign hx⟩
        have htk5 := htk3.keep k45 b3.lst
        have e := congrArg tsize (List.take_append_drop r4.toNat ts)
        rw [tsize_app] at e
        refine k D _ (ts.take r4.toNat ++ [[.str "text", .str (sg x)]] ++ ts.drop r4.toNat) _ ?_ (bag_keep (bag_upd b5 hp) KeepB.put nDb nDc) hD nDb upd_same ?_ ?_ ?_ ?_
        · exact ((k2.trans ((Keep2.of (KeepB.of_same s3)).trans (Keep2.of k45))).trans (Keep2.of2 KeepB.put)).free hD
        · exact Toks.keep KeepB.put (lst_lst hD5) (paired_app (paired_app (paired_take _ htk5) (paired_one htok)) (paired_drop _ htk5))
        · rw [List.length_append, List.length_append, List.length_take, List.length_drop, List.length_singleton]; omega
        · rw [tsize_app, tsize_app, tsize_one, size_sign]; omega
        · rw [tsize_app, tsize_app, tsize_one, size_sign]; omega
      · walk_at "rd"
        exact k D tvs ts _ ((k2.trans (Keep2.of (KeepB.of_same s3))).free hD) b3 hD nDb hD3 htk3 (by omega) (by omega) hm
def sp_Piece_tokens (K : PySem.W.Frag) (C : Addr) : Sp := fun vs H Q _ => ∃ (a : Addr) (z : Str) (ts : List (List V)), vs = [.ref a] ∧ PieceAt K C H a z ts ∧
  ∀ (l : Addr) (tvs : List V) (H' : Hp), Same H H' → H l = none → H' l = some (.lst tvs) → Toks K H' z tvs ts → Q (.ref l) H'
theorem ok_Piece_tokens (T : Txt K mg) : FnOk P w K mg base CX0 1 T.f_Piece_tokens T.d_Piece_tokens ["self"] (sp_Piece_tokens K T.c_Piece) := by
  have nd := sc_Piece_tokens.nd
  refine T.F_Piece_tokens.ok sc_Piece_tokens (fun vs H Q E h => ?_) (fun cdv A outer s H vs Q E hr h => ?_)
  · obtain ⟨a, z, ts, rfl, _⟩ := h
    rfl
  · obtain ⟨a, z, ts, rfl, ⟨dx, l, p, tvs, pvs, ha, hl, htk, hp, hpl⟩, k⟩ := h
    refine ⟨_, (pss_one (ps_ret (pe_callTy (T := "list") call_list_of (by rfl) T.n_list (by decide +kernel) (pa_cons (pe_fld (pv 0) rfl) pa_nil)))), ?_⟩
    walk_at "rd"
    refine ⟨_, _, _, _, _, rfl, ha, T.cl_Piece, T.na_Piece_tokens, pf_tokens _ _ _, ?_⟩
    walk_at "rd"
    refine ⟨l, tvs, rfl, .inl (SqL.of hl), fun l2 hl2 => ?_⟩
    have s2 := same_new (o := .lst tvs) hl2
    exact k l2 tvs _ s2 hl2 upd_same (htk.same s2)
def sp_is_width (K : PySem.W.Frag) : Sp := fun vs H Q _ => ∃ (x : V) (n : String), vs = [x] ∧ Ty7 K H x n ∧ Q (.bl (withinV 1 12 x)) H
theorem ok_is_width (T : Txt K mg) : FnOk P w K mg base CX0 3 T.f_is_width T.d_is_width ["thing"] (sp_is_width K) := by
  have nd := sc_is_width.nd
  refine T.F_is_width.ok sc_is_width (fun vs H Q E h => ?_) (fun cdv A outer s H vs Q E hr h => ?_)
  · obtain ⟨x, n, rfl, _⟩ := h
    rfl
  · obtain ⟨x, n, rfl, hx, k⟩ := h
    refine ⟨_, (pss_one (ps_ret (pe_call (ok_is_within T) (hr.mono (by decide)) (by rfl) T.m_is_within T.F_is_within.kp T.b_is_within .nil pass0 (pa_cons (pv 0) (pa_cons pe_int (pa_cons (pe_glob (v := .int 12) (by rfl) T.m_MOST_WIDTH ⟨_, rfl⟩) pa_nil)))))), ?_⟩
    walk_at "rd"
    exact ⟨x, n, _, _, rfl, hx, k⟩
def sp_Reader_init (C : Addr) : Sp := fun vs H Q _ => ∃ (a dx : Addr) (z : Str) (wd : Nat), vs = [.ref a, .str z, .int wd] ∧ H a = some (.ins C dx []) ∧ SignsOk z ∧ 1 ≤ wd ∧ wd ≤ 12 ∧
  ∀ (l : Addr) (H' : Hp), KeepB a H H' → H l = none → l ≠ a → ReaderAt C H' a l z wd [] 0 → Q .non H'
theorem ok_Reader_init (T : Txt K mg) : FnOk P w K mg base CX0 4 T.f_Reader_init T.d_Reader_init ["self", "signs", "width"] (sp_Reader_init T.c_Reader) := by
  have nd := sc_Reader_init.nd
  refine T.F_Reader_init.ok sc_Reader_init (fun vs H Q E h => ?_) (fun cdv A outer s H vs Q E hr h => ?_)
  · obtain ⟨a, dx, z, wd, rfl, _⟩ := h
    rfl
  · obtain ⟨a, dx, z, wd, rfl, ha, hz, hw1, hw2, k⟩ := h
    refine ⟨_, (pss_cons (ps_if (pt_not (pt_val (pe_call (ok_is_signs T) (hr.mono (by decide)) (by rfl) T.m_is_signs T.F_is_signs.kp T.b_is_signs .nil pass0 (pa_cons (pv 1) pa_nil)))) (pss_one ps_never) pss_nil)
    (pss_cons (ps_if (pt_not (pt_val (pe_call (ok_is_width T) (hr.mono (by decide)) (by rfl) T.m_is_width T.F_is_width.kp T.b_is_width .nil pass0 (pa_cons (pv 2) pa_nil)))) (pss_one ps_never) pss_nil)
    (pss_cons (ps_fld (pv 0) (pv 1) rfl)
    (pss_cons (ps_fld (pv 0) (pv 2) rfl)
    (pss_cons (ps_fld (pv 0) (pe_lst pa_nil) rfl)
    (pss_one (ps_fld (pv 0) pe_str rfl))))))), ?_⟩
    have hzl := hz.len
    walk_at "rd"
    refine ⟨.str z, "str", rfl, Ty7.str, fun y e => ?_, fun e => by cases e⟩
    cases e
    refine ⟨by omega, fun H1 s1 => ?_⟩
    rw [show signsB z = true from hz]
    walk_at "rd"
    refine iteKN rfl ?_
    walk_at "rd"
    refine ⟨.int wd, "int", rfl, Ty7.int, ?_⟩
    rw [show withinV 1 12 (.int wd) = true by simp [withinV]; omega]
    walk_at "rd"
    refine iteKN rfl ?_
    walk_at "rd"
    refine ⟨a, _, dx, _, rfl, s1 _ _ ha, T.cl_Reader, T.na_Reader_signs, by decide, ?_⟩
    walk_at "rd"
    refine ⟨a, _, dx, _, rfl, upd_same, T.cl_Reader, T.na_Reader_width, Nat.lt_of_le_of_lt (length_putF _ _ _) (by decide), ?_⟩
    walk_at "rd"
    intro l hl
    have nl : l ≠ a := (ne_of_none upd_same hl).symm
    walk_at "rd"
    refine ⟨a, _, dx, _, rfl, same_new hl _ _ upd_same, T.cl_Reader, T.na_Reader_written, Nat.lt_of_le_of_lt (length_putF _ _ _) (Nat.lt_of_le_of_lt (Nat.add_le_add_right (length_putF _ _ _) 1) (by decide)), ?_⟩
    walk_at "rd"
    refine ⟨a, _, dx, _, rfl, upd_same, T.cl_Reader, T.na_Reader_kept, Nat.lt_of_le_of_lt (length_putF _ _ _) (Nat.lt_of_le_of_lt (Nat.add_le_add_right (length_putF _ _ _) 1) (Nat.lt_of_le_of_lt (Nat.add_le_add_right (Nat.add_le_add_right (length_putF _ _ _) 1) 1) (by decide))), ?_⟩
    refine k l _ ?_ ?_ nl ⟨⟨dx, upd_same⟩, ?_, hz, hw1, hw2, Nat.zero_le _, Nat.zero_le _⟩
    · exact (((((KeepB.of_same s1).trans KeepB.put).trans KeepB.put).trans (KeepB.new hl)).trans KeepB.put).trans KeepB.put
    · have h1 := hl
      rw [upd_ne nl, upd_ne nl] at h1
      exact s1.free h1
    · rw [upd_ne nl, upd_ne nl]
      exact upd_same
theorem rdF_w2 (z : Str) (w : Int) (l l' : Addr) (k : Str) : putF "_written" (.ref l') (rdF z w l k) = rdF z w l' k := by
  have n1 : ¬ (("_signs" : Str) = "_kept") := nsK
  have n2 : ¬ (("_width" : Str) = "_kept") := nwK
  have n3 : ¬ (("_written" : Str) = "_kept") := nrK
  have m1 : ¬ (("_signs" : Str) = "_width") := nsW
  have m2 : ¬ (("_signs" : Str) = "_written") := nsR
  have m3 : ¬ (("_width" : Str) = "_written") := nwR
  have m4 : ¬ (("_kept" : Str) = "_written") := fun e => nrK e.symm
  simp [rdF, putF, n1, n2, n3, m1, m2, m3, m4]
def sp_Reader_copied (C : Addr) : Sp := fun vs H Q _ => ∃ (a l : Addr) (z : Str) (wd : Nat) (line : List Nat) (kl : Nat), vs = [.ref a] ∧ ReaderAt C H a l z wd line kl ∧
  ∀ (a' l' : Addr) (H' : Hp), Same H H' → H a' = none → H l' = none → ReaderAt C H' a' l' z wd line kl → Q (.ref a') H'
theorem ok_Reader_copied (T : Txt K mg) : FnOk P w K mg base CX0 6 T.f_Reader_copied T.d_Reader_copied ["self"] (sp_Reader_copied T.c_Reader) := by
  have nd := sc_Reader_copied.nd
  refine T.F_Reader_copied.ok sc_Reader_copied (fun vs H Q E h => ?_) (fun cdv A outer s H vs Q E hr h => ?_)
  · obtain ⟨a, l, z, wd, line, kl, rfl, _⟩ := h
    rfl
  · obtain ⟨a, l, z, wd, line, kl, rfl, hrd, k⟩ := h
    refine ⟨_, (pss_cons (ps_set (i := 1) nd rfl (Or.inl rfl) (pe_make T.mk_Reader (ok_Reader_init T) (hr.mono (by decide)) (by rfl) T.m_Reader T.b_Reader_init .nil pass0 (pa_cons (pe_fld (pv 0) rfl) (pa_cons (pe_fld (pv 0) rfl) pa_nil))))
    (pss_cons (ps_fld (pv 1) (pe_callTy (T := "list") (call_list_of) (by rfl) T.n_list (by decide +kernel) (pa_cons (pe_fld (pv 0) rfl) pa_nil)) rfl)
    (pss_cons (ps_fld (pv 1) (pe_fld (pv 0) rfl) rfl)
    (pss_one (ps_ret (pv 1)))))), ?_⟩
    have hrd' := hrd
    obtain ⟨⟨dx, ha⟩, hl, hz, hw1, hw2, hk1, hk2⟩ := hrd
    walk_at "rd"
    refine ⟨a, _, dx, _, _, rfl, ha, T.cl_Reader, T.na_Reader_signs, rdF_signs _ _ _ _, ?_⟩
    walk_at "rd"
    refine ⟨a, _, dx, _, _, rfl, ha, T.cl_Reader, T.na_Reader_width, rdF_width _ _ _ _, ?_⟩
    walk_at "rd"
    intro o ox hno hnox hne
    have smk := same_make (C := T.c_Reader) hno hnox hne
    refine ⟨o, ox, z, wd, rfl, upd_same, hz, hw1, hw2, fun l1 H1 k1 hl1 nlo hrd1 => ?_⟩
    have s1 : Same H H1 := same_keepB hno ((KeepB.of_same smk).trans k1)
    obtain ⟨⟨dx1, ho1⟩, _, _⟩ := hrd1
    have hl11 := s1 _ _ hl
    walk_at "rd"
    refine ⟨a, _, dx, _, _, rfl, s1 _ _ ha, T.cl_Reader, T.na_Reader_written, rdF_written _ _ _ _, ?_⟩
    walk_at "rd"
    refine ⟨l, _, rfl, .inl (SqL.of hl11), fun l2 hl2 => ?_⟩
    have hnl2 : H l2 = none := s1.free hl2
    have nlo2 : l2 ≠ o := (ne_of_none ho1 hl2).symm
    have ho2 := same_new (o := .lst (line.map fun c => V.str (sg c))) hl2 _ _ ho1
    walk_at "rd"
    refine ⟨o, _, dx1, _, rfl, ho2, T.cl_Reader, T.na_Reader_written, rdF_len _ _ _ _, ?_⟩
    rw [rdF_w2]
    walk_at "rd"
    refine ⟨a, _, dx, rdF z wd l (stL (tl line kl)), _, rfl, ?_, T.cl_Reader, T.na_Reader_kept, rdF_kept _ _ _ _, ?_⟩
    · have n1 : a ≠ o := ne_of_none ha hno
      rw [upd_ne n1]
      exact same_new hl2 _ _ (s1 _ _ ha)
    walk_at "rd"
    refine ⟨o, _, dx1, _, rfl, upd_same, T.cl_Reader, T.na_Reader_kept, rdF_len _ _ _ _, ?_⟩
    rw [rdF_put]
    walk_at "rd"
    refine k o l2 _ ?_ hno hnl2 ⟨⟨dx1, upd_same⟩, ?_, hz, hw1, hw2, hk1, hk2⟩
    · exact KW.Same.fresh (KW.Same.fresh (s1.trans (same_new hl2)) hno) hno
    · rw [upd_ne nlo2, upd_ne nlo2]
      exact upd_same
def sp_Readerput (C : Addr) : Sp := fun vs H Q _ => ∃ (a l : Addr) (z : Str) (wd : Nat) (line : List Nat) (kl : Nat) (x : List Nat) (kl' : Nat), vs = [.ref a, .str (stL x), .str (stL (tl (line ++ x) kl'))] ∧ ReaderAt C H a l z wd line kl ∧
  kl' ≤ wd ∧ kl' ≤ (line ++ x).length ∧ (line ++ x).length ≤ 100000 ∧ ∀ H', Keep2 a l H H' → ReaderAt C H' a l z wd (line ++ x) kl' → Q (.str (stL x)) H'
theorem ok_Readerput (T : Txt K mg) : FnOk P w K mg base CX0 1 T.f_Readerput T.d_Readerput ["self", "text", "kept"] (sp_Readerput T.c_Reader) := by
  have nd := sc_Readerput.nd
  refine T.F_Readerput.ok sc_Readerput (fun vs H Q E h => ?_) (fun cdv A outer s H vs Q E hr h => ?_)
  · obtain ⟨a, l, z, wd, line, kl, x, kl', rfl, _⟩ := h
    rfl
  · obtain ⟨a, l, z, wd, line, kl, x, kl', rfl, hrd, h1, h2, h3, k⟩ := h
    refine ⟨_, (pss_cons (ps_expr (pe_bm PySem.F.plainAttrs_list PySem.F.slot_list_extend PySem.F.type_list_extend mt_extend (pe_fld (pv 0) rfl) (pa_cons (pe_callTy (T := "list") (call_list_sg rfl) (by rfl) T.n_list (by decide +kernel) (pa_cons (pv 1) pa_nil)) pa_nil)))
    (pss_cons (ps_fld (pv 0) (pv 2) rfl)
    (pss_one (ps_ret (pv 1))))), ?_⟩
    obtain ⟨⟨dx, ha⟩, hl, hz, hw1, hw2, hk1, hk2⟩ := hrd
    walk_at "rd"
    refine ⟨a, _, dx, _, _, rfl, ha, T.cl_Reader, T.na_Reader_written, rdF_written _ _ _ _, ?_⟩
    walk_at "rd"
    refine ⟨by rw [stL_len]; rw [List.length_append] at h3; omega, fun l1 hl1 => ?_⟩
    have nl : l1 ≠ l := (ne_of_none hl hl1).symm
    have na : l1 ≠ a := (ne_of_none ha hl1).symm
    have nal : a ≠ l := fun e => by subst e; rw [ha] at hl; cases hl
    walk_at "rd"
    refine ⟨l, l1, _, _, rfl, rfl, same_new hl1 _ _ hl, upd_same, ?_, ?_⟩
    · unfold sgs
      rw [List.length_map, List.length_map, cl_stL]
      rw [List.length_append] at h3
      exact szl (by omega)
    walk_at "rd"
    refine ⟨a, _, dx, _, rfl, (upd_ne nal).trans (same_new hl1 _ _ ha), T.cl_Reader, T.na_Reader_kept, rdF_len _ _ _ _, ?_⟩
    walk_at "rd"
    rw [rdF_put, sgs_stL, ← List.map_append]
    refine k _ ?_ ⟨⟨dx, upd_same⟩, ?_, hz, hw1, hw2, h1, h2⟩
    · intro b o nb nb2 e
      rw [upd_ne nb, upd_ne nb2]
      exact same_new hl1 _ _ e
    · rw [upd_ne nal.symm, upd_same]
def sp_Short_init (C : Addr) : Sp := fun vs H Q _ => ∃ (a : Addr) (x y : V), vs = [.ref a, x, y] ∧ H a = some (exo a C none) ∧ ∀ d, H d = none → d ≠ a → Q .non (upd (upd (upd H d (exd d [("distance", x)])) a (exo a C (some d))) d (exd d [("ahead", y), ("distance", x)]))
theorem ok_Short_init (T : Txt K mg) : FnOk P w K mg base CX0 1 T.f_Short_init T.d_Short_init ["self", "distance", "ahead"] (sp_Short_init T.c_Short) := by
  have nd := sc_Short_init.nd
  refine T.F_Short_init.ok sc_Short_init (fun vs H Q E h => ?_) (fun cdv A outer s H vs Q E hr h => ?_)
  · obtain ⟨a, x, y, rfl, _⟩ := h
    rfl
  · obtain ⟨a, x, y, rfl, ha, k⟩ := h
    refine ⟨_, (pss_cons (ps_ost (pv 0) (pv 1))
    (pss_one (ps_ost (pv 0) (pv 2)))), ?_⟩
    walk_at "rd"
    refine ⟨a, T.c_Short, rfl, T.ox_Short, T.nf_Short_distance, .inl ⟨ha, fun d hd ne => ?_⟩⟩
    walk_at "rd"
    refine ⟨a, T.c_Short, rfl, T.ox_Short, T.nf_Short_ahead, .inr ⟨d, _, upd_same, (upd_ne ne).trans upd_same, Nat.le_of_ble_eq_true rfl, ?_⟩⟩
    exact k d hd ne
def sp_Readercopy (C S : Addr) : Sp := fun vs H Q E => ∃ (a dx l : Addr) (z k : Str) (wd : Nat) (cs : List Nat) (d n : Int), vs = [.ref a, .int d, .int n, .str (stL cs)] ∧ H a = some (.ins C dx (rdF z wd l k)) ∧ wd ≤ 12 ∧ cs.length ≤ wd ∧ 1 ≤ d ∧ 1 ≤ n ∧ n ≤ 40 ∧
  d ≤ wd ∧ if d ≤ (cs.length : Int) then Q (.str (stL (copyN cs d.toNat n.toNat))) H else ∀ x, H x = none → E (.ref S) (some x) (upd H x (.xd [("ahead", .int cs.length), ("distance", .int d)]))
theorem ok_Readercopy (T : Txt K mg) : FnOk P w K mg base (L2.CX P w) 3 T.f_Readercopy T.d_Readercopy ["self", "distance", "many", "kept"] (sp_Readercopy T.c_Reader T.c_Short) := by
  have nd := sc_Readercopy.nd
  refine T.F_Readercopy.okX sc_Readercopy (fun vs H Q E h => ?_) (fun cdv A outer s H vs Q E hr h => ?_)
  · obtain ⟨a, dx, l, z, k0, wd, cs, d, n, rfl, _⟩ := h
    rfl
  · obtain ⟨a, dx, l, z, k0, wd, cs, d, n, rfl, ha, hw2, hn, hd1, hn1, hn2, hdw, k⟩ := h
    refine ⟨_, (pss_cons (ps_if (pt_cmpR op_gt (pv 1) (pe_fld (pv 0) rfl) (nomark _)) (pss_one (ps_raise rfl (takes_of rfl rfl rfl rfl) (pmk_own0 PySem.F.excBase_ValueError T.xo_NoToken T.m_NoToken T.xk_NoToken (raises_own T.xb_NoToken T.xt_NoToken) (by rfl)))) pss_nil)
    (pss_cons (ps_if (pt_cmpR op_gt (pv 1) (pe_callB (id := "len") call_len_str (by rfl) T.n_len (by decide +kernel) (pa_cons (pv 3) pa_nil)) (nomark _)) (pss_one (ps_raise rfl (takes_of rfl rfl rfl rfl) (pmk_oex T.ox_Short T.oi_Short T.ot_Short (ok_Short_init T) hr T.b_Short_init .nil pass0 (by rfl) T.m_Short (pa_cons (pv 1) (pa_cons (pe_callB (id := "len") call_len_str (by rfl) T.n_len (by decide +kernel) (pa_cons (pv 3) pa_nil)) pa_nil))))) pss_nil)
    (pss_cons (ps_set (i := 4) nd rfl (Or.inl rfl) (pe_slice sl_str (pv 3) (po_some (pe_un un_neg (pv 1))) po_none))
    (pss_one (ps_ret (pe_slice sl_str (pe_op op_mul_str (pv 4) (pv 2)) po_none (po_some (pv 2)))))))), ?_⟩
    walk_at "rd"
    refine ⟨a, _, dx, _, _, rfl, ha, T.cl_Reader, T.na_Reader_width, rdF_width _ _ _ _, ?_⟩
    walk_at "rd"
    refine iteDN (by omega) ?_
    walk_at "rd"
    refine ⟨szl (by rw [stL_len]; omega), ?_⟩
    walk_at "rd"
    rw [stL_len]
    refine iteD (fun hsh => ?_) (fun hsh => ?_)
    · walk_at "rd"
      rw [if_neg (by omega)] at k
      refine ⟨szl (by rw [stL_len]; omega), ?_⟩
      rw [stL_len]
      exact ⟨Nat.le_of_ble_eq_true rfl, fun x hx => raise2 k x hx⟩
    · rw [if_pos (by omega)] at k
      walk_at "rd"
      refine ⟨szl (by rw [stL_len]; omega), ?_⟩
      walk_at "rd"
      rw [cut_end (by omega)]
      refine ⟨mulOk_st (by omega) (by rw [List.length_drop]; omega) (by omega), ?_⟩
      rw [mul_st]
      walk_at "rd"
      refine ⟨szl ?_, ?_⟩
      · rw [stL_len, flat_len, List.length_drop]
        have : n.toNat * (cs.length - (cs.length - d.toNat)) ≤ 40 * 12 := Nat.mul_le_mul (by omega) (by omega)
        omega
      · rw [cut_head (by omega), ring_copy (by omega) (by omega)]
        exact k
def sp_Readerlast (C : Addr) : Sp := fun vs H Q _ => ∃ (a dx l : Addr) (z k : Str) (wd : Nat) (cs : List Nat), vs = [.ref a, .str (stL cs)] ∧ H a = some (.ins C dx (rdF z wd l k)) ∧ 1 ≤ wd ∧ wd ≤ 12 ∧ cs.length ≤ 100000 ∧
  Q (.str (stL (cs.drop (cs.length - wd)))) H
theorem ok_Readerlast (T : Txt K mg) : FnOk P w K mg base CX0 1 T.f_Readerlast T.d_Readerlast ["self", "line"] (sp_Readerlast T.c_Reader) := by
  have nd := sc_Readerlast.nd
  refine T.F_Readerlast.ok sc_Readerlast (fun vs H Q E h => ?_) (fun cdv A outer s H vs Q E hr h => ?_)
  · obtain ⟨a, dx, l, z, k0, wd, cs, rfl, _⟩ := h
    rfl
  · obtain ⟨a, dx, l, z, k0, wd, cs, rfl, ha, hw1, hw2, hn, k⟩ := h
    refine ⟨_, (pss_one (ps_ret (pe_slice sl_str (pv 1) (po_some (pe_un un_neg (pe_fld (pv 0) rfl))) po_none))), ?_⟩
    walk_at "rd"
    refine ⟨a, _, dx, _, _, rfl, ha, T.cl_Reader, T.na_Reader_width, rdF_width _ _ _ _, ?_⟩
    walk_at "rd"
    refine ⟨szl (by rw [stL_len]; omega), ?_⟩
    rw [cut_end (by omega)]
    rw [Int.toNat_natCast]
    exact k
def sp_is_plain (K : PySem.W.Frag) : Sp := fun vs H Q _ => ∃ (z : Str) (v : V) (t : List V), vs = [.str z, v] ∧ TokAt K H z v t ∧ plainV t = true ∧ z.length ≤ 1000 ∧ ∀ H', Same H H' → Q (.bl true) H'
theorem ok_is_plain (T : Txt K mg) : FnOk P w K mg base CX0 5 T.f_is_plain T.d_is_plain ["signs", "thing"] (sp_is_plain K) := by
  have nd := sc_is_plain.nd
  refine T.F_is_plain.ok sc_is_plain (fun vs H Q E h => ?_) (fun cdv A outer s H vs Q E hr h => ?_)
  · obtain ⟨z, v, t, rfl, _⟩ := h
    rfl
  · obtain ⟨z, v, t, rfl, ht, hp, hz, k⟩ := h
    refine ⟨_, (pss_one (ps_ret (pe_and (pe_call (ok_is_token T) (hr.mono (by decide)) (by rfl) T.m_is_token T.F_is_token.kp T.b_is_token .nil pass0 (pa_cons (pv 0) (pa_cons (pv 1) pa_nil))) (pe_one (pe_cmpR (op_in_seqK (K := K) rfl) (pe_ix (ix_tupK (K := K) rfl) (pv 1) pe_int (fun _ _ => rfl)) (pe_tup (pa_cons pe_str (pa_cons pe_str (pa_cons pe_str pa_nil)))) (by rfl)))))), ?_⟩
    obtain ⟨⟨q, rfl, hq⟩, hok⟩ := ht
    have hok' := hok
    obtain ⟨kd, rest, rfl, hk⟩ := tok_inv hok'
    walk_at "rd"
    refine ⟨z, q, _, rfl, hq, hok, hz, fun H1 s1 => ?_⟩
    have hq1 := sqT_same s1 hq
    walk_at "rd"
    rcases hk with ⟨rfl, rfl⟩ | ⟨y, rfl, rfl, h1, h2, h3⟩ | ⟨y, rfl, rfl, h1⟩ | ⟨d, n, hkd, rfl, h1, h2, h3, h4⟩
    · walk_at "rd"
      intro p hp1
      refine ⟨p, _, rfl, .inr (SqT.of upd_same), rfl, rfl, ?_⟩
      rw [show inV (.str "flush") [.str "text", .str "copy", .str "flush"] = true by decide +kernel]
      exact k _ (s1.trans (same_new hp1))
    · walk_at "rd"
      intro p hp1
      refine ⟨p, _, rfl, .inr (SqT.of upd_same), rfl, rfl, ?_⟩
      rw [show inV (.str "text") [.str "text", .str "copy", .str "flush"] = true by decide +kernel]
      exact k _ (s1.trans (same_new hp1))
    · rw [plain_any] at hp; cases hp
    · rcases hkd with rfl | rfl
      · walk_at "rd"
        intro p hp1
        refine ⟨p, _, rfl, .inr (SqT.of upd_same), rfl, rfl, ?_⟩
        rw [show inV (.str "copy") [.str "text", .str "copy", .str "flush"] = true by decide +kernel]
        exact k _ (s1.trans (same_new hp1))
      · exact absurd (of_decide_eq_true (show decide (("say" : Str) = "text" ∨ ("say" : Str) = "copy" ∨ ("say" : Str) = "flush") = true from hp)) (by decide +kernel)
def sp_Readertold (K : PySem.W.Frag) (C S : Addr) : Sp := fun vs H Q E => ∃ (a dx l : Addr) (z k : Str) (wd : Nat) (v : V) (t : List V) (line : List Nat) (kl : Nat), vs = [.ref a, v, .str (stL (tl line kl))] ∧ H a = some (.ins C dx (rdF z wd l k)) ∧ SignsOk z ∧ 1 ≤ wd ∧ wd ≤ 12 ∧
  kl ≤ wd ∧ kl ≤ line.length ∧ line.length ≤ 50000 ∧ TokAt K H z v t ∧ plainV t = true ∧ (∀ d n, t = [.str "copy", .int d, .int n] → d ≤ wd) ∧
  if okT kl t = true then ∀ (p : Addr) (H' : Hp), Same H H' → H p = none → H' p = some (.tup [.str (stL (textT line t)), .str (stL (tl (line ++ textT line t) (klT wd kl t)))]) → Q (.ref p) H'
  else ∀ (d n : Int), t = [.str "copy", .int d, .int n] → ∀ (x : Addr) (H' : Hp), Same H H' → H' x = none → E (.ref S) (some x) (upd H' x (.xd [("ahead", .int kl), ("distance", .int d)]))
theorem ok_Readertold (T : Txt K mg) : FnOk P w K mg base (L2.CX P w) 6 T.f_Readertold T.d_Readertold ["self", "token", "kept"] (sp_Readertold K T.c_Reader T.c_Short) := by
  have nd := sc_Readertold.nd
  refine T.F_Readertold.okX sc_Readertold (fun vs H Q E h => ?_) (fun cdv A outer s H vs Q E hr h => ?_)
  · obtain ⟨a, dx, l, z, k0, wd, v, t, line, kl, rfl, _⟩ := h
    rfl
  · obtain ⟨a, dx, l, z, k0, wd, v, t, line, kl, rfl, ha, hz, hw1, hw2, hk1, hk2, hln, ht, hp, hd, k⟩ := h
    refine ⟨_, (pss_cons (ps_if (pt_not (pt_val (pe_call (ok_is_plain T) (hr.mono (by decide)) (by rfl) T.m_is_plain T.F_is_plain.kp T.b_is_plain .nil pass0 (pa_cons (pe_fld (pv 0) rfl) (pa_cons (pv 1) pa_nil))))) (pss_one (ps_raise rfl (takes_of rfl rfl rfl rfl) (pmk_own0 PySem.F.excBase_ValueError T.xo_NoToken T.m_NoToken T.xk_NoToken (raises_own T.xb_NoToken T.xt_NoToken) (by rfl)))) pss_nil)
    (pss_cons (ps_if (pt_cmpR op_eq (pe_ix (ix_tupK (K := K) rfl) (pv 1) pe_int (fun _ _ => rfl)) pe_str (nomark _)) (pss_one (ps_ret (pe_tup (pa_cons pe_str (pa_cons pe_str pa_nil))))) pss_nil)
    (pss_cons (ps_if (pt_cmpR op_eq (pe_ix (ix_tupK (K := K) rfl) (pv 1) pe_int (fun _ _ => rfl)) pe_str (nomark _)) (pss_one (ps_ret (pe_tup (pa_cons (pe_ix (ix_tupK (K := K) rfl) (pv 1) pe_int (fun _ _ => rfl)) (pa_cons (pe_meth (pv 0) T.cl_Reader T.mt_Readerlast (ok_Readerlast T) (hr.mono (by decide)) T.b_Readerlast .nil pass0 (pa_cons (pe_op op_add_str (pv 2) (pe_ix (ix_tupK (K := K) rfl) (pv 1) pe_int (fun _ _ => rfl))) pa_nil)) pa_nil))))) pss_nil)
    (pss_cons (ps_set (i := 3) nd rfl (Or.inl rfl) (pe_meth (pv 0) T.cl_Reader T.mt_Readercopy (ok_Readercopy T) (hr.mono (by decide)) T.b_Readercopy .nil (passes_call (takes_of rfl rfl rfl rfl) (fun _ _ _ _ h => h)) (pa_cons (pe_ix (ix_tupK (K := K) rfl) (pv 1) pe_int (fun _ _ => rfl)) (pa_cons (pe_ix (ix_tupK (K := K) rfl) (pv 1) pe_int (fun _ _ => rfl)) (pa_cons (pv 2) pa_nil)))))
    (pss_one (ps_ret (pe_tup (pa_cons (pv 3) (pa_cons (pe_meth (pv 0) T.cl_Reader T.mt_Readerlast (ok_Readerlast T) (hr.mono (by decide)) T.b_Readerlast .nil pass0 (pa_cons (pe_op op_add_str (pv 2) (pv 3)) pa_nil)) pa_nil))))))))), ?_⟩
    have hzl := hz.len
    obtain ⟨⟨q, rfl, hq⟩, hok⟩ := ht
    have hok' := hok
    obtain ⟨kd, rest, rfl, hk⟩ := tok_inv hok
    walk_at "rd"
    refine ⟨a, _, dx, _, _, rfl, ha, T.cl_Reader, T.na_Reader_signs, rdF_signs _ _ _ _, ?_⟩
    walk_at "rd"
    refine ⟨z, _, _, rfl, ⟨⟨q, rfl, hq⟩, hok⟩, hp, by omega, fun H1 s1 => ?_⟩
    have hq1 := sqT_same s1 hq
    have ha1 := s1 _ _ ha
    walk_at "rd"
    refine iteKN rfl ?_
    rcases hk with ⟨rfl, rfl⟩ | ⟨y, rfl, rfl, h1, h2, h3⟩ | ⟨y, rfl, rfl, h1⟩ | ⟨d, n, hkd, rfl, h1, h2, h3, h4⟩
    · walk_at "rd"
      refine iteStY ?_
      walk_at "rd"
      intro p hp1
      rw [if_pos (show okT kl [.str "flush"] = true from rfl)] at k
      refine k p _ (s1.trans (same_new hp1)) (s1.free hp1) ?_
      rw [upd_same, show klT wd kl [.str "flush"] = 0 from rfl, tl_zero]
      rfl
    · walk_at "rd"
      walk_at "ks"
      walk_at "rd"
      walk_at "ks"
      walk_at "rd"
      refine ⟨a, dx, _, rfl, ha1, rdF_no _ _ _ _ (by decide +kernel) (by decide +kernel) (by decide +kernel) (by decide +kernel), ?_⟩
      walk_at "rd"
      refine ⟨szl (by rw [stL_len, tl_len hk2]; omega), ?_⟩
      walk_at "rd"
      have ey : y = stL (cl y) := (stL_cl y).symm
      have hyl := cl_len y
      have e1 : stL (tl line kl) ++ y = stL (tl line kl ++ cl y) := by
        rw [← app_stL, stL_cl]
      rw [e1]
      refine ⟨a, dx, l, z, k0, wd, _, rfl, ha1, hw1, hw2, by rw [List.length_append, tl_len hk2]; omega, ?_⟩
      rw [tl_app hk2, hyl]
      walk_at "rd"
      intro p hp1
      rw [if_pos (show okT kl [.str "text", .str y] = true from rfl)] at k
      refine k p _ (s1.trans (same_new hp1)) (s1.free hp1) ?_
      rw [upd_same, textT_text, stL_cl]
      rfl
    · rw [plain_any] at hp; cases hp
    · rcases hkd with rfl | rfl
      · walk_at "rd"
        walk_at "ks"
        walk_at "rd"
        walk_at "ks"
        walk_at "rd"
        refine ⟨a, dx, _, rfl, ha1, rdF_no _ _ _ _ (by decide +kernel) (by decide +kernel) (by decide +kernel) (by decide +kernel), ?_⟩
        walk_at "rd"
        refine ⟨a, dx, l, z, k0, wd, tl line kl, d, n, rfl, ha1, hw2, by rw [tl_len hk2]; exact hk1, h1, h3, h4, hd d n rfl, ?_⟩
        rw [tl_len hk2]
        by_cases hdk : d ≤ (kl : Int)
        · rw [if_pos hdk]
          rw [if_pos (show okT kl [.str "copy", .int d, .int n] = true from decide_eq_true hdk)] at k
          rw [copyN_tail (by omega) (by omega) hk2]
          walk_at "rd"
          refine ⟨a, dx, _, rfl, ha1, rdF_no _ _ _ _ (by decide +kernel) (by decide +kernel) (by decide +kernel) (by decide +kernel), ?_⟩
          walk_at "rd"
          have hcl := copyN_len line d.toNat n.toNat
          refine ⟨szl (by rw [stL_len, stL_len, tl_len hk2]; omega), ?_⟩
          rw [app_stL]
          refine ⟨a, dx, l, z, k0, wd, _, rfl, ha1, hw1, hw2, by rw [List.length_append, tl_len hk2]; omega, ?_⟩
          rw [tl_app hk2, hcl]
          walk_at "rd"
          intro p hp1
          refine k p _ (s1.trans (same_new hp1)) (s1.free hp1) ?_
          rw [upd_same]
          rfl
        · rw [if_neg hdk]
          rw [if_neg (show ¬ okT kl [.str "copy", .int d, .int n] = true from fun e => hdk (of_decide_eq_true e))] at k
          exact fun x hx => k d n rfl x H1 s1 hx
      · exact absurd (of_decide_eq_true (show decide (("say" : Str) = "text" ∨ ("say" : Str) = "copy" ∨ ("say" : Str) = "flush") = true from hp)) (by decide +kernel)
def sp_Reader_read_all (K : PySem.W.Frag) (C S : Addr) : Sp := fun vs H Q E => ∃ (a l tla : Addr) (z : Str) (wd : Nat) (line : List Nat) (kl : Nat) (tvs : List V) (ts : List (List V)), vs = [.ref a, .ref tla] ∧ ReaderAt C H a l z wd line kl ∧ SqL K H tla tvs ∧ tla ≠ l ∧
  Toks K H z tvs ts ∧ (∀ t ∈ ts, PlainW wd t) ∧ line.length + tsize ts ≤ 50000 ∧ ts.length ≤ 1000 ∧
  match badA wd ts kl with
  | none => ∀ H', Keep2 a l H H' → ReaderAt C H' a l z wd (line ++ textA ts line) (klA wd ts kl) → Q (.str (stL (textA ts line))) H'
  | some b => ∀ (x : Addr) (H' : Hp), Same H H' → H' x = none → E (.ref S) (some x) (upd H' x (.xd [("ahead", .int b.2), ("distance", .int b.1)]))
theorem ok_Reader_read_all (T : Txt K mg) : FnOk P w K mg base (L2.CX P w) 7 T.f_Reader_read_all T.d_Reader_read_all ["self", "tokens"] (sp_Reader_read_all K T.c_Reader T.c_Short) := by
  have nd := sc_Reader_read_all.nd
  refine T.F_Reader_read_all.okX sc_Reader_read_all (fun vs H Q E h => ?_) (fun cdv A outer s H vs Q E hr h => ?_)
  · obtain ⟨a, l, tla, z, wd, line, kl, tvs, ts, rfl, _⟩ := h
    rfl
  · obtain ⟨a, l, tla, z, wd, line, kl, tvs, ts, rfl, hrd, htl, hne, htk, hpw, hln, hnt, k⟩ := h
    refine ⟨_, (pss_cons (ps_set (i := 2) nd rfl (Or.inl rfl) (pe_lst pa_nil))
    (pss_cons (ps_set (i := 3) nd rfl (Or.inl rfl) (pe_fld (pv 0) rfl))
    (pss_cons (ps_for (passes_of rfl) rfl (pi_list (pv 1)) (pg_name (i := 4) nd rfl (Or.inl rfl)) (pss_cons (ps_asg (pe_meth (pv 0) T.cl_Reader T.mt_Readertold (ok_Readertold T) (hr.mono (by decide)) T.b_Readertold .nil (passes_call (takes_of rfl rfl rfl rfl) (fun _ _ _ _ h => h)) (pa_cons (pv 4) (pa_cons (pv 3) pa_nil))) (pg_tup rfl (pgs_cons (pg_name (i := 5) nd rfl (Or.inl rfl)) (pgs_cons (pg_name (i := 3) nd rfl (Or.inl rfl)) pgs_nil))))
    (pss_one (ps_expr (pe_bm PySem.F.plainAttrs_list PySem.F.slot_list_append PySem.F.type_list_append mt_append (pv 2) (pa_cons (pv 5) pa_nil))))))
    (pss_one (ps_ret (pe_meth (pv 0) T.cl_Reader T.mt_Readerput (ok_Readerput T) (hr.mono (by decide)) T.b_Readerput .nil pass0 (pa_cons (pe_join pe_str (pv 2)) (pa_cons (pv 3) pa_nil)))))))), ?_⟩
    have hrd' := hrd
    obtain ⟨⟨dx, ha⟩, hl, hz, hw1, hw2, hk1, hk2⟩ := hrd
    have hlen := paired_len htk
    walk_at "rd"
    intro D hD
    have nDa : D ≠ a := (ne_of_none ha hD).symm
    have nDl : D ≠ l := (ne_of_none hl hD).symm
    walk_at "rd"
    refine ⟨a, _, dx, _, _, rfl, (upd_ne nDa.symm).trans ha, T.cl_Reader, T.na_Reader_kept, rdF_kept _ _ _ _, ?_⟩
    walk_at "rd"
    refine ⟨⟨_, (same_new hD).seq htl⟩, ?_⟩
    refine for_list (K := K) (a := tla) (xs := tvs) (fun i σ H2 => KeepB D H H2 ∧ ∃ (x4 x5 : Option V) (parts : List (List Nat)), σ = [some (.ref a), some (.ref tla), some (.ref D), some (.str (stL (tl (line ++ textA (ts.take i) line) (klA wd (ts.take i) kl)))), x4, x5] ∧ H2 D = some (.lst (parts.map fun p => V.str (stL p))) ∧ parts.length = i ∧ parts.flatten = textA (ts.take i) line ∧ badA wd (ts.take i) kl = none) ?_ ?_ ?_ ?_
    · refine ⟨KeepB.put, none, none, [], ?_, upd_same, rfl, rfl, rfl⟩
      show [_, _, _, _, _, _] = [_, _, _, some (V.str (stL (tl (line ++ []) kl))), _, _]
      rw [List.append_nil]
    · rintro i σ H2 _ ⟨k2, _⟩
      exact (same_keepB hD k2).seq htl
    · rintro i v σ H2 hv ⟨k2, x4, x5, parts, rfl, hD2, hpl, hpf, hbd⟩
      obtain ⟨t, ht, htok⟩ := paired_get htk hv
      have htm := List.mem_of_getElem? ht
      have s02 := same_keepB hD k2
      have ha2 := s02 _ _ ha
      have htok2 := htok.same s02
      have hi : i < ts.length := (List.getElem?_eq_some_iff.mp ht).1
      have htl2 := textA_len (ts.take i) line fun u hu => ⟨htk.ok u (List.mem_of_mem_take hu), (hpw u (List.mem_of_mem_take hu)).1⟩
      have htz := tsize_take_le (i := i) htk.ok
      walk_at "rd"
      refine ⟨a, dx, _, rfl, ha2, rdF_no _ _ _ _ (by decide +kernel) (by decide +kernel) (by decide +kernel) (by decide +kernel), ?_⟩
      walk_at "rd"
      refine ⟨a, dx, l, z, _, wd, v, t, line ++ textA (ts.take i) line, klA wd (ts.take i) kl, rfl, ha2, hz, hw1, hw2, klA_le (z := z) _ _ (fun u hu => htk.ok u (List.mem_of_mem_take hu)) hk1, klA_line (z := z) _ _ _ (fun u hu => ⟨htk.ok u (List.mem_of_mem_take hu), (hpw u (List.mem_of_mem_take hu)).1⟩) hk2, by rw [List.length_append]; omega, htok2, (hpw t htm).1, (hpw t htm).2, ?_⟩
      by_cases hok : okT (klA wd (ts.take i) kl) t = true
      · rw [if_pos hok]
        intro p H3 s3 hp3 hp
        have hD3 := s3 _ _ hD2
        walk_at "rd"
        refine ⟨D, _, _, rfl, rfl, hD3, szt (by rw [List.length_map]; omega), ?_⟩
        have ea := textA_take (line := line) ht
        refine ⟨(k2.trans (KeepB.of_same s3)).trans KeepB.put, some v, some (.str (stL (textT (line ++ textA (ts.take i) line) t))), parts ++ [textT (line ++ textA (ts.take i) line) t], ?_, by rw [upd_same, List.map_append]; rfl, by rw [List.length_append, hpl]; rfl, ?_, ?_⟩
        · rw [ea, klA_take ht, ← List.append_assoc]
          rfl
        · rw [ea, List.flatten_append, hpf]
          simp
        · rw [badA_take ht hbd]
          exact badT_ok.mp hok
      · rw [if_neg hok]
        intro d n e x H3 s3 hx
        cases hb : badT (klA wd (ts.take i) kl) t with
        | none => exact absurd (badT_ok.mpr hb) hok
        | some b =>
          obtain ⟨n', e', e2⟩ := badT_copy htok.2 (hpw t htm).1 hb
          have hbt := badA_take ht hbd
          rw [hb] at hbt
          rw [badA_more hbt] at k
          have e3 : b.1 = d := by
            rw [e] at e'
            cases e'
            rfl
          have q := k x H3 (s02.trans s3) hx
          rw [e3, e2] at q
          exact q
    · rintro σ H2 ⟨k2, x4, x5, parts, rfl, hD2, hpl, hpf, hbd⟩
      have s02 := same_keepB hD k2
      have hrd2 := hrd'.same s02
      have ha2 := s02 _ _ ha
      rw [hlen, List.take_length] at hpf hbd
      have hta := textA_len ts line fun u hu => ⟨htk.ok u hu, (hpw u hu).1⟩
      rw [hbd] at k
      walk_at "rd"
      refine ⟨a, dx, _, rfl, ha2, rdF_no _ _ _ _ (by decide +kernel) (by decide +kernel) (by decide +kernel) (by decide +kernel), ?_⟩
      walk_at "rd"
      refine ⟨⟨_, rfl⟩, _, rfl, ?_⟩
      refine ⟨_, _, parts.map stL, rfl, rfl, .inl (SqL.of (by rw [List.map_map]; exact hD2)), by rw [sum_sts, hpf]; omega, ?_⟩
      rw [join_sts, hpf]
      walk_at "rd"
      refine ⟨a, l, z, wd, line, kl, textA ts line, klA wd ts kl, by rw [hlen, List.take_length]; rfl, hrd2, klA_le (z := z) _ _ htk.ok hk1, klA_line (z := z) _ _ _ (fun u hu => ⟨htk.ok u hu, (hpw u hu).1⟩) hk2, by rw [List.length_append]; omega, fun H3 k3 hrd3 => ?_⟩
      refine k H3 (fun b o nb nb2 e => k3 b o nb nb2 (s02 _ _ e)) hrd3
def sp_law_told (K : PySem.W.Frag) (C : Addr) : Sp := fun vs H Q _ => ∃ (a l tla : Addr) (z : Str) (wd : Nat) (line : List Nat) (kl : Nat) (tvs : List V) (ts : List (List V)), vs = [.ref a, .ref tla] ∧ ReaderAt C H a l z wd line kl ∧ H tla = some (.lst tvs) ∧
  Toks K H z tvs ts ∧ (∀ t ∈ ts, TokW z wd t) ∧ line.length + tsize ts ≤ 50000 ∧ ts.length ≤ 1000 ∧
  ∀ H', Same H H' → Q (if badA wd ts kl = none then .str (stL (textA ts line)) else .non) H'
theorem ok_law_told (T : Txt K mg) : FnOk P w K mg base CX0 8 T.f_law_told T.d_law_told ["_law_reader_here", "_law_tokens"] (sp_law_told K T.c_Reader) := by
  have nd := sc_law_told.nd
  refine T.F_law_told.ok sc_law_told (fun vs H Q E h => ?_) (fun cdv A outer s H vs Q E hr h => ?_)
  · obtain ⟨a, l, tla, z, wd, line, kl, tvs, ts, rfl, _⟩ := h
    rfl
  · obtain ⟨a, l, tla, z, wd, line, kl, tvs, ts, rfl, hrd, htl, htk, htw, hln, hnt, k⟩ := h
    refine ⟨_, (pss_cons (ps_set (i := 2) nd rfl (Or.inl rfl) (pe_meth0 (pv 0) T.cl_Reader T.mt_Reader_copied (ok_Reader_copied T) (hr.mono (by decide)) T.b_Reader_copied .nil pass0))
    (pss_one (ps_try_as (i := 3) rfl rfl nd rfl rfl ⟨rfl, by decide, .inl T.m_Short⟩ takes0 (fun W1 pn1 xe1 tk1 po1 => (pss_one (ps_ret (pe_methT (pv 2) T.cl_Reader T.mt_Reader_read_all (ok_Reader_read_all T) (hr.mono (by decide)) T.b_Reader_read_all (fun σ => passAt tk1 σ) (pa_cons (pv 1) pa_nil))))) (fun a1 oe1 cls1 d1 pn1 hz1 hf1 => (pss_one (ps_ret pe_non)))))), ?_⟩
    have hrd' := hrd
    obtain ⟨⟨dx, ha⟩, hl, hz, hw1, hw2, hk1, hk2⟩ := hrd
    walk_at "rd"
    refine ⟨a, dx, _, rfl, ha, rdF_no _ _ _ _ (by decide +kernel) (by decide +kernel) (by decide +kernel) (by decide +kernel), ?_⟩
    refine ⟨a, l, z, wd, line, kl, rfl, hrd', fun o ol H1 s1 no nol hrd1 => ?_⟩
    walk_at "rd"
    have htl1 := s1 _ _ htl
    have ne : tla ≠ ol := fun e => by rw [e, nol] at htl; cases htl
    have hrd1' := hrd1
    obtain ⟨⟨dx1, ho1⟩, _⟩ := hrd1'
    refine ⟨o, dx1, _, rfl, ho1, rdF_no _ _ _ _ (by decide +kernel) (by decide +kernel) (by decide +kernel) (by decide +kernel), ?_⟩
    walk_at "rd"
    refine ⟨o, ol, tla, z, wd, line, kl, tvs, ts, rfl, hrd1, SqL.of htl1, ne, Toks.same s1 htk, fun t ht => (htw t ht).pl, hln, hnt, ?_⟩
    cases hb : badA wd ts kl with
    | none =>
      intro H2 k2 hrd2
      have q := k H2 (Same.keep2 s1 k2 no nol)
      rw [if_pos hb] at q
      exact q
    | some b =>
      intro x H2 s2 hx
      refine ⟨true, T.te_Short_Short, fun _ ex hex => ?_, fun q => nomatch q⟩
      walk_at "rd"
      have q := k _ ((s1.trans s2).trans (same_new (o := .xd [("ahead", .int b.2), ("distance", .int b.1)]) hx))
      rw [if_neg (by rw [hb]; intro e; cases e)] at q
      exact q
theorem flat_take {α : Type} {uss : List (List α)} {i : Nat} {us : List α} (h : uss[i]? = some us) : (uss.take (i + 1)).flatten = (uss.take i).flatten ++ us := by
  rw [take_succ' h, List.flatten_append]
  simp
theorem flat_split {α : Type} {uss : List (List α)} {i : Nat} : uss.flatten = (uss.take i).flatten ++ (uss.drop i).flatten := by
  rw [← List.flatten_append, List.take_append_drop]
def sp_law_in_parts (K : PySem.W.Frag) (C CP : Addr) : Sp := fun vs H Q _ => ∃ (a l pl : Addr) (z : Str) (wd : Nat) (line : List Nat) (kl : Nat) (as : List Addr) (uss : List (List (List V))), vs = [.ref a, .ref pl] ∧ ReaderAt C H a l z wd line kl ∧ H pl = some (.lst (as.map V.ref)) ∧
  as.length = uss.length ∧ (∀ (i : Nat) (x : Addr), as[i]? = some x → ∃ us, uss[i]? = some us ∧ PieceAt K CP H x z us) ∧ (∀ us ∈ uss, (∀ t ∈ us, TokW z wd t) ∧ us.length ≤ 1000) ∧ line.length + tsize uss.flatten ≤ 40000 ∧
  ∀ H', Same H H' → Q (if badA wd uss.flatten kl = none then .str (stL (textA uss.flatten line)) else .non) H'
theorem ok_law_in_parts (T : Txt K mg) : FnOk P w K mg base CX0 9 T.f_law_in_parts T.d_law_in_parts ["_law_reader_here", "_law_pieces"] (sp_law_in_parts K T.c_Reader T.c_Piece) := by
  have nd := sc_law_in_parts.nd
  refine T.F_law_in_parts.ok sc_law_in_parts (fun vs H Q E h => ?_) (fun cdv A outer s H vs Q E hr h => ?_)
  · obtain ⟨a, l, pl, z, wd, line, kl, as, uss, rfl, _⟩ := h
    rfl
  · obtain ⟨a, l, pl, z, wd, line, kl, as, uss, rfl, hrd, hpl, hlen, hps, hus, hsz, k⟩ := h
    refine ⟨_, (pss_cons (ps_par (i := 2) (j := 3) (by rfl) nd rfl rfl (by decide) rfl rfl (pa_cons (pe_meth0 (pv 0) T.cl_Reader T.mt_Reader_copied (ok_Reader_copied T) (hr.mono (by decide)) T.b_Reader_copied .nil pass0) (pa_cons pe_str pa_nil)) (by rfl))
    (pss_cons (ps_for PassesOwn.never rfl (pi_list (pv 1)) (pg_name (i := 4) nd rfl (Or.inl rfl)) (pss_cons (ps_set (i := 5) nd rfl (Or.inl rfl) (pe_call (ok_law_told T) (hr.mono (by decide)) (by rfl) T.m_law_told T.F_law_told.kp T.b_law_told .nil pass0 (pa_cons (pv 2) (pa_cons (pe_meth0 (pv 4) T.cl_Piece T.mt_Piece_tokens (ok_Piece_tokens T) (hr.mono (by decide)) T.b_Piece_tokens .nil pass0) pa_nil))))
    (pss_cons (ps_if (pt_cmpR op_isN (pv 5) pe_non (nomark _)) (pss_one (ps_ret pe_non)) pss_nil)
    (pss_one (ps_set (i := 3) nd rfl (Or.inl rfl) (pe_op op_add_str (pv 3) (pe_meth (pv 2) T.cl_Reader T.mt_Reader_read_all (ok_Reader_read_all T) (hr.mono (by decide)) T.b_Reader_read_all .nil passF (pa_cons (pe_meth0 (pv 4) T.cl_Piece T.mt_Piece_tokens (ok_Piece_tokens T) (hr.mono (by decide)) T.b_Piece_tokens .nil pass0) pa_nil))))))))
    (pss_one (ps_ret (pv 3))))), ?_⟩
    have hrd' := hrd
    obtain ⟨⟨dx, ha⟩, hl, hz, hw1, hw2, hk1, hk2⟩ := hrd
    have hTW : ∀ t ∈ uss.flatten, TokW z wd t := fun t ht => by
      obtain ⟨us, h1, h2⟩ := List.mem_flatten.mp ht
      exact (hus us h1).1 t h2
    walk_at "rd"
    refine ⟨a, dx, _, rfl, ha, rdF_no _ _ _ _ (by decide +kernel) (by decide +kernel) (by decide +kernel) (by decide +kernel), ?_⟩
    refine ⟨a, l, z, wd, line, kl, rfl, hrd', fun o ol H1 s1 no nol hrd1 => ?_⟩
    walk_at "rd"
    refine ⟨_, _, rfl, ?_⟩
    walk_at "rd"
    refine ⟨⟨_, SqL.of (s1 _ _ hpl)⟩, ?_⟩
    refine for_list (K := K) (a := pl) (xs := as.map V.ref) (fun i σ H2 => Same H H2 ∧ ∃ (x4 x5 : Option V), σ = [some (.ref a), some (.ref pl), some (.ref o), some (.str (stL (textA (uss.take i).flatten line))), x4, x5] ∧ ReaderAt T.c_Reader H2 o ol z wd (line ++ textA (uss.take i).flatten line) (klA wd (uss.take i).flatten kl) ∧ badA wd (uss.take i).flatten kl = none) ?_ ?_ ?_ ?_
    · refine ⟨s1, none, none, rfl, ?_, rfl⟩
      show ReaderAt T.c_Reader H1 o ol z wd (line ++ []) kl
      rw [List.append_nil]
      exact hrd1
    · rintro i σ H2 _ ⟨s2, _⟩
      exact SqL.of (s2 _ _ hpl)
    · rintro i v σ H2 hv ⟨s2, x4, x5, rfl, hrd2, hbd⟩
      obtain ⟨x, hx, rfl⟩ : ∃ x, as[i]? = some x ∧ v = V.ref x := by
        rw [List.getElem?_map] at hv
        cases e : as[i]? with
        | none => rw [e] at hv; cases hv
        | some x => rw [e] at hv; cases hv; exact ⟨x, rfl, rfl⟩
      obtain ⟨us, hu, hp⟩ := hps i x hx
      have hum := List.mem_of_getElem? hu
      have hut := hus us hum
      have hp2 := hp.same s2
      have hft := flat_take hu
      have hTWi : ∀ t ∈ (uss.take i).flatten, TokW z wd t := fun t ht => hTW t (by rw [flat_split (i := i)]; exact List.mem_append_left _ ht)
      have hln : ((textA (uss.take i).flatten line).length : Int) = tsize (uss.take i).flatten := textA_len (z := z) _ _ fun t ht => ⟨(hTWi t ht).ok, (hTWi t ht).pl.1⟩
      have hs1 : tsize uss.flatten = tsize (uss.take (i + 1)).flatten + tsize (uss.drop (i + 1)).flatten := by rw [← tsize_app, ← flat_split]
      have hs2 : tsize (uss.take (i + 1)).flatten = tsize (uss.take i).flatten + tsize us := by rw [hft, tsize_app]
      have hs3 : 0 ≤ tsize (uss.drop (i + 1)).flatten := tsize_nn (z := z) fun t ht => (hTW t (by rw [flat_split (i := i + 1)]; exact List.mem_append_right _ ht)).ok
      obtain ⟨dxp, lp, pp, hxp⟩ := hp2.ins
      walk_at "rd"
      refine ⟨x, _, _, rfl, hxp, pf_no _ _ _ (by decide +kernel) (by decide +kernel) (by decide +kernel), ?_⟩
      refine ⟨x, z, us, rfl, hp2, fun tl1 tvs1 H3 s3 ntl1 htl1 htk1 => ?_⟩
      have hrd3 := hrd2.same s3
      walk_at "rd"
      refine ⟨o, ol, tl1, z, wd, _, _, tvs1, us, rfl, hrd3, htl1, htk1, hut.1, by rw [List.length_append]; omega, hut.2, fun H4 s4 => ?_⟩
      have hrd4 := hrd3.same s4
      have s04 := (s2.trans s3).trans s4
      by_cases hb : badA wd us (klA wd (uss.take i).flatten kl) = none
      · rw [if_pos hb]
        walk_at "rd"
        refine iteDN (fun e => by cases e) ?_
        walk_at "rd"
        have hrd4' := hrd4
        obtain ⟨⟨dx4, ho4⟩, hol4, _⟩ := hrd4'
        refine ⟨o, dx4, _, rfl, ho4, rdF_no _ _ _ _ (by decide +kernel) (by decide +kernel) (by decide +kernel) (by decide +kernel), ?_⟩
        walk_at "rd"
        have hxp4 := (s3.trans s4) _ _ hxp
        refine ⟨x, _, _, rfl, hxp4, pf_no _ _ _ (by decide +kernel) (by decide +kernel) (by decide +kernel), ?_⟩
        refine ⟨x, z, us, rfl, hp.same s04, fun tl2 tvs2 H5 s5 ntl2 htl2 htk2 => ?_⟩
        walk_at "rd"
        have hrd5 := hrd4.same s5
        refine ⟨o, ol, tl2, z, wd, _, _, tvs2, us, rfl, hrd5, SqL.of htl2, (ne_of_none hol4 ntl2).symm, htk2, fun t ht => (hut.1 t ht).pl, by rw [List.length_append]; omega, hut.2, ?_⟩
        rw [hb]
        intro H6 k6 hrd6
        have hl2 : ((textA us (line ++ textA (uss.take i).flatten line)).length : Int) = tsize us := textA_len (z := z) _ _ fun t ht => ⟨(hut.1 t ht).ok, (hut.1 t ht).pl.1⟩
        walk_at "rd"
        refine ⟨szl (by rw [stL_len, stL_len]; omega), ?_⟩
        rw [app_stL, ← textA_app, ← hft]
        rw [List.append_assoc, ← textA_app, ← klA_app, ← hft] at hrd6
        walk_at "rd"
        refine ⟨Same.keep2 (s04.trans s5) k6 no nol, _, _, rfl, hrd6, ?_⟩
        rw [hft, badA_app, hbd]
        exact hb
      · rw [if_neg hb]
        walk_at "rd"
        have q := k H4 s04
        rw [if_neg ?_] at q
        · exact q
        · intro e
          rw [flat_split (i := i + 1), hft, badA_app, badA_app, hbd] at e
          cases hb2 : badA wd us (klA wd (uss.take i).flatten kl) with
          | none => exact hb hb2
          | some x =>
            simp only [hb2] at e
            cases e
    · rintro σ H2 ⟨s2, x4, x5, rfl, hrd2, hbd⟩
      rw [List.length_map, hlen, List.take_length] at hbd ⊢
      walk_at "rd"
      have q := k H2 s2
      rw [if_pos hbd] at q
      exact q
theorem bag_upd0 {H : Hp} {b c D : Addr} {o : HO} (h : BagAt H b c) (n1 : D ≠ b) (n2 : D ≠ c) : BagAt (upd H D o) b c := by
  obtain ⟨p, q, n, cs, h1, h2, r⟩ := h
  exact ⟨p, q, n, cs, by rw [upd_ne n1.symm]; exact h1, by rw [upd_ne n2.symm]; exact h2, r⟩
def sp_law_plain (K : PySem.W.Frag) : Sp := fun vs H Q _ => ∃ (b c l : Addr) (z : Str) (tvs : List V) (ts : List (List V)) (wd : Nat), vs = [.ref b, .str z, .ref l, .int wd] ∧ BagAt H b c ∧ SignsOk z ∧ H l = some (.lst tvs) ∧ Toks K H z tvs ts ∧ ts.length ≤ 100 ∧ 1 ≤ wd ∧ wd ≤ 12 ∧
  ∀ (p : Addr) (pvs : List V) (us : List (List V)) (H' : Hp), KeepB b H H' → BagAt H' b c → H p = none → p ≠ b → H' p = some (.lst pvs) → Toks K H' z pvs us → (∀ t ∈ us, TokW z wd t) → us.length = ts.length → tsize us = tsize ts → Q (.ref p) H'
theorem ok_law_plain (T : Txt K mg) : FnOk P w K mg base CX0 3 T.f_law_plain T.d_law_plain ["_law_bag_here", "_law_signs_here", "_law_tokens", "_law_width"] (sp_law_plain K) := by
  have nd := sc_law_plain.nd
  refine T.F_law_plain.ok sc_law_plain (fun vs H Q E h => ?_) (fun cdv A outer s H vs Q E hr h => ?_)
  · obtain ⟨b, c, l, z, tvs, ts, wd, rfl, _⟩ := h
    rfl
  · obtain ⟨b, c, l, z, tvs, ts, wd, rfl, hb, hz, hl, htk, hn, hw1, hw2, k⟩ := h
    refine ⟨_, (pss_cons (ps_set (i := 4) nd rfl (Or.inl rfl) (pe_lst pa_nil))
    (pss_cons (ps_for PassesOwn.never rfl (pi_list (pv 2)) (pg_name (i := 5) nd rfl (Or.inl rfl)) (pss_one (ps_if (pt_cmpR (op_in_seqK (K := K) rfl) (pe_ix (ix_tupK (K := K) rfl) (pv 5) pe_int (fun _ _ => rfl)) (pe_tup (pa_cons pe_str (pa_cons pe_str pa_nil))) (by rfl)) (pss_one (ps_expr (pe_bm PySem.F.plainAttrs_list PySem.F.slot_list_append PySem.F.type_list_append mt_append (pv 4) (pa_cons (pe_tup (pa_cons pe_str (pa_cons (pe_call (ok_law_word T) (hr.mono (by decide)) (by rfl) T.m_law_word T.F_law_word.kp T.b_law_word .nil pass0 (pa_cons (pv 0) (pa_cons (pv 1) (pa_cons (pe_call (ok_law_size T) (hr.mono (by decide)) (by rfl) T.m_law_size T.F_law_size.kp T.b_law_size .nil pass0 (pa_cons (pv 5) pa_nil)) pa_nil)))) pa_nil))) pa_nil)))) (pss_one (ps_if (pt_cmpR op_eq (pe_ix (ix_tupK (K := K) rfl) (pv 5) pe_int (fun _ _ => rfl)) pe_str (nomark _)) (pss_one (ps_expr (pe_bm PySem.F.plainAttrs_list PySem.F.slot_list_append PySem.F.type_list_append mt_append (pv 4) (pa_cons (pe_tup (pa_cons pe_str (pa_cons (pe_callB (id := "min") (call_min2 rfl) (by rfl) T.n_min (by decide +kernel) (pa_cons (pv 3) (pa_cons (pe_ix (ix_tupK (K := K) rfl) (pv 5) pe_int (fun _ _ => rfl)) pa_nil))) (pa_cons (pe_ix (ix_tupK (K := K) rfl) (pv 5) pe_int (fun _ _ => rfl)) pa_nil)))) pa_nil)))) (pss_one (ps_expr (pe_bm PySem.F.plainAttrs_list PySem.F.slot_list_append PySem.F.type_list_append mt_append (pv 4) (pa_cons (pv 5) pa_nil)))))))))
    (pss_one (ps_ret (pv 4))))), ?_⟩
    have hlen := paired_len htk
    have hzl := hz.len
    walk_at "rd"
    intro D hD
    have nDb := hb.neb hD
    have nDc := hb.nec hD
    have nDl : D ≠ l := (ne_of_none hl hD).symm
    have nlb : l ≠ b := ne_bag hb hl (toks_no htk)
    walk_at "rd"
    refine ⟨⟨_, SqL.of (same_new hD _ _ hl)⟩, ?_⟩
    refine for_list (K := K) (a := l) (xs := tvs) (fun i σ H2 => KeepB b H H2 ∧ BagAt H2 b c ∧ ∃ (x5 : Option V) (pvs : List V) (us : List (List V)), σ = [some (.ref b), some (.str z), some (.ref l), some (.int wd), some (.ref D), x5] ∧ H2 D = some (.lst pvs) ∧ Toks K H2 z pvs us ∧ (∀ t ∈ us, TokW z wd t) ∧ us.length = i ∧ tsize us = tsize (ts.take i)) ?_ ?_ ?_ ?_
    · exact ⟨KeepB.of_same (same_new hD), bag_upd hb hD, none, [], [], rfl, upd_same, .nil, (fun _ h => nomatch h), rfl, rfl⟩
    · rintro i σ H2 _ ⟨k2, _⟩
      exact SqL.of (k2 _ _ nlb hl)
    · rintro i v σ H2 hv ⟨k2, b2, x5, pvs, us, rfl, hD2, hus, huw, hul, huz⟩
      obtain ⟨t, ht, htok⟩ := paired_get htk hv
      have htok2 : TokAt K H2 z v t := htok.bag k2 hb
      obtain ⟨⟨q, rfl, hq⟩, hok⟩ := htok2
      have hi : i < ts.length := (List.getElem?_eq_some_iff.mp ht).1
      have hpl := paired_len hus
      have fin : ∀ (H3 : Hp) (x : V) (u : List V), KeepB b H2 H3 → BagAt H3 b c → TokAt K H3 z x u → TokW z wd u → sizeV u = sizeV t →
          KeepB b H (upd H3 D (.lst (pvs ++ [x]))) ∧ BagAt (upd H3 D (.lst (pvs ++ [x]))) b c ∧ ∃ (x5 : Option V) (pvs' : List V) (us' : List (List V)), [some (V.ref b), some (.str z), some (.ref l), some (.int wd), some (.ref D), some (V.ref q)] = [some (.ref b), some (.str z), some (.ref l), some (.int wd), some (.ref D), x5] ∧ (upd H3 D (.lst (pvs ++ [x]))) D = some (.lst pvs') ∧ Toks K (upd H3 D (.lst (pvs ++ [x]))) z pvs' us' ∧ (∀ t ∈ us', TokW z wd t) ∧ us'.length = i + 1 ∧ tsize us' = tsize (ts.take (i + 1)) := by
        intro H3 x u k3 b3 hx hu hsz
        have hD3 := k3 _ _ nDb hD2
        refine ⟨KeepB.fresh (k2.trans k3) hD, bag_upd0 b3 nDb nDc, _, pvs ++ [x], us ++ [u], rfl, upd_same, ?_, ?_, ?_, ?_⟩
        · exact Toks.keep KeepB.put (lst_lst hD3) (paired_app (hus.keep k3 b2.lst) (paired_one hx))
        · intro t ht
          rcases List.mem_append.mp ht with h | h
          · exact huw t h
          · rw [List.mem_singleton.mp h]; exact hu
        · rw [List.length_append, hul]; rfl
        · rw [tsize_app, take_succ' ht, tsize_app, huz, tsize_one, tsize_one, hsz]
      obtain ⟨kd, rest, rfl, hk⟩ := tok_inv hok
      rcases hk with ⟨rfl, rfl⟩ | ⟨y, rfl, rfl, h1, h2, h3⟩ | ⟨y, rfl, rfl, h1⟩ | ⟨d, n, hkd, rfl, h1, h2, h3, h4⟩
      · walk_at "rd"
        intro p hp
        have sp := same_new (o := .tup [.str "any", .str "say"]) hp
        refine ⟨p, _, rfl, .inr (SqT.of upd_same), rfl, rfl, ?_⟩
        rw [if_neg Bool.false_ne_true, show inV (.str "flush") [.str "any", .str "say"] = false by decide +kernel]
        have hDp := sp _ _ hD2
        have hqp := sqT_same sp hq
        walk_at "rd"
        have bp := bag_same b2 sp
        have kp := KeepB.of_same (b := b) sp
        walk_at "ks"
        walk_at "rd"
        refine ⟨D, pvs, _, rfl, rfl, hDp, szt (by omega), ?_⟩
        exact fin _ _ _ kp bp ⟨⟨q, rfl, hqp⟩, hok⟩ TokW.flush rfl
      · walk_at "rd"
        intro p hp
        have sp := same_new (o := .tup [.str "any", .str "say"]) hp
        refine ⟨p, _, rfl, .inr (SqT.of upd_same), rfl, rfl, ?_⟩
        rw [if_neg Bool.false_ne_true, show inV (.str "text") [.str "any", .str "say"] = false by decide +kernel]
        have hDp := sp _ _ hD2
        have hqp := sqT_same sp hq
        walk_at "rd"
        have bp := bag_same b2 sp
        have kp := KeepB.of_same (b := b) sp
        walk_at "ks"
        walk_at "rd"
        refine ⟨D, pvs, _, rfl, rfl, hDp, szt (by omega), ?_⟩
        exact fin _ _ _ kp bp ⟨⟨q, rfl, hqp⟩, hok⟩ (TokW.text h1 (by omega) (by omega)) rfl
      · walk_at "rd"
        intro p hp
        have sp := same_new (o := .tup [.str "any", .str "say"]) hp
        refine ⟨p, _, rfl, .inr (SqT.of upd_same), rfl, rfl, ?_⟩
        rw [if_neg Bool.false_ne_true, show inV (.str "any") [.str "any", .str "say"] = true by decide +kernel]
        have hDp := sp _ _ hD2
        have hqp := sqT_same sp hq
        walk_at "rd"
        have bp := bag_same b2 sp
        have kp := KeepB.of_same (b := b) sp
        refine ⟨q, _, z, rfl, hqp, hok, fun H4 s4 => ?_⟩
        walk_at "rd"
        have hsz := (size_nn hok)
        refine ⟨b, c, z, 1, rfl, bag_same bp s4, hz, by decide, by decide, fun cs H5 k5 b5 hcs hn => ?_⟩
        walk_at "rd"
        intro q2 hq2
        have k25 := ((kp.trans (KeepB.of_same s4)).trans k5).trans (KeepB.new (o := .tup [.str "text", .str ⟨cs.toArray⟩]) hq2)
        have htw : TokW z wd [.str "text", .str ⟨cs.toArray⟩] := TokW.text (over_of hcs) (by rw [len_of]; omega) (by rw [len_of]; omega)
        refine ⟨D, pvs, _, rfl, rfl, k25 _ _ nDb hD2, szt (by omega), ?_⟩
        exact fin _ _ _ k25 (bag_upd b5 hq2) ⟨⟨q2, rfl, SqT.of upd_same⟩, htw.ok⟩ htw (by rw [sizeV_text, len_of, sizeV_any]; omega)
      · rcases hkd with rfl | rfl
        · walk_at "rd"
          intro p hp
          have sp := same_new (o := .tup [.str "any", .str "say"]) hp
          refine ⟨p, _, rfl, .inr (SqT.of upd_same), rfl, rfl, ?_⟩
          rw [if_neg Bool.false_ne_true, show inV (.str "copy") [.str "any", .str "say"] = false by decide +kernel]
          have hDp := sp _ _ hD2
          have hqp := sqT_same sp hq
          walk_at "rd"
          have bp := bag_same b2 sp
          have kp := KeepB.of_same (b := b) sp
          walk_at "ks"
          walk_at "rd"
          refine ⟨_, _, rfl, ?_⟩
          walk_at "rd"
          intro q2 hq2
          have s2 := same_new (o := .tup [.str "copy", .int (if d < (wd : Int) then d else wd), .int n]) hq2
          refine ⟨D, pvs, _, rfl, rfl, s2 _ _ hDp, szt (by omega), ?_⟩
          have htw : TokW z wd [.str "copy", .int (if d < (wd : Int) then d else wd), .int n] := TokW.copy (by split <;> omega) (by split <;> omega) hw2 h3 h4
          exact fin _ _ _ (kp.trans (KeepB.of_same s2)) (bag_same bp s2) ⟨⟨q2, rfl, SqT.of upd_same⟩, htw.ok⟩ htw rfl
        · walk_at "rd"
          intro p hp
          have sp := same_new (o := .tup [.str "any", .str "say"]) hp
          refine ⟨p, _, rfl, .inr (SqT.of upd_same), rfl, rfl, ?_⟩
          rw [if_neg Bool.false_ne_true, show inV (.str "say") [.str "any", .str "say"] = true by decide +kernel]
          have hDp := sp _ _ hD2
          have hqp := sqT_same sp hq
          walk_at "rd"
          have bp := bag_same b2 sp
          have kp := KeepB.of_same (b := b) sp
          refine ⟨q, _, z, rfl, hqp, hok, fun H4 s4 => ?_⟩
          walk_at "rd"
          have hsz := (size_nn hok)
          refine ⟨b, c, z, n, rfl, bag_same bp s4, hz, by omega, by omega, fun cs H5 k5 b5 hcs hn => ?_⟩
          walk_at "rd"
          intro q2 hq2
          have k25 := ((kp.trans (KeepB.of_same s4)).trans k5).trans (KeepB.new (o := .tup [.str "text", .str ⟨cs.toArray⟩]) hq2)
          have htw : TokW z wd [.str "text", .str ⟨cs.toArray⟩] := TokW.text (over_of hcs) (by rw [len_of]; omega) (by rw [len_of]; omega)
          refine ⟨D, pvs, _, rfl, rfl, k25 _ _ nDb hD2, szt (by omega), ?_⟩
          exact fin _ _ _ k25 (bag_upd b5 hq2) ⟨⟨q2, rfl, SqT.of upd_same⟩, htw.ok⟩ htw (by rw [sizeV_text, len_of]; exact hn)
    · rintro σ H2 ⟨k2, b2, x5, pvs, us, rfl, hD2, hus, huw, hul, huz⟩
      rw [hlen] at hul huz
      rw [List.take_length] at huz
      walk_at "rd"
      exact k D pvs us H2 k2 b2 hD nDb hD2 hus huw hul huz
def sp_Reader_read (K : PySem.W.Frag) (C S : Addr) : Sp := fun vs H Q E => ∃ (a l : Addr) (z : Str) (wd : Nat) (line : List Nat) (kl : Nat) (v : V) (t : List V), vs = [.ref a, v] ∧ ReaderAt C H a l z wd line kl ∧ TokAt K H z v t ∧ TokW z wd t ∧ line.length ≤ 49000 ∧
  match badT kl t with
  | none => ∀ H', Keep2 a l H H' → ReaderAt C H' a l z wd (line ++ textT line t) (klT wd kl t) → Q (.str (stL (textT line t))) H'
  | some b => ∀ (x : Addr) (H' : Hp), Same H H' → H' x = none → E (.ref S) (some x) (upd H' x (.xd [("ahead", .int b.2), ("distance", .int b.1)]))
theorem ok_Reader_read (T : Txt K mg) : FnOk P w K mg base (L2.CX P w) 7 T.f_Reader_read T.d_Reader_read ["self", "token"] (sp_Reader_read K T.c_Reader T.c_Short) := by
  have nd := sc_Reader_read.nd
  refine T.F_Reader_read.okX sc_Reader_read (fun vs H Q E h => ?_) (fun cdv A outer s H vs Q E hr h => ?_)
  · obtain ⟨a, l, z, wd, line, kl, v, t, rfl, _⟩ := h
    rfl
  · obtain ⟨a, l, z, wd, line, kl, v, t, rfl, hrd, ht, htw, hln, k⟩ := h
    refine ⟨_, (pss_cons (ps_asg (pe_meth (pv 0) T.cl_Reader T.mt_Readertold (ok_Readertold T) (hr.mono (by decide)) T.b_Readertold .nil (passes_call (takes_of rfl rfl rfl rfl) (fun _ _ _ _ h => h)) (pa_cons (pv 1) (pa_cons (pe_fld (pv 0) rfl) pa_nil))) (pg_tup rfl (pgs_cons (pg_name (i := 2) nd rfl (Or.inl rfl)) (pgs_cons (pg_name (i := 3) nd rfl (Or.inl rfl)) pgs_nil))))
    (pss_one (ps_ret (pe_meth (pv 0) T.cl_Reader T.mt_Readerput (ok_Readerput T) (hr.mono (by decide)) T.b_Readerput .nil pass0 (pa_cons (pv 2) (pa_cons (pv 3) pa_nil)))))), ?_⟩
    have hrd' := hrd
    obtain ⟨⟨dx, ha⟩, hl, hz, hw1, hw2, hk1, hk2⟩ := hrd
    have hpl := htw.pl
    have htl := textT_len (line := line) htw.ok hpl.1
    have hsz := (size_nn htw.ok)
    walk_at "rd"
    refine ⟨a, dx, _, rfl, ha, rdF_no _ _ _ _ (by decide +kernel) (by decide +kernel) (by decide +kernel) (by decide +kernel), ?_⟩
    walk_at "rd"
    refine ⟨a, _, dx, _, _, rfl, ha, T.cl_Reader, T.na_Reader_kept, rdF_kept _ _ _ _, ?_⟩
    walk_at "rd"
    refine ⟨a, dx, l, z, _, wd, v, t, line, kl, rfl, ha, hz, hw1, hw2, hk1, hk2, by omega, ht, hpl.1, hpl.2, ?_⟩
    by_cases hok : okT kl t = true
    · rw [if_pos hok]
      rw [badT_ok.mp hok] at k
      intro p H3 s3 hp3 hp
      walk_at "rd"
      have ha3 := s3 _ _ ha
      refine ⟨a, dx, _, rfl, ha3, rdF_no _ _ _ _ (by decide +kernel) (by decide +kernel) (by decide +kernel) (by decide +kernel), ?_⟩
      walk_at "rd"
      refine ⟨a, l, z, wd, line, kl, textT line t, klT wd kl t, rfl, hrd'.same s3, klT_le htw.ok hk1, klT_line htw.ok hpl.1 hk2, by rw [List.length_append]; omega, fun H4 k4 hrd4 => ?_⟩
      exact k H4 (fun b o nb nb2 e => k4 b o nb nb2 (s3 _ _ e)) hrd4
    · rw [if_neg hok]
      intro d n e x H3 s3 hx
      cases hb : badT kl t with
      | none => exact absurd (badT_ok.mpr hb) hok
      | some b =>
        rw [hb] at k
        obtain ⟨n', e', e2⟩ := badT_copy htw.ok hpl.1 hb
        rw [e] at e'
        cases e'
        have q := k x H3 s3 hx
        rw [e2] at q
        exact q
def sp_law_reader (K : PySem.W.Frag) (C : Addr) : Sp := fun vs H Q _ => ∃ (b c : Addr) (z : Str) (wd : Nat), vs = [.ref b, .str z, .int wd] ∧ BagAt H b c ∧ SignsOk z ∧ 1 ≤ wd ∧ wd ≤ 12 ∧
  ∀ (a l : Addr) (line : List Nat) (kl : Nat) (H' : Hp), KeepB b H H' → BagAt H' b c → H a = none → H l = none → ReaderAt C H' a l z wd line kl → line.length ≤ 36 → Q (.ref a) H'
theorem ok_law_reader (T : Txt K mg) : FnOk P w K mg base CX0 8 T.f_law_reader T.d_law_reader ["_law_bag_here", "_law_signs_here", "_law_width"] (sp_law_reader K T.c_Reader) := by
  have nd := sc_law_reader.nd
  refine T.F_law_reader.ok sc_law_reader (fun vs H Q E h => ?_) (fun cdv A outer s H vs Q E hr h => ?_)
  · obtain ⟨b, c, z, wd, rfl, _⟩ := h
    rfl
  · obtain ⟨b, c, z, wd, rfl, hb, hz, hw1, hw2, k⟩ := h
    refine ⟨_, (pss_cons (ps_set (i := 3) nd rfl (Or.inl rfl) (pe_make T.mk_Reader (ok_Reader_init T) (hr.mono (by decide)) (by rfl) T.m_Reader T.b_Reader_init .nil pass0 (pa_cons (pv 1) (pa_cons (pv 2) pa_nil))))
    (pss_cons (ps_for PassesOwn.never rfl (pi_range1 (by rfl) T.n_range (pa_cons (pe_call (ok_law_take T) (hr.mono (by decide)) (by rfl) T.m_law_take T.F_law_take.kp T.b_law_take .nil pass0 (pa_cons (pv 0) (pa_cons pe_int pa_nil))) pa_nil)) (pg_name (i := 4) nd rfl (Or.inl rfl)) (pss_cons (ps_expr (pe_meth (pv 3) T.cl_Reader T.mt_Reader_read (ok_Reader_read T) (hr.mono (by decide)) T.b_Reader_read .nil passF (pa_cons (pe_tup (pa_cons pe_str (pa_cons (pe_call (ok_law_word T) (hr.mono (by decide)) (by rfl) T.m_law_word T.F_law_word.kp T.b_law_word .nil pass0 (pa_cons (pv 0) (pa_cons (pv 1) (pa_cons (pe_op op_add pe_int (pe_call (ok_law_take T) (hr.mono (by decide)) (by rfl) T.m_law_take T.F_law_take.kp T.b_law_take .nil pass0 (pa_cons (pv 0) (pa_cons pe_int pa_nil)))) pa_nil)))) pa_nil))) pa_nil)))
    (pss_one (ps_if (pt_cmpR op_eq (pe_call (ok_law_take T) (hr.mono (by decide)) (by rfl) T.m_law_take T.F_law_take.kp T.b_law_take .nil pass0 (pa_cons (pv 0) (pa_cons pe_int pa_nil))) pe_int (nomark _)) (pss_one (ps_expr (pe_meth (pv 3) T.cl_Reader T.mt_Reader_read (ok_Reader_read T) (hr.mono (by decide)) T.b_Reader_read .nil passF (pa_cons (pe_tup (pa_cons pe_str pa_nil)) pa_nil)))) pss_nil))))
    (pss_one (ps_ret (pv 3))))), ?_⟩
    walk_at "rd"
    intro o ox hno hnox hne
    have smk := same_make (C := T.c_Reader) hno hnox hne
    refine ⟨o, ox, z, wd, rfl, upd_same, hz, hw1, hw2, fun ol H1 k1 hl1 nlo hrd1 => ?_⟩
    have s1 : Same H H1 := same_keepB hno ((KeepB.of_same smk).trans k1)
    have hnol : H ol = none := smk.free hl1
    have nob : o ≠ b := hb.neb hno
    have nlb : ol ≠ b := hb.neb hnol
    have noc : o ≠ c := hb.nec hno
    have nlc : ol ≠ c := hb.nec hnol
    walk_at "rd"
    refine ⟨b, c, 3, rfl, bag_same hb s1, by decide, by decide, fun r H2 k2 b2 r0 r1 => ?_⟩
    walk_at "rd"
    have hrdk : ∀ {H0 H' : Hp} {line : List Nat} {kl : Nat}, KeepB b H0 H' → ReaderAt T.c_Reader H0 o ol z wd line kl → ReaderAt T.c_Reader H' o ol z wd line kl := fun kk ⟨⟨d, h1⟩, h2, r⟩ => ⟨⟨d, kk _ _ nob h1⟩, kk _ _ nlb h2, r⟩
    have tr : ∀ {H3 H4 : Hp}, KeepB b H H3 → Keep2 o ol H3 H4 → KeepB b H H4 := fun k3 k4 d u nd e => k4 d u (ne_of_none e hno) (ne_of_none e hnol) (k3 d u nd e)
    have btr : ∀ {H3 H4 : Hp}, BagAt H3 b c → Keep2 o ol H3 H4 → BagAt H4 b c := fun ⟨p, q, n, cs, h1, h2, r⟩ k4 => ⟨p, q, n, cs, k4 _ _ nob.symm nlb.symm h1, k4 _ _ noc.symm nlc.symm h2, r⟩
    refine for_range (lo := 0) (n := r.toNat) (fun i σ H3 => KeepB b H H3 ∧ BagAt H3 b c ∧ ∃ (x4 : Option V) (line : List Nat) (kl : Nat), σ = [some (.ref b), some (.str z), some (.int wd), some (.ref o), x4] ∧ ReaderAt T.c_Reader H3 o ol z wd line kl ∧ line.length ≤ 12 * i) ?_ ?_ ?_
    · exact ⟨(KeepB.of_same s1).trans k2, b2, none, [], 0, rfl, hrdk k2 hrd1, Nat.le_refl _⟩
    · rintro i σ H3 hi ⟨k3, b3, x4, line, kl, rfl, hrd3, hln⟩
      have hrd3' := hrd3
      obtain ⟨⟨d3, ho3⟩, _⟩ := hrd3'
      walk_at "rd"
      refine ⟨o, d3, _, rfl, ho3, rdF_no _ _ _ _ (by decide +kernel) (by decide +kernel) (by decide +kernel) (by decide +kernel), ?_⟩
      walk_at "rd"
      refine ⟨b, c, 12, rfl, b3, by decide, by decide, fun r4 H4 k4 b4 r40 r41 => ?_⟩
      walk_at "rd"
      refine ⟨b, c, z, 1 + r4, rfl, b4, hz, by omega, by omega, fun cs H5 k5 b5 hcs hn => ?_⟩
      walk_at "rd"
      intro p hp
      have sp := same_new (o := .tup [.str "text", .str ⟨cs.toArray⟩]) hp
      have hrd5 := (hrdk k5 (hrdk k4 hrd3)).same sp
      have b6 := bag_same b5 sp
      have k36 : KeepB b H _ := ((k3.trans k4).trans k5).trans (KeepB.of_same sp)
      have htw : TokW z wd [.str "text", .str ⟨cs.toArray⟩] := TokW.text (over_of hcs) (by rw [len_of]; omega) (by rw [len_of]; omega)
      refine ⟨o, ol, z, wd, line, kl, _, _, rfl, hrd5, ⟨⟨p, rfl, SqT.of upd_same⟩, htw.ok⟩, htw, by omega, ?_⟩
      show ∀ H', Keep2 o ol _ H' → ReaderAt T.c_Reader H' o ol z wd (line ++ cl ⟨cs.toArray⟩) _ → _
      intro H7 k7 hrd7
      have k37 := tr k36 k7
      have b7 := btr b6 k7
      have hln7 : (line ++ cl ⟨cs.toArray⟩).length ≤ 12 * (i + 1) := by
        rw [List.length_append, cl_len, len_of]
        omega
      generalize line ++ cl ⟨cs.toArray⟩ = line7 at hrd7 hln7
      generalize klT wd kl [.str "text", .str ⟨cs.toArray⟩] = kl7 at hrd7
      clear hrd5 b6 sp hp b5 b4 b3 hrd3 ho3 k36 k7
      walk_at "rd"
      refine ⟨b, c, 4, rfl, b7, by decide, by decide, fun r8 H8 k8 b8 r80 r81 => ?_⟩
      have hrd8 := hrdk k8 hrd7
      walk_at "rd"
      refine iteI (fun h0 => ?_) (fun h0 => ?_)
      · have hrd8' := hrd8
        obtain ⟨⟨d8, ho8⟩, _⟩ := hrd8'
        walk_at "rd"
        refine ⟨o, d8, _, rfl, ho8, rdF_no _ _ _ _ (by decide +kernel) (by decide +kernel) (by decide +kernel) (by decide +kernel), ?_⟩
        walk_at "rd"
        intro q hq
        have sq := same_new (o := .tup [.str "flush"]) hq
        refine ⟨o, ol, z, wd, line7, kl7, _, _, rfl, hrd8.same sq, ⟨⟨q, rfl, SqT.of upd_same⟩, tok_flush⟩, TokW.flush, by omega, ?_⟩
        show ∀ H', Keep2 o ol _ H' → ReaderAt T.c_Reader H' o ol z wd (line7 ++ []) 0 → _
        intro H9 k9 hrd9
        walk_at "rd"
        rw [List.append_nil] at hrd9
        exact ⟨tr ((k37.trans k8).trans (KeepB.of_same sq)) k9, btr (bag_same b8 sq) k9, _, line7, 0, rfl, hrd9, hln7⟩
      · walk_at "rd"
        exact ⟨k37.trans k8, b8, _, line7, kl7, rfl, hrd8, hln7⟩
    · rintro σ H3 ⟨k3, b3, x4, line, kl, rfl, hrd3, hln⟩
      walk_at "rd"
      exact k o ol line kl H3 k3 b3 hno hnol hrd3 (by omega)
def sp_law_signs : Sp := fun vs H Q _ => ∃ b c : Addr, vs = [.ref b] ∧ BagAt H b c ∧ ∀ (z : Str) (H' : Hp), KeepB b H H' → BagAt H' b c → SignsOk z → Q (.str z) H'
theorem ok_law_signs (T : Txt K mg) : FnOk P w K mg base CX0 2 T.f_law_signs T.d_law_signs ["_law_bag_here"] sp_law_signs := by
  have nd := sc_law_signs.nd
  refine T.F_law_signs.ok sc_law_signs (fun vs H Q E h => ?_) (fun cdv A outer s H vs Q E hr h => ?_)
  · obtain ⟨b, c, rfl, _⟩ := h
    rfl
  · obtain ⟨b, c, rfl, hb, k⟩ := h
    refine ⟨_, (pss_one (ps_ret (pe_ix (ix_listK (K := K) rfl) (pe_lst (pa_cons pe_str (pa_cons pe_str (pa_cons pe_str (pa_cons pe_str (pa_cons pe_str (pa_cons pe_str (pa_cons pe_str pa_nil)))))))) (pe_call (ok_law_take T) (hr.mono (by decide)) (by rfl) T.m_law_take T.F_law_take.kp T.b_law_take .nil pass0 (pa_cons (pv 0) (pa_cons pe_int pa_nil))) (fun _ _ => rfl)))), ?_⟩
    walk_at "rd"
    intro p hp
    walk_at "rd"
    refine ⟨b, c, _, rfl, bag_upd hb hp, by decide, by decide, fun r H1 k1 b1 r0 r1 => ?_⟩
    obtain ⟨v, hv, ev⟩ := at_mem (xs := [V.str "ab", V.str "abc", V.str "xz", V.str "bdfhjl", V.str "mnoz", V.str "ay", V.str "cegkw"]) (r := r) r0 r1
    refine ⟨_, _, _, _, rfl, rfl, SqL.of (k1 _ _ (hb.neb hp) upd_same), ev, ?_⟩
    have ok : ∃ z, v = .str z ∧ SignsOk z := by
      simp only [List.mem_cons, List.not_mem_nil, or_false] at hv
      rcases hv with rfl | rfl | rfl | rfl | rfl | rfl | rfl <;> exact ⟨_, rfl, by unfold SignsOk; decide +kernel⟩
    obtain ⟨z, rfl, hz⟩ := ok
    exact k z H1 ((KeepB.new hp).trans k1) b1 hz
theorem chunk_len {ts : List (List L2.V)} {b e : Int} (h0 : 0 ≤ b) (hbe : b < e) (h1 : e ≤ ((placesL ts).length : Int)) (h2 : e - b ≤ 40) : (partT ts b e).length ≤ 81 := by
  have hpll : (((placesL ts).drop b.toNat).take (e - b).toNat).length = (e - b).toNat := by
    rw [List.length_take, List.length_drop]
    omega
  have mln := mergeA_len (f := inPart (flushA ts 0 []) b e (placesL ts).length) (((placesL ts).drop b.toNat).take (e - b).toNat) 0 []
  unfold partT mergeL
  rw [List.length_nil] at mln
  omega
theorem ReaderAt.bagK {C : Addr} {H H' : Hp} {b a l : Addr} {z : Str} {w : Nat} {line : List Nat} {kl : Nat} (k : KeepB b H H') (na : a ≠ b) (nl : l ≠ b) (h : ReaderAt C H a l z w line kl) : ReaderAt C H' a l z w line kl := by
  obtain ⟨⟨d, h1⟩, h2, r⟩ := h
  exact ⟨⟨d, k _ _ na h1⟩, k _ _ nl h2, r⟩
def sp_law (K : PySem.W.Frag) : Sp := fun vs H Q _ => ∃ (a : Addr) (ns : List Int), vs = [.ref a] ∧ SqL K H a (ns.map V.int) ∧ ns.length ≤ 63 ∧ ∀ H', Q (.bl true) H'
theorem ok_law (T : Txt K mg) : FnG P w K mg base 11 T.f_law T.d_law ["_law_script"] (sp_law K) := by
  have nd := sc_law.nd
  refine FnG.by_body T.F_law sc_law (fun vs H Q E h => ?_) (fun cdv A outer s H vs Q E hr h => ?_)
  · obtain ⟨a, ns, rfl, _⟩ := h
    rfl
  · obtain ⟨a, ns, rfl, ha, hn, k⟩ := h
    refine ⟨_, (pss_cons (ps_set (i := 1) nd rfl (Or.inl rfl) (pe_call (ok_law_bag T) (hr.room.mono (by decide)) (by rfl) T.m_law_bag T.F_law_bag.kp T.b_law_bag .nil pass0 (pa_cons (pv 0) pa_nil)))
    (pss_cons (ps_for PassesOwn.never rfl (pi_range1 (by rfl) T.n_range (pa_cons pe_int pa_nil)) (pg_name (i := 2) nd rfl (Or.inl rfl)) (pss_cons (ps_par (i := 3) (j := 4) (by rfl) nd rfl rfl (by decide) rfl rfl (pa_cons (pe_call (ok_law_signs T) (hr.room.mono (by decide)) (by rfl) T.m_law_signs T.F_law_signs.kp T.b_law_signs .nil pass0 (pa_cons (pv 1) pa_nil)) (pa_cons (pe_ix (ix_listK (K := K) rfl) (pe_lst (pa_cons pe_int (pa_cons (pe_op op_add pe_int (pe_call (ok_law_take T) (hr.room.mono (by decide)) (by rfl) T.m_law_take T.F_law_take.kp T.b_law_take .nil pass0 (pa_cons (pv 1) (pa_cons pe_int pa_nil)))) pa_nil))) (pe_call (ok_law_take T) (hr.room.mono (by decide)) (by rfl) T.m_law_take T.F_law_take.kp T.b_law_take .nil pass0 (pa_cons (pv 1) (pa_cons pe_int pa_nil))) (fun _ _ => rfl)) pa_nil)) (by rfl))
    (pss_cons (ps_set (i := 5) nd rfl (Or.inl rfl) (pe_call (ok_law_plain T) (hr.room.mono (by decide)) (by rfl) T.m_law_plain T.F_law_plain.kp T.b_law_plain .nil pass0 (pa_cons (pv 1) (pa_cons (pv 3) (pa_cons (pe_call (ok_law_free_tokens T) (hr.room.mono (by decide)) (by rfl) T.m_law_free_tokens T.F_law_free_tokens.kp T.b_law_free_tokens .nil pass0 (pa_cons (pv 1) (pa_cons (pv 3) (pa_cons (pe_ix (ix_listK (K := K) rfl) (pe_lst (pa_cons pe_int (pa_cons pe_int pa_nil))) (pe_call (ok_law_take T) (hr.room.mono (by decide)) (by rfl) T.m_law_take T.F_law_take.kp T.b_law_take .nil pass0 (pa_cons (pv 1) (pa_cons pe_int pa_nil))) (fun _ _ => rfl)) pa_nil)))) (pa_cons (pv 4) pa_nil))))))
    (pss_cons (ps_set (i := 6) nd rfl (Or.inl rfl) (pe_make T.mk_Piece (ok_Piece_init T) (hr.room.mono (by decide)) (by rfl) T.m_Piece T.b_Piece_init .nil pass0 (pa_cons (pv 3) (pa_cons (pe_callTy (T := "list") call_list_of (by rfl) T.n_list (by decide +kernel) (pa_cons (pv 5) pa_nil)) pa_nil))))
    (pss_one (ps_for PassesOwn.never rfl (pi_range1 (by rfl) T.n_range (pa_cons pe_int pa_nil)) (pg_name (i := 7) nd rfl (Or.inl rfl)) (pss_cons (ps_set (i := 8) nd rfl (Or.inl rfl) (pe_call (ok_law_reader T) (hr.room.mono (by decide)) (by rfl) T.m_law_reader T.F_law_reader.kp T.b_law_reader .nil pass0 (pa_cons (pv 1) (pa_cons (pv 3) (pa_cons (pv 4) pa_nil)))))
    (pss_cons (ps_par (i := 9) (j := 10) (by rfl) nd rfl rfl (by decide) rfl rfl (pa_cons (pe_call (ok_law_told T) (hr.room.mono (by decide)) (by rfl) T.m_law_told T.F_law_told.kp T.b_law_told .nil pass0 (pa_cons (pv 8) (pa_cons (pv 5) pa_nil))) (pa_cons (pe_meth0 (pv 8) T.cl_Reader T.mt_Reader_written (ok_Reader_written T) (hr.room.mono (by decide)) T.b_Reader_written .nil pass0) pa_nil)) (by rfl))
    (C8.pss_cut (ps_set (i := 11) nd rfl (Or.inl rfl) (pe_or (pe_cmpR op_isN (pe_meth0 (pv 6) T.cl_Piece T.mt_Piece_needs (ok_Piece_needs T) (hr.room.mono (by decide)) T.b_Piece_needs .nil pass0) pe_non (nomark _)) (pe_one (pe_cmpR op_gt (pe_meth0 (pv 6) T.cl_Piece T.mt_Piece_needs (ok_Piece_needs T) (hr.room.mono (by decide)) T.b_Piece_needs .nil pass0) (pe_callB (id := "len") (call_lenK (K := K) rfl) (by rfl) T.n_len (by decide +kernel) (pa_cons (pe_meth0 (pv 8) T.cl_Reader T.mt_Reader_kept (ok_Reader_kept T) (hr.room.mono (by decide)) T.b_Reader_kept .nil pass0) pa_nil)) (nomark _)))))
    (pss_cons (ps_if (pt_cmpR op_ne (pe_cmpR op_isN (pv 9) pe_non (nomark _)) (pv 11) (nomark _)) (pss_one (ps_ret pe_bl)) pss_nil)
    (pss_cons (ps_set (i := 12) nd rfl (Or.inl rfl) (pe_op (op_binOwn (FnG.of (ok_Piece_floordiv T)) (hr.mono (by decide)) rfl T.op_Piece_floordiv T.b_Piece_floordiv pass0) (pv 6) (pe_op op_add pe_int (pe_call (ok_law_take T) (hr.room.mono (by decide)) (by rfl) T.m_law_take T.F_law_take.kp T.b_law_take .nil pass0 (pa_cons (pv 1) (pa_cons (pe_callB (id := "len") (call_lenOwn (C := T.c_Piece) (FnG.of (ok_Piece_len T)) (hr.mono (by decide)) T.mt_Piece_len.at_ T.mt_Piece_len.fn T.b_Piece_len pass0) (by rfl) T.n_len (by decide +kernel) (pa_cons (pv 6) pa_nil)) pa_nil))))))
    (pss_cons (ps_if (pt_cmpR op_ne (pe_call (ok_law_in_parts T) (hr.room.mono (by decide)) (by rfl) T.m_law_in_parts T.F_law_in_parts.kp T.b_law_in_parts .nil pass0 (pa_cons (pv 8) (pa_cons (pv 12) pa_nil))) (pv 9) (nomark _)) (pss_one (ps_ret pe_bl)) pss_nil)
    (pss_cons (ps_if (PW.pt (pw_and (pt_cmpR op_notN (pv 9) pe_non (nomark _)) (pw_and1 (pt_cmpR op_ne (pe_callB (id := "len") (call_lenK (K := K) rfl) (by rfl) T.n_len (by decide +kernel) (pa_cons (pv 9) pa_nil)) (pe_callB (id := "len") (call_lenOwn (C := T.c_Piece) (FnG.of (ok_Piece_len T)) (hr.mono (by decide)) T.mt_Piece_len.at_ T.mt_Piece_len.fn T.b_Piece_len pass0) (by rfl) T.n_len (by decide +kernel) (pa_cons (pv 6) pa_nil)) (nomark _))))) (pss_one (ps_ret pe_bl)) pss_nil)
    (pss_one (ps_if (PW.pt (pw_and (pt_cmpR op_notN (pv 9) pe_non (nomark _)) (pw_and1 (pt_not (pt_val (pe_call (ok_law_copied_right T) (hr.room.mono (by decide)) (by rfl) T.m_law_copied_right T.F_law_copied_right.kp T.b_law_copied_right .nil pass0 (pa_cons (pe_op op_add_str (pv 10) (pv 9)) (pa_cons (pe_callB (id := "len") (call_lenK (K := K) rfl) (by rfl) T.n_len (by decide +kernel) (pa_cons (pv 10) pa_nil)) (pa_cons (pv 5) pa_nil))))))))) (pss_one (ps_ret pe_bl)) pss_nil)))))))))))))))
    (pss_one (ps_ret pe_bl)))), ?_⟩
    walk_at "rd"
    refine ⟨a, ns, rfl, ha, hn, fun b c H1 s1 hb b1 => ?_⟩
    walk_at "rd"
    refine for_range (lo := 0) (n := 8) (fun i σ H2 => BagAt H2 b c ∧ ∃ x2 x3 x4 x5 x6 x7 x8 x9 x10 x11 x12 : Option V, σ = [some (.ref a), some (.ref b), x2, x3, x4, x5, x6, x7, x8, x9, x10, x11, x12]) ?_ ?_ ?_
    · exact ⟨b1, _, _, _, _, _, _, _, _, _, _, _, rfl⟩
    · rintro i σ H2 hi ⟨b2, x2, x3, x4, x5, x6, x7, x8, x9, x10, x11, x12, rfl⟩
      walk_at "rd"
      refine ⟨b, c, rfl, b2, fun z H3 k3 b3 hz => ?_⟩
      walk_at "rd"
      refine ⟨b, c, 12, rfl, b3, by decide, by decide, fun rw H4 k4 b4 rw0 rw1 => ?_⟩
      walk_at "rd"
      intro p hp
      have npb : p ≠ b := b4.neb hp
      walk_at "rd"
      refine ⟨b, c, 2, rfl, bag_upd b4 hp, by decide, by decide, fun r H5 k5 b5 r0 r1 => ?_⟩
      obtain ⟨wd, hm, hw1, hw2⟩ : ∃ wd : Nat, atI [V.int 12, V.int (1 + rw)] r = some (V.int wd) ∧ 1 ≤ wd ∧ wd ≤ 12 := by
        have h01 : r = 0 ∨ r = 1 := by omega
        rcases h01 with rfl | rfl
        · exact ⟨12, rfl, by decide, by decide⟩
        · exact ⟨(1 + rw).toNat, by rw [show (((1 + rw).toNat : Nat) : Int) = 1 + rw by omega]; rfl, by omega, by omega⟩
      refine ⟨_, _, _, _, rfl, rfl, SqL.of (k5 _ _ npb upd_same), hm, ?_⟩
      walk_at "rd"
      try refine ⟨_, _, rfl, ?_⟩
      walk_at "rd"
      intro p2 hp2
      have np2 : p2 ≠ b := b5.neb hp2
      walk_at "rd"
      refine ⟨b, c, 2, rfl, bag_upd b5 hp2, by decide, by decide, fun r6 H6 k6 b6 r60 r61 => ?_⟩
      obtain ⟨m, hm2, m1, m2⟩ : ∃ m : Int, atI [V.int 8, V.int 40] r6 = some (V.int m) ∧ 1 ≤ m ∧ m ≤ 40 := by
        have h01 : r6 = 0 ∨ r6 = 1 := by omega
        rcases h01 with rfl | rfl
        · exact ⟨8, rfl, by decide, by decide⟩
        · exact ⟨40, rfl, by decide, by decide⟩
      refine ⟨_, _, _, _, rfl, rfl, SqL.of (k6 _ _ np2 upd_same), hm2, ?_⟩
      walk_at "rd"
      refine ⟨b, c, z, m, rfl, b6, hz, m1, m2, fun fl ftvs fts H7 k7 b7 hfl nfl hfl7 htk7 hn1 hs1 hs2 => ?_⟩
      walk_at "rd"
      refine ⟨b, c, fl, z, ftvs, fts, wd, rfl, b7, hz, hfl7, htk7, by omega, hw1, hw2, fun l tvs ts H8 k8 b8 hl nlb hl8 htk htw hul huz => ?_⟩
      walk_at "rd"
      refine ⟨l, tvs, rfl, .inl (SqL.of hl8), fun l9 hl9 => ?_⟩
      walk_at "rd"
      intro pa dx hpa hdx hne
      have s8 := same_new (o := .lst tvs) hl9
      have s9 := same_make (C := T.c_Piece) hpa hdx hne
      have s89 := s8.trans s9
      refine ⟨pa, dx, l9, z, tvs, ts, rfl, upd_same, hz, SqL.of (s9 _ _ upd_same), Toks.same s89 htk, by omega, by omega, by omega, fun H9 k9 pat new => ?_⟩
      have s19 : Same H8 H9 := s8.trans (same_keepB hpa ((KeepB.of_same s9).trans k9))
      have b9 := bag_same b8 s19
      have hl9' := s19 _ _ hl8
      have htk9 := htk.same s19
      have hs40 : tsize ts ≤ 40 := by omega
      have hs1' : 1 ≤ tsize ts := by omega
      have hn20 : ts.length ≤ 20 := by omega
      have hok : ∀ t ∈ ts, tokV z t = true := fun t ht => (htw t ht).ok
      have hpn := places_len hok
      clear s19 k9 new s89 s9 s8 hpa hdx hne hl9 hl8 htk b8 k8 hul huz hfl htk7 hfl7 hs1 hs2 hn1 k7 b7 k6 hm2 b6 hp2 np2 k5 hm b5 hp npb k4 b4 k3 b3 hl
      generalize pa = q at pat
      walk_at "rd"
      refine for_range (lo := 0) (n := 3) (fun i2 σ H2 => KeepB b H9 H2 ∧ BagAt H2 b c ∧ ∃ x7 x8 x9 x10 x11 x12 : Option V, σ = [some (.ref a), some (.ref b), some (.int (0 + i)), some (.str z), some (.int wd), some (.ref l), some (.ref q), x7, x8, x9, x10, x11, x12]) ?_ ?_ ?_
      · exact ⟨KeepB.refl _ _, b9, _, _, _, _, _, _, rfl⟩
      · rintro i2 σ H10 hi2 ⟨k10, b10, x7, x8, x9, x10, x11, x12, rfl⟩
        have hl10 := k10 _ _ nlb hl9'
        have htk10 := htk9.bag k10 b9
        have pat10 := pat.keepBag k10 b9
        walk_at "rd"
        refine ⟨b, c, z, wd, rfl, b10, hz, hw1, hw2, fun o ol line kl H11 k11 b11 no nol hrd hln => ?_⟩
        have nob : o ≠ b := b10.neb no
        have nolb : ol ≠ b := b10.neb nol
        have hl11 := k11 _ _ nlb hl10
        have htk11 := htk10.bag k11 b10
        have pat11 := pat10.keepBag k11 b10
        walk_at "rd"
        refine ⟨o, ol, l, z, wd, line, kl, tvs, ts, rfl, hrd, hl11, htk11, htw, by omega, by omega, fun H12 s12 => ?_⟩
        have hrd12 := hrd.same s12
        have K9 : KeepB b H9 H12 := (k10.trans k11).trans (KeepB.of_same s12)
        have b12 := bag_same b11 s12
        have hl12 := s12 _ _ hl11
        have htk12 := htk11.same s12
        have pat12 := pat11.same s12
        have hkw : kl ≤ wd := hrd.2.2.2.2.2.1
        have hkl : kl ≤ line.length := hrd.2.2.2.2.2.2
        have bn := bad_needs (kl := kl) htw hkw
        have hrd12' := hrd12
        obtain ⟨⟨dxo, ho⟩, _⟩ := hrd12'
        obtain ⟨dxq, lq, pq, hq⟩ := pat12.ins
        clear hrd s12 b11 hl11 htk11 pat11 k11 no nol
        obtain ⟨told, htold⟩ : ∃ v : V, v = if badA wd ts kl = none then V.str (stL (textA ts line)) else V.non := ⟨_, rfl⟩
        rw [← htold]
        walk_at "rd"
        refine ⟨o, dxo, _, rfl, ho, rdF_no _ _ _ _ (by decide +kernel) (by decide +kernel) (by decide +kernel) (by decide +kernel), ?_⟩
        refine ⟨o, ol, z, wd, line, kl, rfl, hrd12, by omega, ?_⟩
        walk_at "rd"
        refine ⟨_, _, rfl, ?_⟩
        refine ⟨fun σ H' => H' = H12 ∧ ∃ x12 : Option V, σ = [some (.ref a), some (.ref b), some (.int (0 + i)), some (.str z), some (.int wd), some (.ref l), some (.ref q), some (.int (0 + i2)), some (.ref o), some told, some (.str (stL line)), some (.bl (decide (badA wd ts kl ≠ none))), x12], ?_, ?_⟩
        · walk_at "rd"
          refine ⟨q, _, _, rfl, hq, pf_no _ _ _ (by decide +kernel) (by decide +kernel) (by decide +kernel), ?_⟩
          refine ⟨q, z, ts, rfl, pat12, ?_⟩
          rcases needs_le ts hok none 0 0 (by decide) (by decide) (by decide) with e1 | ⟨n, e1, n0, n12⟩
          · have hb : badA wd ts kl ≠ none := bn.mpr (.inl e1)
            rw [e1]
            walk_at "rd"
            refine iteDY rfl ?_
            walk_at "rd"
            exact ⟨x12, by rw [decide_eq_true hb]; rfl⟩
          · rw [e1]
            walk_at "rd"
            refine iteDN (by intro e; cases e) ?_
            walk_at "rd"
            refine ⟨q, _, _, rfl, hq, pf_no _ _ _ (by decide +kernel) (by decide +kernel) (by decide +kernel), ?_⟩
            refine ⟨q, z, ts, rfl, pat12, ?_⟩
            rw [e1]
            walk_at "rd"
            refine ⟨o, dxo, _, rfl, ho, rdF_no _ _ _ _ (by decide +kernel) (by decide +kernel) (by decide +kernel) (by decide +kernel), ?_⟩
            refine ⟨o, ol, z, wd, line, kl, rfl, hrd12, ?_⟩
            walk_at "rd"
            refine ⟨_, _, rfl, ⟨szl (by rw [stL_len, tl_len hkl]; omega), rfl⟩, ?_⟩
            rw [stL_len, tl_len hkl]
            walk_at "rd"
            have e2 : decide (n > (kl : Int)) = decide (badA wd ts kl ≠ none) := decide_eq_decide.mpr (by
              rw [bn, e1]
              constructor
              · intro h; exact .inr ⟨n, rfl, h⟩
              · rintro (h | ⟨n', h, h2⟩)
                · cases h
                · cases h; exact h2)
            exact ⟨x12, by rw [← e2]; rfl⟩
        · rintro _ _ ⟨rfl, x12', rfl⟩
          walk_at "rd"
          by_cases hb : badA wd ts kl = none
          · rw [if_pos hb] at htold
            rw [decide_eq_false (show ¬ (badA wd ts kl ≠ none) from fun h => h hb)]
            subst htold
            refine iteKN rfl ?_
            walk_at "rd"
            refine ⟨q, _, _, rfl, hq, q, z, ts, rfl, pat12, by omega, (placesL ts).length, rfl, by omega, ?_⟩
            walk_at "rd"
            refine ⟨b, c, ((placesL ts).length : Int), rfl, b12, by omega, by omega, fun u H13 k13 b13 u0 u1 => ?_⟩
            have pat13 := pat12.keepBag k13 b12
            have hrd13 := hrd12.bagK k13 nob nolb
            have hl13 := k13 _ _ nlb hl12
            have htk13 := htk12.bag k13 b12
            obtain ⟨dx3, l3, p3, hq3⟩ := pat13.ins
            walk_at "rd"
            refine ⟨q, _, _, 1 + u, rfl, rfl, hq3, q, z, ts, 1 + u, rfl, pat13, hz, by omega, hs1', hs40, by omega, by omega, fun f as H14 s14 nf hf hfl hps => ?_⟩
            have hrd14 := hrd13.same s14
            have b14 := bag_same b13 s14
            obtain ⟨cr1, cr2, cr3⟩ := chunks_read (N := as.length) (line := line) (kl := kl) htw hs1' hs40 (show 1 ≤ 1 + u by omega) hfl hkw
            have hk14 : KeepB b H9 H14 := K9.trans (k13.trans (KeepB.of_same s14))
            walk_at "rd"
            refine ⟨o, ol, f, z, wd, line, kl, as, chunksT ts (1 + u) as.length, rfl, hrd14, hf, by unfold chunksT; rw [List.length_map, List.length_range], fun j x hx => ?_, fun us hus => ⟨cr1 us hus, ?_⟩, by rw [cr2]; omega, fun H15 s15 => ?_⟩
            · have hj : j < as.length := (List.getElem?_eq_some_iff.mp hx).1
              refine ⟨chunkT ts (1 + u) j, ?_, hps j x hx⟩
              unfold chunksT
              rw [List.getElem?_map, List.getElem?_range hj]
              rfl
            · unfold chunksT at hus
              obtain ⟨j, hj, rfl⟩ := List.mem_map.mp hus
              have hj := List.mem_range.mp hj
              obtain ⟨j0, j1⟩ := chunk_in (len := tsize ts) (n := 1 + u) (i := j) (by omega) (by omega)
              have hpl : (chunkT ts (1 + u) j).length ≤ 81 := by
                unfold chunkT
                exact chunk_len j0 (by split <;> omega) (by split <;> omega) (by split <;> omega)
              omega
            rw [cr3]
            rw [if_pos hb]
            walk_at "rd"
            refine iteNeF ?_
            walk_at "rd"
            refine iteKY (by rw [decide_eq_false (show ¬ V.str (stL (textA ts line)) = V.non from fun e => nomatch e)]; rfl) ?_
            have htl : ((textA ts line).length : Int) = tsize ts := textA_len (z := z) ts line fun t ht => ⟨hok t ht, (htw t ht).pl.1⟩
            have htl2 : (textA ts line).length = (placesL ts).length := by omega
            have pat15 := (pat13.same s14).same s15
            have hl15 := (s14.trans s15) _ _ hl13
            have htk15 := htk13.same (s14.trans s15)
            obtain ⟨dx5, l5, p5, hq5⟩ := pat15.ins
            walk_at "rd"
            refine ⟨_, _, rfl, ⟨szl (by rw [stL_len]; omega), rfl⟩, ?_⟩
            rw [stL_len]
            walk_at "rd"
            refine ⟨q, _, _, rfl, hq5, q, z, ts, rfl, pat15, by omega, (placesL ts).length, rfl, by omega, ?_⟩
            walk_at "rd"
            rw [htl2]
            refine iteNeF ?_
            walk_at "rd"
            refine iteKY (by rw [decide_eq_false (show ¬ V.str (stL (textA ts line)) = V.non from fun e => nomatch e)]; rfl) ?_
            walk_at "rd"
            refine ⟨szl (by rw [stL_len, stL_len]; omega), ?_⟩
            rw [app_stL]
            walk_at "rd"
            refine ⟨_, _, rfl, ⟨szl (by rw [stL_len]; omega), rfl⟩, ?_⟩
            rw [stL_len]
            walk_at "rd"
            have hrr : ∃ g : Int → Bool, readP wd g (placesL ts) line kl 0 = some (line ++ textA ts line, klA wd ts kl) := by
              classical
              exact ⟨_, by rw [← read_places ts line kl 0 htw hkw, readT_is, if_pos hb]⟩
            obtain ⟨g, hg⟩ := hrr
            obtain ⟨r1, r2, r3⟩ := read_right (placesL ts) line kl 0 _ _ (plainP_of htw) hkl hg
            refine ⟨l, z, tvs, ts, line ++ textA ts line, line, rfl, hl15, htk15, by omega, by rw [List.length_append]; omega, r1, r3, fun H16 s16 => ?_⟩
            walk_at "rd"
            try refine iteKN rfl ?_
            walk_at "rd"
            exact ⟨hk14.trans (KeepB.of_same (s15.trans s16)), bag_same b14 (s15.trans s16), _, _, _, _, _, _, rfl⟩
          · rw [if_neg hb] at htold
            rw [decide_eq_true hb]
            subst htold
            refine iteKN rfl ?_
            walk_at "rd"
            refine ⟨q, _, _, rfl, hq, q, z, ts, rfl, pat12, by omega, (placesL ts).length, rfl, by omega, ?_⟩
            walk_at "rd"
            refine ⟨b, c, ((placesL ts).length : Int), rfl, b12, by omega, by omega, fun u H13 k13 b13 u0 u1 => ?_⟩
            have pat13 := pat12.keepBag k13 b12
            have hrd13 := hrd12.bagK k13 nob nolb
            have hl13 := k13 _ _ nlb hl12
            have htk13 := htk12.bag k13 b12
            obtain ⟨dx3, l3, p3, hq3⟩ := pat13.ins
            walk_at "rd"
            refine ⟨q, _, _, 1 + u, rfl, rfl, hq3, q, z, ts, 1 + u, rfl, pat13, hz, by omega, hs1', hs40, by omega, by omega, fun f as H14 s14 nf hf hfl hps => ?_⟩
            have hrd14 := hrd13.same s14
            have b14 := bag_same b13 s14
            obtain ⟨cr1, cr2, cr3⟩ := chunks_read (N := as.length) (line := line) (kl := kl) htw hs1' hs40 (show 1 ≤ 1 + u by omega) hfl hkw
            have hk14 : KeepB b H9 H14 := K9.trans (k13.trans (KeepB.of_same s14))
            walk_at "rd"
            refine ⟨o, ol, f, z, wd, line, kl, as, chunksT ts (1 + u) as.length, rfl, hrd14, hf, by unfold chunksT; rw [List.length_map, List.length_range], fun j x hx => ?_, fun us hus => ⟨cr1 us hus, ?_⟩, by rw [cr2]; omega, fun H15 s15 => ?_⟩
            · have hj : j < as.length := (List.getElem?_eq_some_iff.mp hx).1
              refine ⟨chunkT ts (1 + u) j, ?_, hps j x hx⟩
              unfold chunksT
              rw [List.getElem?_map, List.getElem?_range hj]
              rfl
            · unfold chunksT at hus
              obtain ⟨j, hj, rfl⟩ := List.mem_map.mp hus
              have hj := List.mem_range.mp hj
              obtain ⟨j0, j1⟩ := chunk_in (len := tsize ts) (n := 1 + u) (i := j) (by omega) (by omega)
              have hpl : (chunkT ts (1 + u) j).length ≤ 81 := by
                unfold chunkT
                exact chunk_len j0 (by split <;> omega) (by split <;> omega) (by split <;> omega)
              omega
            rw [cr3]
            rw [if_neg hb]
            walk_at "rd"
            refine iteNeF ?_
            walk_at "rd"
            refine iteNeF ?_
            walk_at "rd"
            refine iteNeF ?_
            walk_at "rd"
            exact ⟨hk14.trans (KeepB.of_same s15), bag_same b14 s15, _, _, _, _, _, _, rfl⟩
      · rintro σ H2 ⟨k10, b10, x7, x8, x9, x10, x11, x12, rfl⟩
        walk_at "rd"
        exact ⟨_, _, _, _, _, _, _, _, _, _, _, rfl⟩
    · rintro σ H2 ⟨b2, x2, x3, x4, x5, x6, x7, x8, x9, x10, x11, x12, rfl⟩
      walk_at "rd"
      exact k H2
end
end
theorem all_mk {l : PySem.W.OpenLaw} {w : World} {K : PySem.W.Frag} {h : Heap} {mg : Str → Option Value} {fa c_Piece c_Reader c_NoToken c_Short f_ascends f_is_text f_is_choice f_is_integer f_is_within f_is_distance f_is_token f_size f_are_tokens f_places_of f_are_letters f_is_signs f_Piece_init f_Piece_flushes f_go_together f_joined f_token_of f_merged_tokens f_Piece_part f_Piece_floordiv f_Piece_len f_Piece_needs f_Reader_kept f_Reader_written f_law_bag f_law_places f_law_copied_right f_law_take f_law_choice f_law_word f_law_free_token f_law_size f_law_wide f_law_free_tokens f_Piece_tokens f_is_width f_Reader_init f_Reader_copied f_Readerput f_Short_init f_Readercopy f_Readerlast f_is_plain f_Readertold f_Reader_read_all f_law_told f_law_in_parts f_law_plain f_Reader_read f_law_reader f_law_signs f_law : Addr} (X : K.In h) (G : h.Ns mainGlobals mg) (hfa : mg "law" = some (.ref fa))
    {od0 an0 od1 an1 od2 an2 od3 an3 od4 an4 od5 an5 od6 an6 od7 an7 od8 an8 od9 an9 od10 an10 od11 an11 od12 an12 od13 an13 od14 an14 od15 an15 od16 an16 od17 an17 od18 an18 od19 an19 od20 an20 od21 an21 od22 an22 od23 an23 od24 an24 od25 an25 od26 an26 od27 an27 od28 an28 od29 an29 od30 an30 od31 an31 od32 an32 od33 an33 od34 an34 od35 an35 od36 an36 od37 an37 od38 an38 od39 an39 od40 an40 od41 an41 od42 an42 od43 an43 od44 an44 od45 an45 od46 an46 od47 an47 od48 an48 od49 an49 od50 an50 od51 an51 : Option Addr} {sl0 sl1 sl2 sl3 sl4 sl5 sl6 sl7 sl8 sl9 sl10 sl11 sl12 sl13 sl14 sl15 sl16 sl17 sl18 sl19 sl20 sl21 sl22 sl23 sl24 sl25 sl26 sl27 sl28 sl29 sl30 sl31 sl32 sl33 sl34 sl35 sl36 sl37 sl38 sl39 sl40 sl41 sl42 sl43 sl44 sl45 sl46 sl47 sl48 sl49 sl50 sl51 : Array (Option Value)} {oc0 kV0 dc0 pm0 cd0 ct0 oc1 kV1 dc1 pm1 cd1 ct1 oc2 kV2 dc2 pm2 cd2 ct2 oc3 kV3 dc3 pm3 cd3 ct3 oc4 kV4 dc4 pm4 cd4 ct4 oc5 kV5 dc5 pm5 cd5 ct5 oc6 kV6 dc6 pm6 cd6 ct6 oc7 kV7 dc7 pm7 cd7 ct7 oc8 kV8 dc8 pm8 cd8 ct8 oc9 kV9 dc9 pm9 cd9 ct9 oc10 kV10 dc10 pm10 cd10 ct10 oc11 kV11 dc11 pm11 cd11 ct11 oc12 kV12 dc12 pm12 cd12 ct12 oc13 kV13 dc13 pm13 cd13 ct13 oc14 kV14 dc14 pm14 cd14 ct14 oc15 kV15 dc15 pm15 cd15 ct15 oc16 kV16 dc16 pm16 cd16 ct16 oc17 kV17 dc17 pm17 cd17 ct17 oc18 kV18 dc18 pm18 cd18 ct18 oc19 kV19 dc19 pm19 cd19 ct19 oc20 kV20 dc20 pm20 cd20 ct20 oc21 kV21 dc21 pm21 cd21 ct21 oc22 kV22 dc22 pm22 cd22 ct22 oc23 kV23 dc23 pm23 cd23 ct23 oc24 kV24 dc24 pm24 cd24 ct24 oc25 kV25 dc25 pm25 cd25 ct25 oc26 kV26 dc26 pm26 cd26 ct26 oc27 kV27 dc27 pm27 cd27 ct27 oc28 kV28 dc28 pm28 cd28 ct28 oc29 kV29 dc29 pm29 cd29 ct29 oc30 kV30 dc30 pm30 cd30 ct30 oc31 kV31 dc31 pm31 cd31 ct31 oc32 kV32 dc32 pm32 cd32 ct32 oc33 kV33 dc33 pm33 cd33 ct33 oc34 kV34 dc34 pm34 cd34 ct34 oc35 kV35 dc35 pm35 cd35 ct35 oc36 kV36 dc36 pm36 cd36 ct36 oc37 kV37 dc37 pm37 cd37 ct37 oc38 kV38 dc38 pm38 cd38 ct38 oc39 kV39 dc39 pm39 cd39 ct39 oc40 kV40 dc40 pm40 cd40 ct40 oc41 kV41 dc41 pm41 cd41 ct41 oc42 kV42 dc42 pm42 cd42 ct42 oc43 kV43 dc43 pm43 cd43 ct43 oc44 kV44 dc44 pm44 cd44 ct44 oc45 kV45 dc45 pm45 cd45 ct45 oc46 kV46 dc46 pm46 cd46 ct46 oc47 kV47 dc47 pm47 cd47 ct47 oc48 kV48 dc48 pm48 cd48 ct48 oc49 kV49 dc49 pm49 cd49 ct49 oc50 kV50 dc50 pm50 cd50 ct50 oc51 kV51 dc51 pm51 cd51 ct51 : Value} {tc_Piece_MOST t_MOST_DISTANCE t_MOST_SIGNS t_MOST_SIZE t_MOST_WIDTH : Tok} {orc19 ofo19 oro19 : Option Value} {nmShort qnShort : Str} {NShort : Addr} {bsShort bmShort subShort : List Value} {snShort : List Str} {abShort : Bool} {coShort : Option Bool} {ddShort : Option Addr} {kaShort kbShort kcShort kdShort keShort : Option Value}
    (aC_Piece : PySem.W.nsIn K mainGlobals "Piece" = some (some (.ref c_Piece)))
    (pg_Piece : PySem.W.plainGet K c_Piece Str.empty = true)
    (hd_Piece : PySem.W.hasDictIn K c_Piece = true)
    (po_Piece : PySem.W.plainOver K c_Piece = true)
    (sa_Piece : PySem.W.findIn K (.ref c_Piece) "__setattr__" = some (some (.builtin "object.__setattr__")))
    (kc_Piece : PySem.W.keepIn K (.ref c_Piece) = true)
    (aC_Reader : PySem.W.nsIn K mainGlobals "Reader" = some (some (.ref c_Reader)))
    (pg_Reader : PySem.W.plainGet K c_Reader Str.empty = true)
    (hd_Reader : PySem.W.hasDictIn K c_Reader = true)
    (po_Reader : PySem.W.plainOver K c_Reader = true)
    (sa_Reader : PySem.W.findIn K (.ref c_Reader) "__setattr__" = some (some (.builtin "object.__setattr__")))
    (kc_Reader : PySem.W.keepIn K (.ref c_Reader) = true)
    (aC_NoToken : PySem.W.nsIn K mainGlobals "NoToken" = some (some (.ref c_NoToken)))
    (aC_Short : PySem.W.nsIn K mainGlobals "Short" = some (some (.ref c_Short)))
    (xb_NoToken : PySem.W.subIn K (.ref c_NoToken) (.type "BaseException") = some true)
    (xt_NoToken : PySem.W.typeIn K (.ref c_NoToken) = some (.type "type"))
    (xk_NoToken : PySem.W.keepIn K (.ref c_NoToken) = true)
    (xd_NoToken : PySem.W.hasDictIn K c_NoToken = true)
    (xb_Short : PySem.W.subIn K (.ref c_Short) (.type "BaseException") = some true)
    (xt_Short : PySem.W.typeIn K (.ref c_Short) = some (.type "type"))
    (xk_Short : PySem.W.keepIn K (.ref c_Short) = true)
    (xd_Short : PySem.W.hasDictIn K c_Short = true)
    (xL_Short : K.lookup c_Short = some (excClassObj nmShort qnShort c_Short NShort bsShort bmShort true snShort subShort abShort coShort ddShort kaShort kbShort kcShort kdShort keShort "ValueError.__new__"))
    (rv_Short : PySem.HandSPX.refsVE bmShort = true)
    (xs_Short : PySem.W.findIn K (.ref c_Short) "__setattr__" = some (some (.builtin "object.__setattr__")))
    (oi_Short : PySem.W.findIn K (.ref c_Short) "__init__" = some (some (.ref f_Short_init)))
    (ot_Short : PySem.W.typeIn K (.ref f_Short_init) = some (.type "function"))
    (nf_Short_distance : PySem.W.findIn K (.ref c_Short) "distance" = some none)
    (nf_Short_ahead : PySem.W.findIn K (.ref c_Short) "ahead" = some none)
    (xo_NoToken : PySem.W.excIn K c_NoToken PySem.HandSPX.veTail "ValueError.__new__" = true)
    (ts_NoToken_Short : PySem.W.subIn K (.ref c_NoToken) (.ref c_Short) = some false)
    (ts_Short_Short : PySem.W.subIn K (.ref c_Short) (.ref c_Short) = some true)
    (a0 : PySem.W.nsIn K mainGlobals "_ascends" = some (some (.ref f_ascends)))
    (l0 : K.lookup f_ascends = some ⟨oc0, od0, .func (PySem.W.fnOf "_ascends" "_ascends" (defArgs s_ascends) (defBody s_ascends) (defScope s_ascends) .none kV0 dc0 pm0 an0 cd0 ct0), sl0⟩)
    (e0 : PySem.W.codeIn K cd0 "_ascends" = true)
    (k0 : PySem.W.keepIn K (.ref f_ascends) = true)
    (a1 : PySem.W.nsIn K mainGlobals "is_text" = some (some (.ref f_is_text)))
    (l1 : K.lookup f_is_text = some ⟨oc1, od1, .func (PySem.W.fnOf "is_text" "is_text" (defArgs s_is_text) (defBody s_is_text) (defScope s_is_text) .none kV1 dc1 pm1 an1 cd1 ct1), sl1⟩)
    (e1 : PySem.W.codeIn K cd1 "is_text" = true)
    (k1 : PySem.W.keepIn K (.ref f_is_text) = true)
    (a2 : PySem.W.nsIn K mainGlobals "is_choice" = some (some (.ref f_is_choice)))
    (l2 : K.lookup f_is_choice = some ⟨oc2, od2, .func (PySem.W.fnOf "is_choice" "is_choice" (defArgs s_is_choice) (defBody s_is_choice) (defScope s_is_choice) .none kV2 dc2 pm2 an2 cd2 ct2), sl2⟩)
    (e2 : PySem.W.codeIn K cd2 "is_choice" = true)
    (k2 : PySem.W.keepIn K (.ref f_is_choice) = true)
    (a3 : PySem.W.nsIn K mainGlobals "is_integer" = some (some (.ref f_is_integer)))
    (l3 : K.lookup f_is_integer = some ⟨oc3, od3, .func (PySem.W.fnOf "is_integer" "is_integer" (defArgs s_is_integer) (defBody s_is_integer) (defScope s_is_integer) .none kV3 dc3 pm3 an3 cd3 ct3), sl3⟩)
    (e3 : PySem.W.codeIn K cd3 "is_integer" = true)
    (k3 : PySem.W.keepIn K (.ref f_is_integer) = true)
    (a4 : PySem.W.nsIn K mainGlobals "is_within" = some (some (.ref f_is_within)))
    (l4 : K.lookup f_is_within = some ⟨oc4, od4, .func (PySem.W.fnOf "is_within" "is_within" (defArgs s_is_within) (defBody s_is_within) (defScope s_is_within) .none kV4 dc4 pm4 an4 cd4 ct4), sl4⟩)
    (e4 : PySem.W.codeIn K cd4 "is_within" = true)
    (k4 : PySem.W.keepIn K (.ref f_is_within) = true)
    (a5 : PySem.W.nsIn K mainGlobals "is_distance" = some (some (.ref f_is_distance)))
    (l5 : K.lookup f_is_distance = some ⟨oc5, od5, .func (PySem.W.fnOf "is_distance" "is_distance" (defArgs s_is_distance) (defBody s_is_distance) (defScope s_is_distance) .none kV5 dc5 pm5 an5 cd5 ct5), sl5⟩)
    (e5 : PySem.W.codeIn K cd5 "is_distance" = true)
    (k5 : PySem.W.keepIn K (.ref f_is_distance) = true)
    (a6 : PySem.W.nsIn K mainGlobals "is_token" = some (some (.ref f_is_token)))
    (l6 : K.lookup f_is_token = some ⟨oc6, od6, .func (PySem.W.fnOf "is_token" "is_token" (defArgs s_is_token) (defBody s_is_token) (defScope s_is_token) .none kV6 dc6 pm6 an6 cd6 ct6), sl6⟩)
    (e6 : PySem.W.codeIn K cd6 "is_token" = true)
    (k6 : PySem.W.keepIn K (.ref f_is_token) = true)
    (a7 : PySem.W.nsIn K mainGlobals "size" = some (some (.ref f_size)))
    (l7 : K.lookup f_size = some ⟨oc7, od7, .func (PySem.W.fnOf "size" "size" (defArgs s_size) (defBody s_size) (defScope s_size) .none kV7 dc7 pm7 an7 cd7 ct7), sl7⟩)
    (e7 : PySem.W.codeIn K cd7 "size" = true)
    (k7 : PySem.W.keepIn K (.ref f_size) = true)
    (a8 : PySem.W.nsIn K mainGlobals "_are_tokens" = some (some (.ref f_are_tokens)))
    (l8 : K.lookup f_are_tokens = some ⟨oc8, od8, .func (PySem.W.fnOf "_are_tokens" "_are_tokens" (defArgs s_are_tokens) (defBody s_are_tokens) (defScope s_are_tokens) .none kV8 dc8 pm8 an8 cd8 ct8), sl8⟩)
    (e8 : PySem.W.codeIn K cd8 "_are_tokens" = true)
    (k8 : PySem.W.keepIn K (.ref f_are_tokens) = true)
    (a9 : PySem.W.nsIn K mainGlobals "_places_of" = some (some (.ref f_places_of)))
    (l9 : K.lookup f_places_of = some ⟨oc9, od9, .func (PySem.W.fnOf "_places_of" "_places_of" (defArgs s_places_of) (defBody s_places_of) (defScope s_places_of) .none kV9 dc9 pm9 an9 cd9 ct9), sl9⟩)
    (e9 : PySem.W.codeIn K cd9 "_places_of" = true)
    (k9 : PySem.W.keepIn K (.ref f_places_of) = true)
    (a10 : PySem.W.nsIn K mainGlobals "_are_letters" = some (some (.ref f_are_letters)))
    (l10 : K.lookup f_are_letters = some ⟨oc10, od10, .func (PySem.W.fnOf "_are_letters" "_are_letters" (defArgs s_are_letters) (defBody s_are_letters) (defScope s_are_letters) .none kV10 dc10 pm10 an10 cd10 ct10), sl10⟩)
    (e10 : PySem.W.codeIn K cd10 "_are_letters" = true)
    (k10 : PySem.W.keepIn K (.ref f_are_letters) = true)
    (a11 : PySem.W.nsIn K mainGlobals "is_signs" = some (some (.ref f_is_signs)))
    (l11 : K.lookup f_is_signs = some ⟨oc11, od11, .func (PySem.W.fnOf "is_signs" "is_signs" (defArgs s_is_signs) (defBody s_is_signs) (defScope s_is_signs) .none kV11 dc11 pm11 an11 cd11 ct11), sl11⟩)
    (e11 : PySem.W.codeIn K cd11 "is_signs" = true)
    (k11 : PySem.W.keepIn K (.ref f_is_signs) = true)
    (a12 : PySem.W.findIn K (.ref c_Piece) "__init__" = some (some (.ref f_Piece_init)))
    (i12 : PySem.W.isFn K (.ref f_Piece_init) = true)
    (l12 : K.lookup f_Piece_init = some ⟨oc12, od12, .func (PySem.W.fnOf "__init__" "Piece.__init__" (defArgs s_Piece_init) (defBody s_Piece_init) (defScope s_Piece_init) .none kV12 dc12 pm12 an12 cd12 ct12), sl12⟩)
    (e12 : PySem.W.codeIn K cd12 "Piece.__init__" = true)
    (k12 : PySem.W.keepIn K (.ref f_Piece_init) = true)
    (mk_Piece : PySem.W.makesIn K c_Piece = true)
    (a13 : PySem.W.findIn K (.ref c_Piece) "flushes" = some (some (.ref f_Piece_flushes)))
    (i13 : PySem.W.isFn K (.ref f_Piece_flushes) = true)
    (l13 : K.lookup f_Piece_flushes = some ⟨oc13, od13, .func (PySem.W.fnOf "flushes" "Piece.flushes" (defArgs s_Piece_flushes) (defBody s_Piece_flushes) (defScope s_Piece_flushes) .none kV13 dc13 pm13 an13 cd13 ct13), sl13⟩)
    (e13 : PySem.W.codeIn K cd13 "Piece.flushes" = true)
    (k13 : PySem.W.keepIn K (.ref f_Piece_flushes) = true)
    (a14 : PySem.W.nsIn K mainGlobals "_go_together" = some (some (.ref f_go_together)))
    (l14 : K.lookup f_go_together = some ⟨oc14, od14, .func (PySem.W.fnOf "_go_together" "_go_together" (defArgs s_go_together) (defBody s_go_together) (defScope s_go_together) .none kV14 dc14 pm14 an14 cd14 ct14), sl14⟩)
    (e14 : PySem.W.codeIn K cd14 "_go_together" = true)
    (k14 : PySem.W.keepIn K (.ref f_go_together) = true)
    (a15 : PySem.W.nsIn K mainGlobals "_joined" = some (some (.ref f_joined)))
    (l15 : K.lookup f_joined = some ⟨oc15, od15, .func (PySem.W.fnOf "_joined" "_joined" (defArgs s_joined) (defBody s_joined) (defScope s_joined) .none kV15 dc15 pm15 an15 cd15 ct15), sl15⟩)
    (e15 : PySem.W.codeIn K cd15 "_joined" = true)
    (k15 : PySem.W.keepIn K (.ref f_joined) = true)
    (a16 : PySem.W.nsIn K mainGlobals "_token_of" = some (some (.ref f_token_of)))
    (l16 : K.lookup f_token_of = some ⟨oc16, od16, .func (PySem.W.fnOf "_token_of" "_token_of" (defArgs s_token_of) (defBody s_token_of) (defScope s_token_of) .none kV16 dc16 pm16 an16 cd16 ct16), sl16⟩)
    (e16 : PySem.W.codeIn K cd16 "_token_of" = true)
    (k16 : PySem.W.keepIn K (.ref f_token_of) = true)
    (a17 : PySem.W.nsIn K mainGlobals "_merged_tokens" = some (some (.ref f_merged_tokens)))
    (l17 : K.lookup f_merged_tokens = some ⟨oc17, od17, .func (PySem.W.fnOf "_merged_tokens" "_merged_tokens" (defArgs s_merged_tokens) (defBody s_merged_tokens) (defScope s_merged_tokens) .none kV17 dc17 pm17 an17 cd17 ct17), sl17⟩)
    (e17 : PySem.W.codeIn K cd17 "_merged_tokens" = true)
    (k17 : PySem.W.keepIn K (.ref f_merged_tokens) = true)
    (a18 : PySem.W.findIn K (.ref c_Piece) "part" = some (some (.ref f_Piece_part)))
    (i18 : PySem.W.isFn K (.ref f_Piece_part) = true)
    (l18 : K.lookup f_Piece_part = some ⟨oc18, od18, .func (PySem.W.fnOf "part" "Piece.part" (defArgs s_Piece_part) (defBody s_Piece_part) (defScope s_Piece_part) .none kV18 dc18 pm18 an18 cd18 ct18), sl18⟩)
    (e18 : PySem.W.codeIn K cd18 "Piece.part" = true)
    (k18 : PySem.W.keepIn K (.ref f_Piece_part) = true)
    (a19 : PySem.W.findIn K (.ref c_Piece) (PySem.dunder "floordiv") = some (some (.ref f_Piece_floordiv)))
    (i19 : PySem.W.isFn K (.ref f_Piece_floordiv) = true)
    (of19 : PySem.W.selfFirst K c_Piece = true)
    (ob19 : PySem.W.findIn K (.ref c_Piece) (dunderR "floordiv") = some orc19)
    (op19 : orc19 = none ∨ ∃ g : Addr, orc19 = some (.ref g))
    (oq19 : PySem.W.findIn K (.type "int") (PySem.dunder "floordiv") = some ofo19)
    (or19 : PySem.W.findIn K (.type "int") (dunderR "floordiv") = some oro19)
    (os19 : PySem.W.subIn K (.type "int") (.ref c_Piece) = some false)
    (l19 : K.lookup f_Piece_floordiv = some ⟨oc19, od19, .func (PySem.W.fnOf "__floordiv__" "Piece.__floordiv__" (defArgs s_Piece_floordiv) (defBody s_Piece_floordiv) (defScope s_Piece_floordiv) .none kV19 dc19 pm19 an19 cd19 ct19), sl19⟩)
    (e19 : PySem.W.codeIn K cd19 "Piece.__floordiv__" = true)
    (k19 : PySem.W.keepIn K (.ref f_Piece_floordiv) = true)
    (a20 : PySem.W.findIn K (.ref c_Piece) "__len__" = some (some (.ref f_Piece_len)))
    (i20 : PySem.W.isFn K (.ref f_Piece_len) = true)
    (l20 : K.lookup f_Piece_len = some ⟨oc20, od20, .func (PySem.W.fnOf "__len__" "Piece.__len__" (defArgs s_Piece_len) (defBody s_Piece_len) (defScope s_Piece_len) .none kV20 dc20 pm20 an20 cd20 ct20), sl20⟩)
    (e20 : PySem.W.codeIn K cd20 "Piece.__len__" = true)
    (k20 : PySem.W.keepIn K (.ref f_Piece_len) = true)
    (a21 : PySem.W.findIn K (.ref c_Piece) "needs" = some (some (.ref f_Piece_needs)))
    (i21 : PySem.W.isFn K (.ref f_Piece_needs) = true)
    (l21 : K.lookup f_Piece_needs = some ⟨oc21, od21, .func (PySem.W.fnOf "needs" "Piece.needs" (defArgs s_Piece_needs) (defBody s_Piece_needs) (defScope s_Piece_needs) .none kV21 dc21 pm21 an21 cd21 ct21), sl21⟩)
    (e21 : PySem.W.codeIn K cd21 "Piece.needs" = true)
    (k21 : PySem.W.keepIn K (.ref f_Piece_needs) = true)
    (a22 : PySem.W.findIn K (.ref c_Reader) "kept" = some (some (.ref f_Reader_kept)))
    (i22 : PySem.W.isFn K (.ref f_Reader_kept) = true)
    (l22 : K.lookup f_Reader_kept = some ⟨oc22, od22, .func (PySem.W.fnOf "kept" "Reader.kept" (defArgs s_Reader_kept) (defBody s_Reader_kept) (defScope s_Reader_kept) .none kV22 dc22 pm22 an22 cd22 ct22), sl22⟩)
    (e22 : PySem.W.codeIn K cd22 "Reader.kept" = true)
    (k22 : PySem.W.keepIn K (.ref f_Reader_kept) = true)
    (a23 : PySem.W.findIn K (.ref c_Reader) "written" = some (some (.ref f_Reader_written)))
    (i23 : PySem.W.isFn K (.ref f_Reader_written) = true)
    (l23 : K.lookup f_Reader_written = some ⟨oc23, od23, .func (PySem.W.fnOf "written" "Reader.written" (defArgs s_Reader_written) (defBody s_Reader_written) (defScope s_Reader_written) .none kV23 dc23 pm23 an23 cd23 ct23), sl23⟩)
    (e23 : PySem.W.codeIn K cd23 "Reader.written" = true)
    (k23 : PySem.W.keepIn K (.ref f_Reader_written) = true)
    (a24 : PySem.W.nsIn K mainGlobals "_law_bag" = some (some (.ref f_law_bag)))
    (l24 : K.lookup f_law_bag = some ⟨oc24, od24, .func (PySem.W.fnOf "_law_bag" "_law_bag" (defArgs s_law_bag) (defBody s_law_bag) (defScope s_law_bag) .none kV24 dc24 pm24 an24 cd24 ct24), sl24⟩)
    (e24 : PySem.W.codeIn K cd24 "_law_bag" = true)
    (k24 : PySem.W.keepIn K (.ref f_law_bag) = true)
    (a25 : PySem.W.nsIn K mainGlobals "_law_places" = some (some (.ref f_law_places)))
    (l25 : K.lookup f_law_places = some ⟨oc25, od25, .func (PySem.W.fnOf "_law_places" "_law_places" (defArgs s_law_places) (defBody s_law_places) (defScope s_law_places) .none kV25 dc25 pm25 an25 cd25 ct25), sl25⟩)
    (e25 : PySem.W.codeIn K cd25 "_law_places" = true)
    (k25 : PySem.W.keepIn K (.ref f_law_places) = true)
    (a26 : PySem.W.nsIn K mainGlobals "_law_copied_right" = some (some (.ref f_law_copied_right)))
    (l26 : K.lookup f_law_copied_right = some ⟨oc26, od26, .func (PySem.W.fnOf "_law_copied_right" "_law_copied_right" (defArgs s_law_copied_right) (defBody s_law_copied_right) (defScope s_law_copied_right) .none kV26 dc26 pm26 an26 cd26 ct26), sl26⟩)
    (e26 : PySem.W.codeIn K cd26 "_law_copied_right" = true)
    (k26 : PySem.W.keepIn K (.ref f_law_copied_right) = true)
    (a27 : PySem.W.nsIn K mainGlobals "_law_take" = some (some (.ref f_law_take)))
    (l27 : K.lookup f_law_take = some ⟨oc27, od27, .func (PySem.W.fnOf "_law_take" "_law_take" (defArgs s_law_take) (defBody s_law_take) (defScope s_law_take) .none kV27 dc27 pm27 an27 cd27 ct27), sl27⟩)
    (e27 : PySem.W.codeIn K cd27 "_law_take" = true)
    (k27 : PySem.W.keepIn K (.ref f_law_take) = true)
    (a28 : PySem.W.nsIn K mainGlobals "_law_choice" = some (some (.ref f_law_choice)))
    (l28 : K.lookup f_law_choice = some ⟨oc28, od28, .func (PySem.W.fnOf "_law_choice" "_law_choice" (defArgs s_law_choice) (defBody s_law_choice) (defScope s_law_choice) .none kV28 dc28 pm28 an28 cd28 ct28), sl28⟩)
    (e28 : PySem.W.codeIn K cd28 "_law_choice" = true)
    (k28 : PySem.W.keepIn K (.ref f_law_choice) = true)
    (a29 : PySem.W.nsIn K mainGlobals "_law_word" = some (some (.ref f_law_word)))
    (l29 : K.lookup f_law_word = some ⟨oc29, od29, .func (PySem.W.fnOf "_law_word" "_law_word" (defArgs s_law_word) (defBody s_law_word) (defScope s_law_word) .none kV29 dc29 pm29 an29 cd29 ct29), sl29⟩)
    (e29 : PySem.W.codeIn K cd29 "_law_word" = true)
    (k29 : PySem.W.keepIn K (.ref f_law_word) = true)
    (a30 : PySem.W.nsIn K mainGlobals "_law_free_token" = some (some (.ref f_law_free_token)))
    (l30 : K.lookup f_law_free_token = some ⟨oc30, od30, .func (PySem.W.fnOf "_law_free_token" "_law_free_token" (defArgs s_law_free_token) (defBody s_law_free_token) (defScope s_law_free_token) .none kV30 dc30 pm30 an30 cd30 ct30), sl30⟩)
    (e30 : PySem.W.codeIn K cd30 "_law_free_token" = true)
    (k30 : PySem.W.keepIn K (.ref f_law_free_token) = true)
    (a31 : PySem.W.nsIn K mainGlobals "_law_size" = some (some (.ref f_law_size)))
    (l31 : K.lookup f_law_size = some ⟨oc31, od31, .func (PySem.W.fnOf "_law_size" "_law_size" (defArgs s_law_size) (defBody s_law_size) (defScope s_law_size) .none kV31 dc31 pm31 an31 cd31 ct31), sl31⟩)
    (e31 : PySem.W.codeIn K cd31 "_law_size" = true)
    (k31 : PySem.W.keepIn K (.ref f_law_size) = true)
    (a32 : PySem.W.nsIn K mainGlobals "_law_wide" = some (some (.ref f_law_wide)))
    (l32 : K.lookup f_law_wide = some ⟨oc32, od32, .func (PySem.W.fnOf "_law_wide" "_law_wide" (defArgs s_law_wide) (defBody s_law_wide) (defScope s_law_wide) .none kV32 dc32 pm32 an32 cd32 ct32), sl32⟩)
    (e32 : PySem.W.codeIn K cd32 "_law_wide" = true)
    (k32 : PySem.W.keepIn K (.ref f_law_wide) = true)
    (a33 : PySem.W.nsIn K mainGlobals "_law_free_tokens" = some (some (.ref f_law_free_tokens)))
    (l33 : K.lookup f_law_free_tokens = some ⟨oc33, od33, .func (PySem.W.fnOf "_law_free_tokens" "_law_free_tokens" (defArgs s_law_free_tokens) (defBody s_law_free_tokens) (defScope s_law_free_tokens) .none kV33 dc33 pm33 an33 cd33 ct33), sl33⟩)
    (e33 : PySem.W.codeIn K cd33 "_law_free_tokens" = true)
    (k33 : PySem.W.keepIn K (.ref f_law_free_tokens) = true)
    (a34 : PySem.W.findIn K (.ref c_Piece) "tokens" = some (some (.ref f_Piece_tokens)))
    (i34 : PySem.W.isFn K (.ref f_Piece_tokens) = true)
    (l34 : K.lookup f_Piece_tokens = some ⟨oc34, od34, .func (PySem.W.fnOf "tokens" "Piece.tokens" (defArgs s_Piece_tokens) (defBody s_Piece_tokens) (defScope s_Piece_tokens) .none kV34 dc34 pm34 an34 cd34 ct34), sl34⟩)
    (e34 : PySem.W.codeIn K cd34 "Piece.tokens" = true)
    (k34 : PySem.W.keepIn K (.ref f_Piece_tokens) = true)
    (a35 : PySem.W.nsIn K mainGlobals "is_width" = some (some (.ref f_is_width)))
    (l35 : K.lookup f_is_width = some ⟨oc35, od35, .func (PySem.W.fnOf "is_width" "is_width" (defArgs s_is_width) (defBody s_is_width) (defScope s_is_width) .none kV35 dc35 pm35 an35 cd35 ct35), sl35⟩)
    (e35 : PySem.W.codeIn K cd35 "is_width" = true)
    (k35 : PySem.W.keepIn K (.ref f_is_width) = true)
    (a36 : PySem.W.findIn K (.ref c_Reader) "__init__" = some (some (.ref f_Reader_init)))
    (i36 : PySem.W.isFn K (.ref f_Reader_init) = true)
    (l36 : K.lookup f_Reader_init = some ⟨oc36, od36, .func (PySem.W.fnOf "__init__" "Reader.__init__" (defArgs s_Reader_init) (defBody s_Reader_init) (defScope s_Reader_init) .none kV36 dc36 pm36 an36 cd36 ct36), sl36⟩)
    (e36 : PySem.W.codeIn K cd36 "Reader.__init__" = true)
    (k36 : PySem.W.keepIn K (.ref f_Reader_init) = true)
    (mk_Reader : PySem.W.makesIn K c_Reader = true)
    (a37 : PySem.W.findIn K (.ref c_Reader) "copied" = some (some (.ref f_Reader_copied)))
    (i37 : PySem.W.isFn K (.ref f_Reader_copied) = true)
    (l37 : K.lookup f_Reader_copied = some ⟨oc37, od37, .func (PySem.W.fnOf "copied" "Reader.copied" (defArgs s_Reader_copied) (defBody s_Reader_copied) (defScope s_Reader_copied) .none kV37 dc37 pm37 an37 cd37 ct37), sl37⟩)
    (e37 : PySem.W.codeIn K cd37 "Reader.copied" = true)
    (k37 : PySem.W.keepIn K (.ref f_Reader_copied) = true)
    (a38 : PySem.W.findIn K (.ref c_Reader) "_put" = some (some (.ref f_Readerput)))
    (i38 : PySem.W.isFn K (.ref f_Readerput) = true)
    (l38 : K.lookup f_Readerput = some ⟨oc38, od38, .func (PySem.W.fnOf "_put" "Reader._put" (defArgs s_Readerput) (defBody s_Readerput) (defScope s_Readerput) .none kV38 dc38 pm38 an38 cd38 ct38), sl38⟩)
    (e38 : PySem.W.codeIn K cd38 "Reader._put" = true)
    (k38 : PySem.W.keepIn K (.ref f_Readerput) = true)
    (l39 : K.lookup f_Short_init = some ⟨oc39, od39, .func (PySem.W.fnOf "__init__" "Short.__init__" (defArgs s_Short_init) (defBody s_Short_init) (defScope s_Short_init) .none kV39 dc39 pm39 an39 cd39 ct39), sl39⟩)
    (e39 : PySem.W.codeIn K cd39 "Short.__init__" = true)
    (k39 : PySem.W.keepIn K (.ref f_Short_init) = true)
    (a40 : PySem.W.findIn K (.ref c_Reader) "_copy" = some (some (.ref f_Readercopy)))
    (i40 : PySem.W.isFn K (.ref f_Readercopy) = true)
    (l40 : K.lookup f_Readercopy = some ⟨oc40, od40, .func (PySem.W.fnOf "_copy" "Reader._copy" (defArgs s_Readercopy) (defBody s_Readercopy) (defScope s_Readercopy) .none kV40 dc40 pm40 an40 cd40 ct40), sl40⟩)
    (e40 : PySem.W.codeIn K cd40 "Reader._copy" = true)
    (k40 : PySem.W.keepIn K (.ref f_Readercopy) = true)
    (a41 : PySem.W.findIn K (.ref c_Reader) "_last" = some (some (.ref f_Readerlast)))
    (i41 : PySem.W.isFn K (.ref f_Readerlast) = true)
    (l41 : K.lookup f_Readerlast = some ⟨oc41, od41, .func (PySem.W.fnOf "_last" "Reader._last" (defArgs s_Readerlast) (defBody s_Readerlast) (defScope s_Readerlast) .none kV41 dc41 pm41 an41 cd41 ct41), sl41⟩)
    (e41 : PySem.W.codeIn K cd41 "Reader._last" = true)
    (k41 : PySem.W.keepIn K (.ref f_Readerlast) = true)
    (a42 : PySem.W.nsIn K mainGlobals "is_plain" = some (some (.ref f_is_plain)))
    (l42 : K.lookup f_is_plain = some ⟨oc42, od42, .func (PySem.W.fnOf "is_plain" "is_plain" (defArgs s_is_plain) (defBody s_is_plain) (defScope s_is_plain) .none kV42 dc42 pm42 an42 cd42 ct42), sl42⟩)
    (e42 : PySem.W.codeIn K cd42 "is_plain" = true)
    (k42 : PySem.W.keepIn K (.ref f_is_plain) = true)
    (a43 : PySem.W.findIn K (.ref c_Reader) "_told" = some (some (.ref f_Readertold)))
    (i43 : PySem.W.isFn K (.ref f_Readertold) = true)
    (l43 : K.lookup f_Readertold = some ⟨oc43, od43, .func (PySem.W.fnOf "_told" "Reader._told" (defArgs s_Readertold) (defBody s_Readertold) (defScope s_Readertold) .none kV43 dc43 pm43 an43 cd43 ct43), sl43⟩)
    (e43 : PySem.W.codeIn K cd43 "Reader._told" = true)
    (k43 : PySem.W.keepIn K (.ref f_Readertold) = true)
    (a44 : PySem.W.findIn K (.ref c_Reader) "read_all" = some (some (.ref f_Reader_read_all)))
    (i44 : PySem.W.isFn K (.ref f_Reader_read_all) = true)
    (l44 : K.lookup f_Reader_read_all = some ⟨oc44, od44, .func (PySem.W.fnOf "read_all" "Reader.read_all" (defArgs s_Reader_read_all) (defBody s_Reader_read_all) (defScope s_Reader_read_all) .none kV44 dc44 pm44 an44 cd44 ct44), sl44⟩)
    (e44 : PySem.W.codeIn K cd44 "Reader.read_all" = true)
    (k44 : PySem.W.keepIn K (.ref f_Reader_read_all) = true)
    (a45 : PySem.W.nsIn K mainGlobals "_law_told" = some (some (.ref f_law_told)))
    (l45 : K.lookup f_law_told = some ⟨oc45, od45, .func (PySem.W.fnOf "_law_told" "_law_told" (defArgs s_law_told) (defBody s_law_told) (defScope s_law_told) .none kV45 dc45 pm45 an45 cd45 ct45), sl45⟩)
    (e45 : PySem.W.codeIn K cd45 "_law_told" = true)
    (k45 : PySem.W.keepIn K (.ref f_law_told) = true)
    (a46 : PySem.W.nsIn K mainGlobals "_law_in_parts" = some (some (.ref f_law_in_parts)))
    (l46 : K.lookup f_law_in_parts = some ⟨oc46, od46, .func (PySem.W.fnOf "_law_in_parts" "_law_in_parts" (defArgs s_law_in_parts) (defBody s_law_in_parts) (defScope s_law_in_parts) .none kV46 dc46 pm46 an46 cd46 ct46), sl46⟩)
    (e46 : PySem.W.codeIn K cd46 "_law_in_parts" = true)
    (k46 : PySem.W.keepIn K (.ref f_law_in_parts) = true)
    (a47 : PySem.W.nsIn K mainGlobals "_law_plain" = some (some (.ref f_law_plain)))
    (l47 : K.lookup f_law_plain = some ⟨oc47, od47, .func (PySem.W.fnOf "_law_plain" "_law_plain" (defArgs s_law_plain) (defBody s_law_plain) (defScope s_law_plain) .none kV47 dc47 pm47 an47 cd47 ct47), sl47⟩)
    (e47 : PySem.W.codeIn K cd47 "_law_plain" = true)
    (k47 : PySem.W.keepIn K (.ref f_law_plain) = true)
    (a48 : PySem.W.findIn K (.ref c_Reader) "read" = some (some (.ref f_Reader_read)))
    (i48 : PySem.W.isFn K (.ref f_Reader_read) = true)
    (l48 : K.lookup f_Reader_read = some ⟨oc48, od48, .func (PySem.W.fnOf "read" "Reader.read" (defArgs s_Reader_read) (defBody s_Reader_read) (defScope s_Reader_read) .none kV48 dc48 pm48 an48 cd48 ct48), sl48⟩)
    (e48 : PySem.W.codeIn K cd48 "Reader.read" = true)
    (k48 : PySem.W.keepIn K (.ref f_Reader_read) = true)
    (a49 : PySem.W.nsIn K mainGlobals "_law_reader" = some (some (.ref f_law_reader)))
    (l49 : K.lookup f_law_reader = some ⟨oc49, od49, .func (PySem.W.fnOf "_law_reader" "_law_reader" (defArgs s_law_reader) (defBody s_law_reader) (defScope s_law_reader) .none kV49 dc49 pm49 an49 cd49 ct49), sl49⟩)
    (e49 : PySem.W.codeIn K cd49 "_law_reader" = true)
    (k49 : PySem.W.keepIn K (.ref f_law_reader) = true)
    (a50 : PySem.W.nsIn K mainGlobals "_law_signs" = some (some (.ref f_law_signs)))
    (l50 : K.lookup f_law_signs = some ⟨oc50, od50, .func (PySem.W.fnOf "_law_signs" "_law_signs" (defArgs s_law_signs) (defBody s_law_signs) (defScope s_law_signs) .none kV50 dc50 pm50 an50 cd50 ct50), sl50⟩)
    (e50 : PySem.W.codeIn K cd50 "_law_signs" = true)
    (k50 : PySem.W.keepIn K (.ref f_law_signs) = true)
    (a51 : PySem.W.nsIn K mainGlobals "law" = some (some (.ref f_law)))
    (l51 : K.lookup f_law = some ⟨oc51, od51, .func (PySem.W.fnOf "law" "law" (defArgs s_law) (defBody s_law) (defScope s_law) .none kV51 dc51 pm51 an51 cd51 ct51), sl51⟩)
    (e51 : PySem.W.codeIn K cd51 "law" = true)
    (k51 : PySem.W.keepIn K (.ref f_law) = true)
    (rd_Piece : PySem.W.readsIn K c_Piece (.type "type") = true)
    (ga_Piece : PySem.W.specialIn K (.ref c_Piece) "__getattribute__" = some (some (.builtin "type.__getattribute__")))
    (cv_Piece_MOST : PySem.W.findCls K (.ref c_Piece) (.type "type") "MOST" = some (.val (.int 40 tc_Piece_MOST)))
    (ic_Piece : PySem.W.isClsIn K c_Piece = true)
    (it_Piece : PySem.W.typeIn K (.ref c_Piece) = some (.type "type"))
    (ca_Piece : PySem.W.findIn K (.ref c_Piece) "__class__" = some (some (.builtin "object.__class__")))
    (cg_Piece : PySem.W.specialIn K (.builtin "object.__class__") "__get__" = some (some (.builtin "getset_descriptor.__get__")))
    (ct_Piece : PySem.W.takesIn K (.builtin "object.__class__") = some true)
    (mro_Piece : PySem.W.mroIn K c_Piece (.type "object") = some true)
    (ne_Piece : PySem.W.findIn K (.ref c_Piece) "__ne__" = some (some (.builtin "object.__ne__")))
    (na_Piece_copy : PySem.W.findIn K (.ref c_Piece) "_copy" = some none)
    (na_Piece_kept : PySem.W.findIn K (.ref c_Piece) "_kept" = some none)
    (na_Piece_last : PySem.W.findIn K (.ref c_Piece) "_last" = some none)
    (na_Piece_places : PySem.W.findIn K (.ref c_Piece) "_places" = some none)
    (na_Piece_put : PySem.W.findIn K (.ref c_Piece) "_put" = some none)
    (na_Piece_signs : PySem.W.findIn K (.ref c_Piece) "_signs" = some none)
    (na_Piece_tokens : PySem.W.findIn K (.ref c_Piece) "_tokens" = some none)
    (na_Piece_told : PySem.W.findIn K (.ref c_Piece) "_told" = some none)
    (na_Piece_width : PySem.W.findIn K (.ref c_Piece) "_width" = some none)
    (na_Piece_written : PySem.W.findIn K (.ref c_Piece) "_written" = some none)
    (ic_Reader : PySem.W.isClsIn K c_Reader = true)
    (it_Reader : PySem.W.typeIn K (.ref c_Reader) = some (.type "type"))
    (ca_Reader : PySem.W.findIn K (.ref c_Reader) "__class__" = some (some (.builtin "object.__class__")))
    (cg_Reader : PySem.W.specialIn K (.builtin "object.__class__") "__get__" = some (some (.builtin "getset_descriptor.__get__")))
    (ct_Reader : PySem.W.takesIn K (.builtin "object.__class__") = some true)
    (mro_Reader : PySem.W.mroIn K c_Reader (.type "object") = some true)
    (ne_Reader : PySem.W.findIn K (.ref c_Reader) "__ne__" = some (some (.builtin "object.__ne__")))
    (na_Reader_kept : PySem.W.findIn K (.ref c_Reader) "_kept" = some none)
    (na_Reader_places : PySem.W.findIn K (.ref c_Reader) "_places" = some none)
    (na_Reader_signs : PySem.W.findIn K (.ref c_Reader) "_signs" = some none)
    (na_Reader_tokens : PySem.W.findIn K (.ref c_Reader) "_tokens" = some none)
    (na_Reader_width : PySem.W.findIn K (.ref c_Reader) "_width" = some none)
    (na_Reader_written : PySem.W.findIn K (.ref c_Reader) "_written" = some none)
    (z_abs : PySem.W.nsIn K mainGlobals "abs" = some none)
    (z_all : PySem.W.nsIn K mainGlobals "all" = some none)
    (z_bool : PySem.W.nsIn K mainGlobals "bool" = some none)
    (z_enumerate : PySem.W.nsIn K mainGlobals "enumerate" = some none)
    (z_int : PySem.W.nsIn K mainGlobals "int" = some none)
    (z_isinstance : PySem.W.nsIn K mainGlobals "isinstance" = some none)
    (z_len : PySem.W.nsIn K mainGlobals "len" = some none)
    (z_list : PySem.W.nsIn K mainGlobals "list" = some none)
    (z_max : PySem.W.nsIn K mainGlobals "max" = some none)
    (z_min : PySem.W.nsIn K mainGlobals "min" = some none)
    (z_range : PySem.W.nsIn K mainGlobals "range" = some none)
    (z_sorted : PySem.W.nsIn K mainGlobals "sorted" = some none)
    (z_str : PySem.W.nsIn K mainGlobals "str" = some none)
    (z_sum : PySem.W.nsIn K mainGlobals "sum" = some none)
    (z_tuple : PySem.W.nsIn K mainGlobals "tuple" = some none)
    (z_zip : PySem.W.nsIn K mainGlobals "zip" = some none)
    (q_MOST_DISTANCE : PySem.W.nsIn K mainGlobals "MOST_DISTANCE" = some (some (.int 12 t_MOST_DISTANCE)))
    (q_MOST_SIGNS : PySem.W.nsIn K mainGlobals "MOST_SIGNS" = some (some (.int 6 t_MOST_SIGNS)))
    (q_MOST_SIZE : PySem.W.nsIn K mainGlobals "MOST_SIZE" = some (some (.int 40 t_MOST_SIZE)))
    (q_MOST_WIDTH : PySem.W.nsIn K mainGlobals "MOST_WIDTH" = some (some (.int 12 t_MOST_WIDTH)))
    : ∃ fd : FuncData, (∀ (s : Shared) (v : Value), BindsTo s fd ⟨[v], []⟩ [("_law_script", v)]) ∧ ∀ base : Heap, K.In base → base.Ns mainGlobals mg → FnG l.prog w K mg base 11 fa fd ["_law_script"] (sp_law K) := by
  have e := hfa.symm.trans (PySem.W.mg_of X G a51)
  cases e
  have F0 := fun_mk (st := s_ascends) l0 e0 k0
  have B0 := F0.binds (ps := ["text"]) fun _ _ _ _ _ _ us hl => match us, hl with | [_], _ => rfl
  have F1 := fun_mk (st := s_is_text) l1 e1 k1
  have B1 := F1.binds (ps := ["signs", "thing"]) fun _ _ _ _ _ _ us hl => match us, hl with | [_, _], _ => rfl
  have F2 := fun_mk (st := s_is_choice) l2 e2 k2
  have B2 := F2.binds (ps := ["signs", "thing"]) fun _ _ _ _ _ _ us hl => match us, hl with | [_, _], _ => rfl
  have F3 := fun_mk (st := s_is_integer) l3 e3 k3
  have B3 := F3.binds (ps := ["thing"]) fun _ _ _ _ _ _ us hl => match us, hl with | [_], _ => rfl
  have F4 := fun_mk (st := s_is_within) l4 e4 k4
  have B4 := F4.binds (ps := ["thing", "least", "most"]) fun _ _ _ _ _ _ us hl => match us, hl with | [_, _, _], _ => rfl
  have F5 := fun_mk (st := s_is_distance) l5 e5 k5
  have B5 := F5.binds (ps := ["thing"]) fun _ _ _ _ _ _ us hl => match us, hl with | [_], _ => rfl
  have F6 := fun_mk (st := s_is_token) l6 e6 k6
  have B6 := F6.binds (ps := ["signs", "thing"]) fun _ _ _ _ _ _ us hl => match us, hl with | [_, _], _ => rfl
  have F7 := fun_mk (st := s_size) l7 e7 k7
  have B7 := F7.binds (ps := ["token"]) fun _ _ _ _ _ _ us hl => match us, hl with | [_], _ => rfl
  have F8 := fun_mk (st := s_are_tokens) l8 e8 k8
  have B8 := F8.binds (ps := ["signs", "thing"]) fun _ _ _ _ _ _ us hl => match us, hl with | [_, _], _ => rfl
  have F9 := fun_mk (st := s_places_of) l9 e9 k9
  have B9 := F9.binds (ps := ["tokens"]) fun _ _ _ _ _ _ us hl => match us, hl with | [_], _ => rfl
  have F10 := fun_mk (st := s_are_letters) l10 e10 k10
  have B10 := F10.binds (ps := ["text"]) fun _ _ _ _ _ _ us hl => match us, hl with | [_], _ => rfl
  have F11 := fun_mk (st := s_is_signs) l11 e11 k11
  have B11 := F11.binds (ps := ["thing"]) fun _ _ _ _ _ _ us hl => match us, hl with | [_], _ => rfl
  have F12 := fun_mk (st := s_Piece_init) l12 e12 k12
  have B12 := F12.binds (ps := ["self", "signs", "tokens"]) fun _ _ _ _ _ _ us hl => match us, hl with | [_, _, _], _ => rfl
  have F13 := fun_mk (st := s_Piece_flushes) l13 e13 k13
  have B13 := F13.binds (ps := ["self"]) fun _ _ _ _ _ _ us hl => match us, hl with | [_], _ => rfl
  have F14 := fun_mk (st := s_go_together) l14 e14 k14
  have B14 := F14.binds (ps := ["one", "other"]) fun _ _ _ _ _ _ us hl => match us, hl with | [_, _], _ => rfl
  have F15 := fun_mk (st := s_joined) l15 e15 k15
  have B15 := F15.binds (ps := ["one", "other"]) fun _ _ _ _ _ _ us hl => match us, hl with | [_, _], _ => rfl
  have F16 := fun_mk (st := s_token_of) l16 e16 k16
  have B16 := F16.binds (ps := ["place"]) fun _ _ _ _ _ _ us hl => match us, hl with | [_], _ => rfl
  have F17 := fun_mk (st := s_merged_tokens) l17 e17 k17
  have B17 := F17.binds (ps := ["places", "flushes"]) fun _ _ _ _ _ _ us hl => match us, hl with | [_, _], _ => rfl
  have F18 := fun_mk (st := s_Piece_part) l18 e18 k18
  have B18 := F18.binds (ps := ["self", "begin", "end"]) fun _ _ _ _ _ _ us hl => match us, hl with | [_, _, _], _ => rfl
  have F19 := fun_mk (st := s_Piece_floordiv) l19 e19 k19
  have B19 := F19.binds (ps := ["self", "other"]) fun _ _ _ _ _ _ us hl => match us, hl with | [_, _], _ => rfl
  have F20 := fun_mk (st := s_Piece_len) l20 e20 k20
  have B20 := F20.binds (ps := ["self"]) fun _ _ _ _ _ _ us hl => match us, hl with | [_], _ => rfl
  have F21 := fun_mk (st := s_Piece_needs) l21 e21 k21
  have B21 := F21.binds (ps := ["self"]) fun _ _ _ _ _ _ us hl => match us, hl with | [_], _ => rfl
  have F22 := fun_mk (st := s_Reader_kept) l22 e22 k22
  have B22 := F22.binds (ps := ["self"]) fun _ _ _ _ _ _ us hl => match us, hl with | [_], _ => rfl
  have F23 := fun_mk (st := s_Reader_written) l23 e23 k23
  have B23 := F23.binds (ps := ["self"]) fun _ _ _ _ _ _ us hl => match us, hl with | [_], _ => rfl
  have F24 := fun_mk (st := s_law_bag) l24 e24 k24
  have B24 := F24.binds (ps := ["_law_script"]) fun _ _ _ _ _ _ us hl => match us, hl with | [_], _ => rfl
  have F25 := fun_mk (st := s_law_places) l25 e25 k25
  have B25 := F25.binds (ps := ["_law_tokens"]) fun _ _ _ _ _ _ us hl => match us, hl with | [_], _ => rfl
  have F26 := fun_mk (st := s_law_copied_right) l26 e26 k26
  have B26 := F26.binds (ps := ["_law_text", "_law_begin", "_law_tokens"]) fun _ _ _ _ _ _ us hl => match us, hl with | [_, _, _], _ => rfl
  have F27 := fun_mk (st := s_law_take) l27 e27 k27
  have B27 := F27.binds (ps := ["_law_bag_here", "_law_many"]) fun _ _ _ _ _ _ us hl => match us, hl with | [_, _], _ => rfl
  have F28 := fun_mk (st := s_law_choice) l28 e28 k28
  have B28 := F28.binds (ps := ["_law_bag_here", "_law_signs_here"]) fun _ _ _ _ _ _ us hl => match us, hl with | [_, _], _ => rfl
  have F29 := fun_mk (st := s_law_word) l29 e29 k29
  have B29 := F29.binds (ps := ["_law_bag_here", "_law_signs_here", "_law_many"]) fun _ _ _ _ _ _ us hl => match us, hl with | [_, _, _], _ => rfl
  have F30 := fun_mk (st := s_law_free_token) l30 e30 k30
  have B30 := F30.binds (ps := ["_law_bag_here", "_law_signs_here", "_law_room"]) fun _ _ _ _ _ _ us hl => match us, hl with | [_, _, _], _ => rfl
  have F31 := fun_mk (st := s_law_size) l31 e31 k31
  have B31 := F31.binds (ps := ["_law_token"]) fun _ _ _ _ _ _ us hl => match us, hl with | [_], _ => rfl
  have F32 := fun_mk (st := s_law_wide) l32 e32 k32
  have B32 := F32.binds (ps := ["_law_tokens"]) fun _ _ _ _ _ _ us hl => match us, hl with | [_], _ => rfl
  have F33 := fun_mk (st := s_law_free_tokens) l33 e33 k33
  have B33 := F33.binds (ps := ["_law_bag_here", "_law_signs_here", "_law_most"]) fun _ _ _ _ _ _ us hl => match us, hl with | [_, _, _], _ => rfl
  have F34 := fun_mk (st := s_Piece_tokens) l34 e34 k34
  have B34 := F34.binds (ps := ["self"]) fun _ _ _ _ _ _ us hl => match us, hl with | [_], _ => rfl
  have F35 := fun_mk (st := s_is_width) l35 e35 k35
  have B35 := F35.binds (ps := ["thing"]) fun _ _ _ _ _ _ us hl => match us, hl with | [_], _ => rfl
  have F36 := fun_mk (st := s_Reader_init) l36 e36 k36
  have B36 := F36.binds (ps := ["self", "signs", "width"]) fun _ _ _ _ _ _ us hl => match us, hl with | [_, _, _], _ => rfl
  have F37 := fun_mk (st := s_Reader_copied) l37 e37 k37
  have B37 := F37.binds (ps := ["self"]) fun _ _ _ _ _ _ us hl => match us, hl with | [_], _ => rfl
  have F38 := fun_mk (st := s_Readerput) l38 e38 k38
  have B38 := F38.binds (ps := ["self", "text", "kept"]) fun _ _ _ _ _ _ us hl => match us, hl with | [_, _, _], _ => rfl
  have F39 := fun_mk (st := s_Short_init) l39 e39 k39
  have B39 := F39.binds (ps := ["self", "distance", "ahead"]) fun _ _ _ _ _ _ us hl => match us, hl with | [_, _, _], _ => rfl
  have F40 := fun_mk (st := s_Readercopy) l40 e40 k40
  have B40 := F40.binds (ps := ["self", "distance", "many", "kept"]) fun _ _ _ _ _ _ us hl => match us, hl with | [_, _, _, _], _ => rfl
  have F41 := fun_mk (st := s_Readerlast) l41 e41 k41
  have B41 := F41.binds (ps := ["self", "line"]) fun _ _ _ _ _ _ us hl => match us, hl with | [_, _], _ => rfl
  have F42 := fun_mk (st := s_is_plain) l42 e42 k42
  have B42 := F42.binds (ps := ["signs", "thing"]) fun _ _ _ _ _ _ us hl => match us, hl with | [_, _], _ => rfl
  have F43 := fun_mk (st := s_Readertold) l43 e43 k43
  have B43 := F43.binds (ps := ["self", "token", "kept"]) fun _ _ _ _ _ _ us hl => match us, hl with | [_, _, _], _ => rfl
  have F44 := fun_mk (st := s_Reader_read_all) l44 e44 k44
  have B44 := F44.binds (ps := ["self", "tokens"]) fun _ _ _ _ _ _ us hl => match us, hl with | [_, _], _ => rfl
  have F45 := fun_mk (st := s_law_told) l45 e45 k45
  have B45 := F45.binds (ps := ["_law_reader_here", "_law_tokens"]) fun _ _ _ _ _ _ us hl => match us, hl with | [_, _], _ => rfl
  have F46 := fun_mk (st := s_law_in_parts) l46 e46 k46
  have B46 := F46.binds (ps := ["_law_reader_here", "_law_pieces"]) fun _ _ _ _ _ _ us hl => match us, hl with | [_, _], _ => rfl
  have F47 := fun_mk (st := s_law_plain) l47 e47 k47
  have B47 := F47.binds (ps := ["_law_bag_here", "_law_signs_here", "_law_tokens", "_law_width"]) fun _ _ _ _ _ _ us hl => match us, hl with | [_, _, _, _], _ => rfl
  have F48 := fun_mk (st := s_Reader_read) l48 e48 k48
  have B48 := F48.binds (ps := ["self", "token"]) fun _ _ _ _ _ _ us hl => match us, hl with | [_, _], _ => rfl
  have F49 := fun_mk (st := s_law_reader) l49 e49 k49
  have B49 := F49.binds (ps := ["_law_bag_here", "_law_signs_here", "_law_width"]) fun _ _ _ _ _ _ us hl => match us, hl with | [_, _, _], _ => rfl
  have F50 := fun_mk (st := s_law_signs) l50 e50 k50
  have B50 := F50.binds (ps := ["_law_bag_here"]) fun _ _ _ _ _ _ us hl => match us, hl with | [_], _ => rfl
  have F51 := fun_mk (st := s_law) l51 e51 k51
  have B51 := F51.binds (ps := ["_law_script"]) fun _ _ _ _ _ _ us hl => match us, hl with | [_], _ => rfl
  have T : { T : Txt K mg // T.f_law = fa ∧ T.d_law = PySem.W.fnOf "law" "law" (defArgs s_law) (defBody s_law) (defScope s_law) .none kV51 dc51 pm51 an51 cd51 ct51 } := ⟨{ f_ascends := f_ascends, d_ascends := _, F_ascends := F0, b_ascends := B0, m_ascends := PySem.W.mg_of X G a0, f_is_text := f_is_text, d_is_text := _, F_is_text := F1, b_is_text := B1, m_is_text := PySem.W.mg_of X G a1, f_is_choice := f_is_choice, d_is_choice := _, F_is_choice := F2, b_is_choice := B2, m_is_choice := PySem.W.mg_of X G a2, f_is_integer := f_is_integer, d_is_integer := _, F_is_integer := F3, b_is_integer := B3, m_is_integer := PySem.W.mg_of X G a3, f_is_within := f_is_within, d_is_within := _, F_is_within := F4, b_is_within := B4, m_is_within := PySem.W.mg_of X G a4, f_is_distance := f_is_distance, d_is_distance := _, F_is_distance := F5, b_is_distance := B5, m_is_distance := PySem.W.mg_of X G a5, f_is_token := f_is_token, d_is_token := _, F_is_token := F6, b_is_token := B6, m_is_token := PySem.W.mg_of X G a6, f_size := f_size, d_size := _, F_size := F7, b_size := B7, m_size := PySem.W.mg_of X G a7, f_are_tokens := f_are_tokens, d_are_tokens := _, F_are_tokens := F8, b_are_tokens := B8, m_are_tokens := PySem.W.mg_of X G a8, f_places_of := f_places_of, d_places_of := _, F_places_of := F9, b_places_of := B9, m_places_of := PySem.W.mg_of X G a9, f_are_letters := f_are_letters, d_are_letters := _, F_are_letters := F10, b_are_letters := B10, m_are_letters := PySem.W.mg_of X G a10, f_is_signs := f_is_signs, d_is_signs := _, F_is_signs := F11, b_is_signs := B11, m_is_signs := PySem.W.mg_of X G a11, f_Piece_init := f_Piece_init, d_Piece_init := _, F_Piece_init := F12, b_Piece_init := B12, f_Piece_flushes := f_Piece_flushes, d_Piece_flushes := _, F_Piece_flushes := F13, b_Piece_flushes := B13, f_go_together := f_go_together, d_go_together := _, F_go_together := F14, b_go_together := B14, m_go_together := PySem.W.mg_of X G a14, f_joined := f_joined, d_joined := _, F_joined := F15, b_joined := B15, m_joined := PySem.W.mg_of X G a15, f_token_of := f_token_of, d_token_of := _, F_token_of := F16, b_token_of := B16, m_token_of := PySem.W.mg_of X G a16, f_merged_tokens := f_merged_tokens, d_merged_tokens := _, F_merged_tokens := F17, b_merged_tokens := B17, m_merged_tokens := PySem.W.mg_of X G a17, f_Piece_part := f_Piece_part, d_Piece_part := _, F_Piece_part := F18, b_Piece_part := B18, f_Piece_floordiv := f_Piece_floordiv, d_Piece_floordiv := _, F_Piece_floordiv := F19, b_Piece_floordiv := B19, f_Piece_len := f_Piece_len, d_Piece_len := _, F_Piece_len := F20, b_Piece_len := B20, f_Piece_needs := f_Piece_needs, d_Piece_needs := _, F_Piece_needs := F21, b_Piece_needs := B21, f_Reader_kept := f_Reader_kept, d_Reader_kept := _, F_Reader_kept := F22, b_Reader_kept := B22, f_Reader_written := f_Reader_written, d_Reader_written := _, F_Reader_written := F23, b_Reader_written := B23, f_law_bag := f_law_bag, d_law_bag := _, F_law_bag := F24, b_law_bag := B24, m_law_bag := PySem.W.mg_of X G a24, f_law_places := f_law_places, d_law_places := _, F_law_places := F25, b_law_places := B25, m_law_places := PySem.W.mg_of X G a25, f_law_copied_right := f_law_copied_right, d_law_copied_right := _, F_law_copied_right := F26, b_law_copied_right := B26, m_law_copied_right := PySem.W.mg_of X G a26, f_law_take := f_law_take, d_law_take := _, F_law_take := F27, b_law_take := B27, m_law_take := PySem.W.mg_of X G a27, f_law_choice := f_law_choice, d_law_choice := _, F_law_choice := F28, b_law_choice := B28, m_law_choice := PySem.W.mg_of X G a28, f_law_word := f_law_word, d_law_word := _, F_law_word := F29, b_law_word := B29, m_law_word := PySem.W.mg_of X G a29, f_law_free_token := f_law_free_token, d_law_free_token := _, F_law_free_token := F30, b_law_free_token := B30, m_law_free_token := PySem.W.mg_of X G a30, f_law_size := f_law_size, d_law_size := _, F_law_size := F31, b_law_size := B31, m_law_size := PySem.W.mg_of X G a31, f_law_wide := f_law_wide, d_law_wide := _, F_law_wide := F32, b_law_wide := B32, m_law_wide := PySem.W.mg_of X G a32, f_law_free_tokens := f_law_free_tokens, d_law_free_tokens := _, F_law_free_tokens := F33, b_law_free_tokens := B33, m_law_free_tokens := PySem.W.mg_of X G a33, f_Piece_tokens := f_Piece_tokens, d_Piece_tokens := _, F_Piece_tokens := F34, b_Piece_tokens := B34, f_is_width := f_is_width, d_is_width := _, F_is_width := F35, b_is_width := B35, m_is_width := PySem.W.mg_of X G a35, f_Reader_init := f_Reader_init, d_Reader_init := _, F_Reader_init := F36, b_Reader_init := B36, f_Reader_copied := f_Reader_copied, d_Reader_copied := _, F_Reader_copied := F37, b_Reader_copied := B37, f_Readerput := f_Readerput, d_Readerput := _, F_Readerput := F38, b_Readerput := B38, f_Short_init := f_Short_init, d_Short_init := _, F_Short_init := F39, b_Short_init := B39, f_Readercopy := f_Readercopy, d_Readercopy := _, F_Readercopy := F40, b_Readercopy := B40, f_Readerlast := f_Readerlast, d_Readerlast := _, F_Readerlast := F41, b_Readerlast := B41, f_is_plain := f_is_plain, d_is_plain := _, F_is_plain := F42, b_is_plain := B42, m_is_plain := PySem.W.mg_of X G a42, f_Readertold := f_Readertold, d_Readertold := _, F_Readertold := F43, b_Readertold := B43, f_Reader_read_all := f_Reader_read_all, d_Reader_read_all := _, F_Reader_read_all := F44, b_Reader_read_all := B44, f_law_told := f_law_told, d_law_told := _, F_law_told := F45, b_law_told := B45, m_law_told := PySem.W.mg_of X G a45, f_law_in_parts := f_law_in_parts, d_law_in_parts := _, F_law_in_parts := F46, b_law_in_parts := B46, m_law_in_parts := PySem.W.mg_of X G a46, f_law_plain := f_law_plain, d_law_plain := _, F_law_plain := F47, b_law_plain := B47, m_law_plain := PySem.W.mg_of X G a47, f_Reader_read := f_Reader_read, d_Reader_read := _, F_Reader_read := F48, b_Reader_read := B48, f_law_reader := f_law_reader, d_law_reader := _, F_law_reader := F49, b_law_reader := B49, m_law_reader := PySem.W.mg_of X G a49, f_law_signs := f_law_signs, d_law_signs := _, F_law_signs := F50, b_law_signs := B50, m_law_signs := PySem.W.mg_of X G a50, f_law := fa, d_law := _, F_law := F51, b_law := B51, m_law := PySem.W.mg_of X G a51, c_NoToken := c_NoToken, m_NoToken := PySem.W.mg_of X G aC_NoToken, c_Short := c_Short, m_Short := PySem.W.mg_of X G aC_Short, ox_Short := ⟨⟨_, _, _, _, _, _, _, _, _, _, _, _, _, _, _, xL_Short, rv_Short⟩, xs_Short, xb_Short, xt_Short, xk_Short⟩, oi_Short := oi_Short, ot_Short := ot_Short, nf_Short_distance := nf_Short_distance, nf_Short_ahead := nf_Short_ahead, xo_NoToken := xo_NoToken, xk_NoToken := xk_NoToken, xb_NoToken := xb_NoToken, xt_NoToken := xt_NoToken, te_NoToken_Short := PySem.W.exm_ref xb_Short xd_Short xt_Short ts_NoToken_Short, te_Short_Short := PySem.W.exm_ref xb_Short xd_Short xt_Short ts_Short_Short, c_Piece := c_Piece, m_Piece := PySem.W.mg_of X G aC_Piece, cl_Piece := ⟨pg_Piece, hd_Piece, po_Piece, sa_Piece⟩, mk_Piece := ⟨mk_Piece, a12, i12, kc_Piece⟩, mt_Piece_flushes := ⟨a13, i13, k13⟩, mt_Piece_part := ⟨a18, i18, k18⟩, op_Piece_floordiv := ⟨of19, a19, i19, ⟨_, ob19, op19⟩, ⟨_, oq19⟩, ⟨_, or19⟩, os19⟩, mt_Piece_len := ⟨a20, i20, k20⟩, mt_Piece_needs := ⟨a21, i21, k21⟩, mt_Piece_tokens := ⟨a34, i34, k34⟩, cr_Piece := ⟨rd_Piece, ga_Piece⟩, u_Piece_MOST := .int 40 tc_Piece_MOST, cv_Piece_MOST := ⟨cv_Piece_MOST, ⟨_, rfl⟩⟩, ic_Piece := ic_Piece, it_Piece := it_Piece, ca_Piece := ca_Piece, cg_Piece := cg_Piece, ct_Piece := ct_Piece, mro_Piece := mro_Piece, ne_Piece := ne_Piece, na_Piece_copy := na_Piece_copy, na_Piece_kept := na_Piece_kept, na_Piece_last := na_Piece_last, na_Piece_places := na_Piece_places, na_Piece_put := na_Piece_put, na_Piece_signs := na_Piece_signs, na_Piece_tokens := na_Piece_tokens, na_Piece_told := na_Piece_told, na_Piece_width := na_Piece_width, na_Piece_written := na_Piece_written, c_Reader := c_Reader, m_Reader := PySem.W.mg_of X G aC_Reader, cl_Reader := ⟨pg_Reader, hd_Reader, po_Reader, sa_Reader⟩, mt_Reader_kept := ⟨a22, i22, k22⟩, mt_Reader_written := ⟨a23, i23, k23⟩, mk_Reader := ⟨mk_Reader, a36, i36, kc_Reader⟩, mt_Reader_copied := ⟨a37, i37, k37⟩, mt_Readerput := ⟨a38, i38, k38⟩, mt_Readercopy := ⟨a40, i40, k40⟩, mt_Readerlast := ⟨a41, i41, k41⟩, mt_Readertold := ⟨a43, i43, k43⟩, mt_Reader_read_all := ⟨a44, i44, k44⟩, mt_Reader_read := ⟨a48, i48, k48⟩, ic_Reader := ic_Reader, it_Reader := it_Reader, ca_Reader := ca_Reader, cg_Reader := cg_Reader, ct_Reader := ct_Reader, mro_Reader := mro_Reader, ne_Reader := ne_Reader, na_Reader_kept := na_Reader_kept, na_Reader_places := na_Reader_places, na_Reader_signs := na_Reader_signs, na_Reader_tokens := na_Reader_tokens, na_Reader_width := na_Reader_width, na_Reader_written := na_Reader_written, n_abs := PySem.W.mg_none_of X G z_abs, n_all := PySem.W.mg_none_of X G z_all, n_bool := PySem.W.mg_none_of X G z_bool, n_enumerate := PySem.W.mg_none_of X G z_enumerate, n_int := PySem.W.mg_none_of X G z_int, n_isinstance := PySem.W.mg_none_of X G z_isinstance, n_len := PySem.W.mg_none_of X G z_len, n_list := PySem.W.mg_none_of X G z_list, n_max := PySem.W.mg_none_of X G z_max, n_min := PySem.W.mg_none_of X G z_min, n_range := PySem.W.mg_none_of X G z_range, n_sorted := PySem.W.mg_none_of X G z_sorted, n_str := PySem.W.mg_none_of X G z_str, n_sum := PySem.W.mg_none_of X G z_sum, n_tuple := PySem.W.mg_none_of X G z_tuple, n_zip := PySem.W.mg_none_of X G z_zip, t_MOST_DISTANCE := t_MOST_DISTANCE, m_MOST_DISTANCE := PySem.W.mg_of X G q_MOST_DISTANCE, t_MOST_SIGNS := t_MOST_SIGNS, m_MOST_SIGNS := PySem.W.mg_of X G q_MOST_SIGNS, t_MOST_SIZE := t_MOST_SIZE, m_MOST_SIZE := PySem.W.mg_of X G q_MOST_SIZE, t_MOST_WIDTH := t_MOST_WIDTH, m_MOST_WIDTH := PySem.W.mg_of X G q_MOST_WIDTH }, rfl, rfl⟩
  obtain ⟨T, h1, h2⟩ := T
  refine ⟨PySem.W.fnOf "law" "law" (defArgs s_law) (defBody s_law) (defScope s_law) .none kV51 dc51 pm51 an51 cd51 ct51, fun s v => .of_eq rfl, fun base _ _ => ?_⟩
  · have q := ok_law (P := l.prog) (w := w) (base := base) T
    rw [h1, h2] at q
    exact q
theorem walk {l : PySem.W.OpenLaw} {q : Program} {loose : List Str} {XP : (Str → Option Value) → Heap → Prop} {YP : World → Heap → Prop} {d : DefRec} {K : Params → PySem.W.Frag} (hn : l.most = some 63) (hdf : d.params.defaults = [])
    (hY : ∀ (w : World) (h : Heap), YP w h → (K w.params).In h)
    (F : ∀ (w : World) (mg : Str → Option Value) (fa : Addr) (h : Heap), (K w.params).In h → h.Ns mainGlobals mg → mg d.name = some (.ref fa) →
      ∃ fd : FuncData, (∀ (s : Shared) (u : Value), BindsTo s fd ⟨[u], []⟩ [("_law_script", u)]) ∧ ∀ base : Heap, (K w.params).In base → base.Ns mainGlobals mg → FnG l.prog w (K w.params) mg base 11 fa fd ["_law_script"] (sp_law (K w.params))) :
    PySem.W.WalkO q loose XP YP l.row.toRowW d [] (fun f vs => PySem.call f vs) :=
  walkG (n := 63) (k := 11) (x := "_law_script") (sp := sp_law) hn (by decide) hdf ⟨rfl, by decide, by decide⟩ hY F fun _ _ a ns hl _ hS => ⟨a, ns, rfl, hS, hl, fun _ => rfl⟩
end KW
open PySem PySem.W PyProof.Rows in
set_option maxRecDepth 100000 in
set_option maxHeartbeats 0 in
theorem PySem.Challenge.cw_windowcuts_k00_whole_pieces_need_what_re_holds : PySem.Challenge.rw_windowcuts_k00_whole_pieces_need_what_re.Holds := by
  w_on; o_law; k_head; (case hw => w_witness2)
  k_fill
  refine KW.walk (l := PySem.Challenge.rw_windowcuts_k00_whole_pieces_need_what_re) rfl rfl (fun w h Y => PySem.W.kIn_of Y) ?F
  case F =>
    intro w mg fa h KX G hmg
    refine' KW.all_mk KX G hmg ?aC_Piece ?pg_Piece ?hd_Piece ?po_Piece ?sa_Piece ?kc_Piece ?aC_Reader ?pg_Reader ?hd_Reader ?po_Reader ?sa_Reader ?kc_Reader ?aC_NoToken ?aC_Short ?xb_NoToken ?xt_NoToken ?xk_NoToken ?xd_NoToken ?xb_Short ?xt_Short ?xk_Short ?xd_Short ?xL_Short ?rv_Short ?xs_Short ?oi_Short ?ot_Short ?nf_Short_distance ?nf_Short_ahead ?xo_NoToken ?ts_NoToken_Short ?ts_Short_Short ?a0 ?l0 ?e0 ?k0 ?a1 ?l1 ?e1 ?k1 ?a2 ?l2 ?e2 ?k2 ?a3 ?l3 ?e3 ?k3 ?a4 ?l4 ?e4 ?k4 ?a5 ?l5 ?e5 ?k5 ?a6 ?l6 ?e6 ?k6 ?a7 ?l7 ?e7 ?k7 ?a8 ?l8 ?e8 ?k8 ?a9 ?l9 ?e9 ?k9 ?a10 ?l10 ?e10 ?k10 ?a11 ?l11 ?e11 ?k11 ?a12 ?i12 ?l12 ?e12 ?k12 ?mk_Piece ?a13 ?i13 ?l13 ?e13 ?k13 ?a14 ?l14 ?e14 ?k14 ?a15 ?l15 ?e15 ?k15 ?a16 ?l16 ?e16 ?k16 ?a17 ?l17 ?e17 ?k17 ?a18 ?i18 ?l18 ?e18 ?k18 ?a19 ?i19 ?of19 ?ob19 ?op19 ?oq19 ?or19 ?os19 ?l19 ?e19 ?k19 ?a20 ?i20 ?l20 ?e20 ?k20 ?a21 ?i21 ?l21 ?e21 ?k21 ?a22 ?i22 ?l22 ?e22 ?k22 ?a23 ?i23 ?l23 ?e23 ?k23 ?a24 ?l24 ?e24 ?k24 ?a25 ?l25 ?e25 ?k25 ?a26 ?l26 ?e26 ?k26 ?a27 ?l27 ?e27 ?k27 ?a28 ?l28 ?e28 ?k28 ?a29 ?l29 ?e29 ?k29 ?a30 ?l30 ?e30 ?k30 ?a31 ?l31 ?e31 ?k31 ?a32 ?l32 ?e32 ?k32 ?a33 ?l33 ?e33 ?k33 ?a34 ?i34 ?l34 ?e34 ?k34 ?a35 ?l35 ?e35 ?k35 ?a36 ?i36 ?l36 ?e36 ?k36 ?mk_Reader ?a37 ?i37 ?l37 ?e37 ?k37 ?a38 ?i38 ?l38 ?e38 ?k38 ?l39 ?e39 ?k39 ?a40 ?i40 ?l40 ?e40 ?k40 ?a41 ?i41 ?l41 ?e41 ?k41 ?a42 ?l42 ?e42 ?k42 ?a43 ?i43 ?l43 ?e43 ?k43 ?a44 ?i44 ?l44 ?e44 ?k44 ?a45 ?l45 ?e45 ?k45 ?a46 ?l46 ?e46 ?k46 ?a47 ?l47 ?e47 ?k47 ?a48 ?i48 ?l48 ?e48 ?k48 ?a49 ?l49 ?e49 ?k49 ?a50 ?l50 ?e50 ?k50 ?a51 ?l51 ?e51 ?k51 ?rd_Piece ?ga_Piece ?cv_Piece_MOST ?ic_Piece ?it_Piece ?ca_Piece ?cg_Piece ?ct_Piece ?mro_Piece ?ne_Piece ?na_Piece_copy ?na_Piece_kept ?na_Piece_last ?na_Piece_places ?na_Piece_put ?na_Piece_signs ?na_Piece_tokens ?na_Piece_told ?na_Piece_width ?na_Piece_written ?ic_Reader ?it_Reader ?ca_Reader ?cg_Reader ?ct_Reader ?mro_Reader ?ne_Reader ?na_Reader_kept ?na_Reader_places ?na_Reader_signs ?na_Reader_tokens ?na_Reader_width ?na_Reader_written ?z_abs ?z_all ?z_bool ?z_enumerate ?z_int ?z_isinstance ?z_len ?z_list ?z_max ?z_min ?z_range ?z_sorted ?z_str ?z_sum ?z_tuple ?z_zip ?q_MOST_DISTANCE ?q_MOST_SIGNS ?q_MOST_SIZE ?q_MOST_WIDTH
    (case aC_Piece => k_is)
    (case pg_Piece => k_is)
    (case hd_Piece => k_is)
    (case po_Piece => k_is)
    (case sa_Piece => k_is)
    (case kc_Piece => k_is)
    (case aC_Reader => k_is)
    (case pg_Reader => k_is)
    (case hd_Reader => k_is)
    (case po_Reader => k_is)
    (case sa_Reader => k_is)
    (case kc_Reader => k_is)
    (case aC_NoToken => k_is)
    (case aC_Short => k_is)
    (case xb_NoToken => k_is)
    (case xt_NoToken => k_is)
    (case xk_NoToken => k_is)
    (case xd_NoToken => k_is)
    (case xb_Short => k_is)
    (case xt_Short => k_is)
    (case xk_Short => k_is)
    (case xd_Short => k_is)
    (case xL_Short => k_is)
    (case rv_Short => decide +kernel)
    (case xs_Short => k_is)
    (case oi_Short => k_is)
    (case ot_Short => k_is)
    (case nf_Short_distance => k_is)
    (case nf_Short_ahead => k_is)
    (case xo_NoToken => k_exc)
    (case ts_NoToken_Short => k_is)
    (case ts_Short_Short => k_is)
    (case a0 => k_is)
    (case l0 => k_is)
    (case e0 => k_is)
    (case k0 => k_is)
    (case a1 => k_is)
    (case l1 => k_is)
    (case e1 => k_is)
    (case k1 => k_is)
    (case a2 => k_is)
    (case l2 => k_is)
    (case e2 => k_is)
    (case k2 => k_is)
    (case a3 => k_is)
    (case l3 => k_is)
    (case e3 => k_is)
    (case k3 => k_is)
    (case a4 => k_is)
    (case l4 => k_is)
    (case e4 => k_is)
    (case k4 => k_is)
    (case a5 => k_is)
    (case l5 => k_is)
    (case e5 => k_is)
    (case k5 => k_is)
    (case a6 => k_is)
    (case l6 => k_is)
    (case e6 => k_is)
    (case k6 => k_is)
    (case a7 => k_is)
    (case l7 => k_is)
    (case e7 => k_is)
    (case k7 => k_is)
    (case a8 => k_is)
    (case l8 => k_is)
    (case e8 => k_is)
    (case k8 => k_is)
    (case a9 => k_is)
    (case l9 => k_is)
    (case e9 => k_is)
    (case k9 => k_is)
    (case a10 => k_is)
    (case l10 => k_is)
    (case e10 => k_is)
    (case k10 => k_is)
    (case a11 => k_is)
    (case l11 => k_is)
    (case e11 => k_is)
    (case k11 => k_is)
    (case a12 => k_is)
    (case i12 => k_is)
    (case l12 => k_is)
    (case e12 => k_is)
    (case k12 => k_is)
    (case mk_Piece => k_is)
    (case a13 => k_is)
    (case i13 => k_is)
    (case l13 => k_is)
    (case e13 => k_is)
    (case k13 => k_is)
    (case a14 => k_is)
    (case l14 => k_is)
    (case e14 => k_is)
    (case k14 => k_is)
    (case a15 => k_is)
    (case l15 => k_is)
    (case e15 => k_is)
    (case k15 => k_is)
    (case a16 => k_is)
    (case l16 => k_is)
    (case e16 => k_is)
    (case k16 => k_is)
    (case a17 => k_is)
    (case l17 => k_is)
    (case e17 => k_is)
    (case k17 => k_is)
    (case a18 => k_is)
    (case i18 => k_is)
    (case l18 => k_is)
    (case e18 => k_is)
    (case k18 => k_is)
    (case a19 => k_is)
    (case i19 => k_is)
    (case of19 => k_is)
    (case ob19 => k_is)
    (case op19 => first | exact .inl rfl | exact .inr ⟨_, rfl⟩)
    (case oq19 => k_is)
    (case or19 => k_is)
    (case os19 => k_is)
    (case l19 => k_is)
    (case e19 => k_is)
    (case k19 => k_is)
    (case a20 => k_is)
    (case i20 => k_is)
    (case l20 => k_is)
    (case e20 => k_is)
    (case k20 => k_is)
    (case a21 => k_is)
    (case i21 => k_is)
    (case l21 => k_is)
    (case e21 => k_is)
    (case k21 => k_is)
    (case a22 => k_is)
    (case i22 => k_is)
    (case l22 => k_is)
    (case e22 => k_is)
    (case k22 => k_is)
    (case a23 => k_is)
    (case i23 => k_is)
    (case l23 => k_is)
    (case e23 => k_is)
    (case k23 => k_is)
    (case a24 => k_is)
    (case l24 => k_is)
    (case e24 => k_is)
    (case k24 => k_is)
    (case a25 => k_is)
    (case l25 => k_is)
    (case e25 => k_is)
    (case k25 => k_is)
    (case a26 => k_is)
    (case l26 => k_is)
    (case e26 => k_is)
    (case k26 => k_is)
    (case a27 => k_is)
    (case l27 => k_is)
    (case e27 => k_is)
    (case k27 => k_is)
    (case a28 => k_is)
    (case l28 => k_is)
    (case e28 => k_is)
    (case k28 => k_is)
    (case a29 => k_is)
    (case l29 => k_is)
    (case e29 => k_is)
    (case k29 => k_is)
    (case a30 => k_is)
    (case l30 => k_is)
    (case e30 => k_is)
    (case k30 => k_is)
    (case a31 => k_is)
    (case l31 => k_is)
    (case e31 => k_is)
    (case k31 => k_is)
    (case a32 => k_is)
    (case l32 => k_is)
    (case e32 => k_is)
    (case k32 => k_is)
    (case a33 => k_is)
    (case l33 => k_is)
    (case e33 => k_is)
    (case k33 => k_is)
    (case a34 => k_is)
    (case i34 => k_is)
    (case l34 => k_is)
    (case e34 => k_is)
    (case k34 => k_is)
    (case a35 => k_is)
    (case l35 => k_is)
    (case e35 => k_is)
    (case k35 => k_is)
    (case a36 => k_is)
    (case i36 => k_is)
    (case l36 => k_is)
    (case e36 => k_is)
    (case k36 => k_is)
    (case mk_Reader => k_is)
    (case a37 => k_is)
    (case i37 => k_is)
    (case l37 => k_is)
    (case e37 => k_is)
    (case k37 => k_is)
    (case a38 => k_is)
    (case i38 => k_is)
    (case l38 => k_is)
    (case e38 => k_is)
    (case k38 => k_is)
    (case l39 => k_is)
    (case e39 => k_is)
    (case k39 => k_is)
    (case a40 => k_is)
    (case i40 => k_is)
    (case l40 => k_is)
    (case e40 => k_is)
    (case k40 => k_is)
    (case a41 => k_is)
    (case i41 => k_is)
    (case l41 => k_is)
    (case e41 => k_is)
    (case k41 => k_is)
    (case a42 => k_is)
    (case l42 => k_is)
    (case e42 => k_is)
    (case k42 => k_is)
    (case a43 => k_is)
    (case i43 => k_is)
    (case l43 => k_is)
    (case e43 => k_is)
    (case k43 => k_is)
    (case a44 => k_is)
    (case i44 => k_is)
    (case l44 => k_is)
    (case e44 => k_is)
    (case k44 => k_is)
    (case a45 => k_is)
    (case l45 => k_is)
    (case e45 => k_is)
    (case k45 => k_is)
    (case a46 => k_is)
    (case l46 => k_is)
    (case e46 => k_is)
    (case k46 => k_is)
    (case a47 => k_is)
    (case l47 => k_is)
    (case e47 => k_is)
    (case k47 => k_is)
    (case a48 => k_is)
    (case i48 => k_is)
    (case l48 => k_is)
    (case e48 => k_is)
    (case k48 => k_is)
    (case a49 => k_is)
    (case l49 => k_is)
    (case e49 => k_is)
    (case k49 => k_is)
    (case a50 => k_is)
    (case l50 => k_is)
    (case e50 => k_is)
    (case k50 => k_is)
    (case a51 => k_is)
    (case l51 => k_is)
    (case e51 => k_is)
    (case k51 => k_is)
    (case rd_Piece => k_is)
    (case ga_Piece => k_is)
    (case cv_Piece_MOST => k_is)
    (case ic_Piece => k_is)
    (case it_Piece => k_is)
    (case ca_Piece => k_is)
    (case cg_Piece => k_is)
    (case ct_Piece => k_is)
    (case mro_Piece => k_is)
    (case ne_Piece => k_is)
    (case na_Piece_copy => k_is)
    (case na_Piece_kept => k_is)
    (case na_Piece_last => k_is)
    (case na_Piece_places => k_is)
    (case na_Piece_put => k_is)
    (case na_Piece_signs => k_is)
    (case na_Piece_tokens => k_is)
    (case na_Piece_told => k_is)
    (case na_Piece_width => k_is)
    (case na_Piece_written => k_is)
    (case ic_Reader => k_is)
    (case it_Reader => k_is)
    (case ca_Reader => k_is)
    (case cg_Reader => k_is)
    (case ct_Reader => k_is)
    (case mro_Reader => k_is)
    (case ne_Reader => k_is)
    (case na_Reader_kept => k_is)
    (case na_Reader_places => k_is)
    (case na_Reader_signs => k_is)
    (case na_Reader_tokens => k_is)
    (case na_Reader_width => k_is)
    (case na_Reader_written => k_is)
    (case z_abs => k_is)
    (case z_all => k_is)
    (case z_bool => k_is)
    (case z_enumerate => k_is)
    (case z_int => k_is)
    (case z_isinstance => k_is)
    (case z_len => k_is)
    (case z_list => k_is)
    (case z_max => k_is)
    (case z_min => k_is)
    (case z_range => k_is)
    (case z_sorted => k_is)
    (case z_str => k_is)
    (case z_sum => k_is)
    (case z_tuple => k_is)
    (case z_zip => k_is)
    (case q_MOST_DISTANCE => k_is)
    (case q_MOST_SIGNS => k_is)
    (case q_MOST_SIZE => k_is)
    (case q_MOST_WIDTH => k_is)
